import PyProof.Rows.All
import Wide.All
import OpenK.AllK
import Wide.FinOn
import HandS.ForMost
import HandS.ForExc
import HandS.Wide
import HandS.Codes
import HandS.IsInst
import HandS.SortInts
import HandS.Conv
import HandS.Style
import HandS.Defaults
import HandS.Strs
import HandS.Zip
import HandS.ExcInit
import HandS.ExcField
import HandS.ExcIs
import HandS.TryOnly
import HandS.Walk
import KE.GoesMore
import PyProof.Draws
import PyProof.InstNe
import KE.KCallOwn
import HandS.OwnEq
import HandS.SlotsOwn
import HandS.FStr
import HandS.RaiseMore
import HandS.TupAny
import HandS.TupMul
import HandS.TupLe
import HandS.Deep
import HandS.Star
import HandS.ClsMeth
import HandS.Replace
import HandS.WordsExc
import PyProof.EqKinds
import PyProof.SeqRoads
import HandS.Text
import KE.KIntText
import KE.IntTextLaws
import KE.IntTextText
import KE.KUnpackStar
import KE.GoesEnum
import PyProof.ReprLen
import PyProof.StrLawsRepr
import PySem.Challenge.RW_termstill_k48_unsure_occasions_made
set_option Elab.async false
set_option maxRecDepth 100000
namespace Ts
open PySem L2

/-! ### heaps -/
/-- all but two places stay -/
def Kept (D L : Addr) (H H' : Hp) : Prop := ∀ b o, b ≠ D → b ≠ L → H b = some o → H' b = some o
theorem Kept.refl {D L : Addr} {H : Hp} : Kept D L H H := fun _ _ _ _ h => h
theorem Kept.trans {D L : Addr} {H H1 H2 : Hp} (a : Kept D L H H1) (b : Kept D L H1 H2) : Kept D L H H2 := fun c o h1 h2 h => b c o h1 h2 (a c o h1 h2 h)
theorem Kept.new {D L p : Addr} {o : HO} {H H1 : Hp} (a : Kept D L H H1) (h : H1 p = none) : Kept D L H (upd H1 p o) := fun b u h1 h2 e => by
  rw [upd_ne (ne_of_none (a b u h1 h2 e) h)]
  exact a b u h1 h2 e
theorem Kept.atD {D L : Addr} {o : HO} {H H1 : Hp} (a : Kept D L H H1) : Kept D L H (upd H1 D o) := fun b u h1 h2 e => by
  rw [upd_ne h1]
  exact a b u h1 h2 e
theorem Kept.atL {D L : Addr} {o : HO} {H H1 : Hp} (a : Kept D L H H1) : Kept D L H (upd H1 L o) := fun b u h1 h2 e => by
  rw [upd_ne h2]
  exact a b u h1 h2 e
theorem Same.kept {D L : Addr} {H H' : Hp} (s : Same H H') : Kept D L H H' := fun b o _ _ h => s b o h
theorem Same.new {H H1 : Hp} {p : Addr} {o : HO} (s : Same H H1) (h : H1 p = none) : Same H (upd H1 p o) := fun b u e => by
  rw [upd_ne (ne_of_none (s b u e) h)]
  exact s b u e

/-! ### lists of ints compared with the empty list -/
theorem dpAll_ints {K : PySem.W.Frag} {H : Hp} : ∀ cs : List Int, DpAll K H (cs.map V.int) (cs.map PyData.int)
  | [] => .nil
  | c :: cs => .cons (.int c) (dpAll_ints cs)
theorem eqv_nil (cs : List Int) : PyData.eqv (.list (cs.map PyData.int)) (.list []) = cs.isEmpty := by
  cases cs with
  | nil => rfl
  | cons c cs => rfl
theorem ne_nil {K : PySem.W.Frag} {H : Hp} {L p : Addr} {cs : List Int} (hL : SqL K H L (cs.map V.int)) (hp : H p = some (.lst [])) {Q : VK} (q : Q (.bl (!cs.isEmpty)) H) : rNeD K (.ref L) (.ref p) H Q := by
  refine ⟨.list (cs.map .int), .list [], .lst hL (dpAll_ints cs), .lst (SqL.of hp) .nil, PySem.W.ke_shaped_ints cs, PySem.W.ke_shaped_ints [], ?_⟩
  rw [eqv_nil]
  exact q

/-! ### what the law draws from -/
/-- at D the pair (list of the great cells, a small number), the list at L -/
structure DealAt (H : Hp) (D L : Addr) : Prop where
  ex : ∃ (cs : List Int) (m : Int), H D = some (.lst [.ref L, .int m]) ∧ H L = some (.lst (cs.map V.int)) ∧ cs.length ≤ 60 ∧ (∀ c ∈ cs, 0 ≤ c) ∧ 0 ≤ m ∧ m < 2147483647
theorem deal_ne {H : Hp} {D L : Addr} {m : Int} {cs : List Int} (h1 : H D = some (.lst [.ref L, .int m])) (h2 : H L = some (.lst (cs.map V.int))) : D ≠ L := by
  intro e
  subst e
  rw [h1] at h2
  cases cs with
  | nil => cases h2
  | cons c cs => cases h2
theorem DealAt.ne {H : Hp} {D L : Addr} (d : DealAt H D L) : D ≠ L := by
  obtain ⟨cs, m, h1, h2, _⟩ := d.ex
  exact deal_ne h1 h2
theorem DealAt.someD {H : Hp} {D L : Addr} (d : DealAt H D L) : ∃ o, H D = some o := by
  obtain ⟨cs, m, h1, h2, _⟩ := d.ex
  exact ⟨_, h1⟩
theorem DealAt.someL {H : Hp} {D L : Addr} (d : DealAt H D L) : ∃ o, H L = some o := by
  obtain ⟨cs, m, h1, h2, _⟩ := d.ex
  exact ⟨_, h2⟩
theorem DealAt.same {H H' : Hp} {D L : Addr} (d : DealAt H D L) (s : Same H H') : DealAt H' D L := by
  obtain ⟨cs, m, h1, h2, r⟩ := d.ex
  exact ⟨cs, m, s _ _ h1, s _ _ h2, r⟩
/-- a draw, or several: the deal goes on, all else stays -/
structure Went (D L : Addr) (H H' : Hp) : Prop where
  d : DealAt H' D L
  k : Kept D L H H'
theorem Went.trans {D L : Addr} {H H1 H2 : Hp} (a : Went D L H H1) (b : Went D L H1 H2) : Went D L H H2 := ⟨b.d, a.k.trans b.k⟩
theorem Went.same {D L : Addr} {H H1 H2 : Hp} (a : Went D L H H1) (s : Same H1 H2) : Went D L H H2 := ⟨a.d.same s, a.k.trans (Same.kept s)⟩
theorem Went.new {D L p : Addr} {o : HO} {H H1 : Hp} (a : Went D L H H1) (h : H1 p = none) : Went D L H (upd H1 p o) := a.same (Same.new (Same.refl _) h)

/-! ### the promise of a draw -/
def spDraw : Sp := fun vs H Q _ => ∃ (D L : Addr) (n : Int), vs = [.ref D, .int n] ∧ DealAt H D L ∧ 0 < n ∧ n < 2 ^ 64 ∧
  ∀ (d : Int) (H' : Hp), 0 ≤ d → d < n → Went D L H H' → Q (.int d) H'
theorem fdiv_nonneg {a b : Int} (h1 : 0 ≤ a) (h2 : 0 < b) : 0 ≤ a / b := Int.ediv_nonneg h1 (Int.le_of_lt h2)

theorem cs_last {cs : List Int} (h : cs.isEmpty = false) : ∃ ds d, cs = ds ++ [d] := by
  cases cs with
  | nil => cases h
  | cons c cs => exact ⟨(c :: cs).dropLast, (c :: cs).getLast (by simp), (List.dropLast_concat_getLast (by simp)).symm⟩

theorem cut_to {α : Type} (f : α → V) (xs : List α) (k : Nat) : cutV (xs.map f) none (some (k : Int)) = (xs.take k).map f := by
  unfold cutV
  rw [HT.sIx_none, HT.sIx_nat, List.drop_zero, Nat.sub_zero, List.map_take, List.length_map]
  by_cases h : k ≤ xs.length
  · rw [Nat.min_eq_left h]
  · rw [Nat.min_eq_right (by omega), List.take_of_length_le (by rw [List.length_map]; exact Nat.le_refl _), List.take_of_length_le (by rw [List.length_map]; omega)]
/-- the item of a mapped list -/
theorem map_at {α : Type} {f : α → V} {xs : List α} {i : Nat} {y : V} (h : (xs.map f)[i]? = some y) : ∃ x, y = f x ∧ xs[i]? = some x := by
  rw [List.getElem?_map] at h
  cases e : xs[i]? with
  | none => rw [e] at h; cases h
  | some x => rw [e] at h; exact ⟨x, (Option.some.inj h).symm, rfl⟩
theorem at_lt {α : Type} {xs : List α} {i : Nat} {x : α} (h : xs[i]? = some x) : i < xs.length := (List.getElem?_eq_some_iff.mp h).1
theorem at_mem {α : Type} {xs : List α} {i : Nat} {x : α} (h : xs[i]? = some x) : x ∈ xs := List.mem_of_getElem? h
theorem abs_nn (i : Int) : 0 ≤ (if i < 0 then -i else i) := by split <;> omega
theorem same_upd_new {H H1 : Hp} {p : Addr} {o : HO} (s : Same H H1) (hp : H p = none) : Same H (upd H1 p o) := fun b u e => by
  rw [upd_ne (ne_of_none e hp)]
  exact s b u e
theorem yes_ {σ : L2.St} {H : Hp} {A : Hp → Prop} {B : Hp → Prop} (h : A H) : tYes σ H (fun b H3 => if b = true then A H3 else B H3) := by
  show (if true = true then A H else B H)
  exact iteT h
def spDeal (K : PySem.W.Frag) : Sp := fun vs H Q _ => ∃ (a : Addr) (ns : List Int), vs = [.ref a] ∧ SqL K H a (ns.map V.int) ∧ ns.length ≤ 63 ∧
  ∀ (D L : Addr) (H' : Hp), DealAt H' D L → Same H H' → H D = none → H L = none → Q (.ref D) H'

/-! ### flat values -/
def okV : V → Bool
  | .non => true
  | .bl _ => true
  | .int _ => true
  | .str x => PySem.PyData.strOk x
  | _ => false
def toD : V → PyData
  | .non => .none
  | .bl b => .bool b
  | .int i => .int i
  | .str x => .str x
  | _ => .none
theorem dp_ok {K : PySem.W.Frag} {H : Hp} {v : V} (h : okV v = true) : Dp K H v (toD v) := by
  cases v with
  | non => exact .non
  | bl b => exact .bl b
  | int i => exact .int i
  | str x => exact .str x
  | byt b => cases h
  | flt b => cases h
  | ref a => cases h
  | ty n => cases h
theorem dpAll_ok {K : PySem.W.Frag} {H : Hp} : ∀ {xs : List V}, xs.all okV = true → DpAll K H xs (xs.map toD)
  | [], _ => .nil
  | x :: xs, h => by
    rw [List.all_cons, Bool.and_eq_true] at h
    exact .cons (dp_ok h.1) (dpAll_ok h.2)
theorem lay_ok {v : V} (h : okV v = true) : PyData.canLay0 (toD v) = true := by
  cases v <;> first | rfl | exact h | cases h
theorem layAll_ok : ∀ {xs : List V}, xs.all okV = true → PyData.canLayAll0 (xs.map toD) = true
  | [], _ => rfl
  | x :: xs, h => by
    rw [List.all_cons, Bool.and_eq_true] at h
    simp [PyData.canLayAll0, lay_ok h.1, layAll_ok h.2]
theorem depth_ok (v : V) : PyData.depth (toD v) = 0 := by cases v <;> rfl
theorem depthAll_ok : ∀ xs : List V, PyData.depthAll (xs.map toD) = 0
  | [] => rfl
  | x :: xs => by simp [PyData.depthAll, depth_ok, depthAll_ok xs]
theorem shaped_ok {xs : List V} (h : xs.all okV = true) : SeqAt.shaped (.list (xs.map toD)) = true := by
  simp [SeqAt.shaped, PyData.canLay0, PyData.depth, layAll_ok h, depthAll_ok]
theorem eqv_nilF (xs : List V) : PyData.eqv (.list (xs.map toD)) (.list []) = xs.isEmpty := by
  cases xs with
  | nil => rfl
  | cons c cs => rfl
theorem ne_nilF {K : PySem.W.Frag} {H : Hp} {L p : Addr} {xs : List V} (hL : SqL K H L xs) (ho : xs.all okV = true) (hp : H p = some (.lst [])) {Q : VK} (q : Q (.bl (!xs.isEmpty)) H) : rNeD K (.ref L) (.ref p) H Q := by
  refine ⟨.list (xs.map toD), .list [], .lst hL (dpAll_ok ho), .lst (SqL.of hp) .nil, shaped_ok ho, PySem.W.ke_shaped_ints [], ?_⟩
  rw [eqv_nilF]
  exact q
theorem okV_flat {v : V} (h : okV v = true) : flatV v = true := by
  cases v <;> first | rfl | cases h
theorem Kept.seq {K : PySem.W.Frag} {D L a : Addr} {xs : List V} {H H' : Hp} (k : Kept D L H H') (h1 : a ≠ D) (h2 : a ≠ L) (h : SqL K H a xs) : SqL K H' a xs := by
  rcases h with (h | ⟨o, h⟩) | h
  · exact .inl (.inl (k _ _ h1 h2 h))
  · exact .inl (.inr ⟨o, k _ _ h1 h2 h⟩)
  · exact .inr h
/-- not one of the deal's two lists -/
def Off (H : Hp) (D L a : Addr) : Prop := a ≠ D ∧ a ≠ L
theorem off_new {H : Hp} {D L a : Addr} (d : DealAt H D L) (h : H a = none) : a ≠ D ∧ a ≠ L := by
  obtain ⟨o, hD⟩ := d.someD
  obtain ⟨o', hL⟩ := d.someL
  exact ⟨(ne_of_none hD h).symm, (ne_of_none hL h).symm⟩

/-! ### picking, mixing -/
def spPick (K : PySem.W.Frag) : Sp := fun vs H Q _ => ∃ (D L a : Addr) (xs : List V), vs = [.ref D, .ref a] ∧ DealAt H D L ∧ SqL K H a xs ∧ a ≠ D ∧ a ≠ L ∧ 0 < xs.length ∧ xs.length ≤ 1000 ∧
  ∀ (v : V) (H' : Hp), v ∈ xs → Went D L H H' → Q v H'
def spMixed (K : PySem.W.Frag) : Sp := fun vs H Q _ => ∃ (D L a : Addr) (xs : List V), vs = [.ref D, .ref a] ∧ DealAt H D L ∧ SqL K H a xs ∧ a ≠ D ∧ a ≠ L ∧ xs.all okV = true ∧ xs.length ≤ 1000 ∧
  ∀ (p : Addr) (ys : List V) (H' : Hp), ys.Perm xs → Went D L H H' → H p = none → H' p = some (.lst ys) → Q (.ref p) H'
theorem seqIndex_nat {j n : Nat} (h : j < n) : seqIndex? (j : Int) n = some j := by
  unfold seqIndex?
  simp only [show ¬ ((j : Int) < 0) by omega, if_false]
  rw [show (decide (0 ≤ (j : Int)) && decide ((j : Int) < (n : Int))) = true by simp; omega]
  simp
theorem erase_perm {α : Type} : ∀ {xs : List α} {j : Nat} {y : α}, xs[j]? = some y → (y :: xs.eraseIdx j).Perm xs
  | [], j, y, h => by simp at h
  | x :: xs, 0, y, h => by
    have e : x = y := Option.some.inj h
    rw [e]
    exact List.Perm.refl _
  | x :: xs, j + 1, y, h => by
    have ih := erase_perm (xs := xs) (j := j) (y := y) h
    exact (List.Perm.swap x y _).trans (ih.cons x)
end Ts

namespace Ts
open PySem L2
open PySem.Builtin in
/-- sorted(xs), xs a list or a tuple of ints -/
def rSortedQ (K : PySem.W.Frag) : List V → Hp → VK → Prop := fun vs H Q => ∃ (a : Addr) (ns : List Int), vs = [V.ref a] ∧ (SqL K H a (ns.map V.int) ∨ SqT K H a (ns.map V.int)) ∧
  ∀ (ys : List Int) (p : Addr), ys.Perm ns → ys.Pairwise (· ≤ ·) → H p = none → Q (.ref p) (upd H p (.lst (ys.map V.int)))
section
variable {X : Cx}
open PyProof.Rows in
theorem cr_sortedQ : CallR X (.builtin "sorted") (rSortedQ X.K) := by
  intro pins s σ H vs us Q I r h
  obtain ⟨a, ns, rfl, hs, q⟩ := h
  rw [Vals.ref1 r]
  have hob : ∃ (T : String) (o : Obj) (its : List Value) (n : Nat), (T = "list" ∨ T = "tuple") ∧ s.heap.get? a = some o ∧ o.cls = .type T ∧ o.data = .seq its.toArray n ∧ Vals (ns.map V.int) its ∧ (ns.map V.int).length ≤ sizeLine := by
    rcases hs with hs | hs
    · obtain ⟨its, rv, ⟨o, n, e1, e2, _, e3⟩, hz⟩ := I.list hs
      exact ⟨_, o, its, n, .inl rfl, e1, e2, e3, rv, hz⟩
    · obtain ⟨its, rv, ⟨o, e1, e2, n, e3⟩, hz⟩ := I.tuple hs
      exact ⟨_, o, its, n, .inr rfl, e1, e2, e3, rv, hz⟩
  obtain ⟨T, o, its, n, hT, e1, e2, e3, rv, hz⟩ := hob
  have hi := rv.ints
  have hl : its.length ≤ sizeLine := by rw [← rv.length]; exact hz
  refine Calls.call_function_entry kind_sorted (prog := X.prog) (w := X.w) plain_sorted entry_sorted (args_sorted1 _) ?_
  unfold PySem.Builtin.«sorted»
  refine wpAny_bind (m := PySem.checkCount "sorted" 1 1 _) (wpAny_pure (wpAny_bind ?_))
  refine wpAny_collect_seq a hT e1 e2 e3 (fun h1 keep => wpAny_bind (wpAny_newList ?_ (by simpa using hl))) (by rw [List.size_toArray]; exact hl)
  have I1 : Inv X pins σ H { s with heap := h1 } := I.kept (t' := s.toks) keep
  have hnew : (h1.push (seqObj "list" its.toArray 0)).get? h1.objs.size = some (seqObj "list" its.toArray 0) := Heap.get?_push_size _ rfl
  refine wpAny_bind (wpAny_holding (wpAny_call_entry slot_list_sort ⟨_, hnew, rfl⟩ entry_list_sort (SrtO.list_sort_ord SrtO.swo_int hnew hl (fun h2 => SrtO.ints_sortable hi h2) fun out o1 o2 => ⟨_, rfl, wpAny_pure ⟨_, rfl, ?_⟩⟩) (args_list_sort _)))
  obtain ⟨k1, k2, k3⟩ := SrtO.ints_out hi o1 o2
  obtain ⟨ep, hat⟩ := PyProof.Rows.sortedHeap_at (vs := its) (out := out.toArray) hnew
  have hlen : ((out.map SrtO.iv).map V.int).length ≤ sizeLine := by
    rw [List.length_map, k2.length_eq, ← List.length_map (f := V.int)]
    exact hz
  refine ⟨.ref _, upd H h1.objs.size (.lst ((out.map SrtO.iv).map V.int)), I1.laid (t' := s.toks) (fun b u e => ?_) (Nat.le_refl _) ⟨hlen, out, ep, vals_of_ints k1, hat⟩, rfl, q _ _ k2 k3 (I1.hok.fresh (Nat.le_refl _))⟩
  have hb : b < h1.objs.size := Heap.lt_size e
  rw [PyProof.Rows.sortedHeap_old (Nat.ne_of_lt hb) (Heap.lt_size (Heap.get?_push_of_some (seqObj "list" its.toArray 0) e))]
  exact Heap.get?_push_of_some _ e
end
end Ts

namespace Ts
open PySem L2
/-! ### values and their types -/
inductive Kd where
  | non | bl | int | str | lst | tup | own
  deriving DecidableEq
def Kd.inI : Kd → Bool | .int => true | .bl => true | _ => false
def Kd.inB : Kd → Bool | .bl => true | _ => false
def Kd.inS : Kd → Bool | .str => true | _ => false
def Kd.inL : Kd → Bool | .lst => true | _ => false
def Kd.inT : Kd → Bool | .tup => true | _ => false
structure TyV (K : PySem.W.Frag) (H : Hp) (v : V) (k : Kd) : Prop where
  ex : ∃ t, TyX K H v t ∧ PySem.W.kitOne K t (.type "int") = some k.inI ∧ PySem.W.kitOne K t (.type "bool") = some k.inB ∧ PySem.W.kitOne K t (.type "str") = some k.inS ∧ PySem.W.kitOne K t (.type "list") = some k.inL ∧ PySem.W.kitOne K t (.type "tuple") = some k.inT
  i1 : k = .int → ∃ i, v = .int i
  s1 : k = .str → ∃ x, v = .str x
theorem tyV_int {K : PySem.W.Frag} {H : Hp} {i : Int} : TyV K H (.int i) .int :=
  ⟨⟨_, .base (.int i), kit_ty (by decide +kernel), kit_ty (by decide +kernel), kit_ty (by decide +kernel), kit_ty (by decide +kernel), kit_ty (by decide +kernel)⟩, fun _ => ⟨i, rfl⟩, fun h => (by cases h)⟩
theorem tyV_bl {K : PySem.W.Frag} {H : Hp} {b : Bool} : TyV K H (.bl b) .bl :=
  ⟨⟨_, .base (.bl b), kit_ty (by decide +kernel), kit_ty (by decide +kernel), kit_ty (by decide +kernel), kit_ty (by decide +kernel), kit_ty (by decide +kernel)⟩, fun h => (by cases h), fun h => (by cases h)⟩
theorem tyV_non {K : PySem.W.Frag} {H : Hp} : TyV K H .non .non :=
  ⟨⟨_, .base .non, kit_ty (by decide +kernel), kit_ty (by decide +kernel), kit_ty (by decide +kernel), kit_ty (by decide +kernel), kit_ty (by decide +kernel)⟩, fun h => (by cases h), fun h => (by cases h)⟩
theorem tyV_str {K : PySem.W.Frag} {H : Hp} {x : Str} : TyV K H (.str x) .str :=
  ⟨⟨_, .base (.str x), kit_ty (by decide +kernel), kit_ty (by decide +kernel), kit_ty (by decide +kernel), kit_ty (by decide +kernel), kit_ty (by decide +kernel)⟩, fun h => (by cases h), fun _ => ⟨x, rfl⟩⟩
theorem tyV_list {K : PySem.W.Frag} {H : Hp} {a : Addr} {xs : List V} (h : SqL K H a xs) : TyV K H (.ref a) .lst := by
  refine ⟨?_, fun h => (by cases h), fun h => (by cases h)⟩
  have e : TyX K H (.ref a) (.type "list") := by
    rcases h with (h | ⟨o, h⟩) | ⟨o, its, n, h1, h2, _⟩
    · exact .base (.lst h)
    · exact .base (.frz h)
    · exact .kList h1 h2
  exact ⟨_, e, kit_ty (by decide +kernel), kit_ty (by decide +kernel), kit_ty (by decide +kernel), kit_ty (by decide +kernel), kit_ty (by decide +kernel)⟩
theorem tyV_tup {K : PySem.W.Frag} {H : Hp} {a : Addr} {xs : List V} (h : SqT K H a xs) : TyV K H (.ref a) .tup := by
  refine ⟨?_, fun h => (by cases h), fun h => (by cases h)⟩
  have e : TyX K H (.ref a) (.type "tuple") := by
    rcases h with (h | ⟨o, h⟩) | ⟨o, its, n, h1, h2, _⟩
    · exact .base (.tup h)
    · exact .fTuple h
    · exact .kTuple h1 h2
  exact ⟨_, e, kit_ty (by decide +kernel), kit_ty (by decide +kernel), kit_ty (by decide +kernel), kit_ty (by decide +kernel), kit_ty (by decide +kernel)⟩
theorem TyX.same {K : PySem.W.Frag} {H H' : Hp} {v : V} {t : Value} (h : TyX K H v t) (s : Same H H') : TyX K H' v t := by
  cases h with
  | base h =>
    refine .base ?_
    cases h with
    | non => exact .non
    | bl x => exact .bl x
    | int i => exact .int i
    | str x => exact .str x
    | flt x => exact .flt x
    | lst e => exact .lst (s _ _ e)
    | frz e => exact .frz (s _ _ e)
    | tup e => exact .tup (s _ _ e)
    | dK e => exact .dK (s _ _ e)
    | dT e => exact .dT (s _ _ e)
    | ins e cl ha hn htk hm => exact .ins (s _ _ e) cl ha hn htk hm
  | byt b => exact .byt b
  | set e => exact .set (s _ _ e)
  | kList e c => exact .kList e c
  | kTuple e c => exact .kTuple e c
  | kDict e c => exact .kDict e c
  | fTuple e => exact .fTuple (s _ _ e)
  | fDict e => exact .fDict (s _ _ e)
theorem TyV.same {K : PySem.W.Frag} {H H' : Hp} {v : V} {k : Kd} (h : TyV K H v k) (s : Same H H') : TyV K H' v k := by
  obtain ⟨⟨t, h1, h2⟩, h3, h4⟩ := h
  exact ⟨⟨t, TyX.same h1 s, h2⟩, h3, h4⟩
theorem Same.sqt {K : PySem.W.Frag} {H H' : Hp} {a : Addr} {xs : List V} (e : Same H H') (h : SqT K H a xs) : SqT K H' a xs := by
  rcases h with (h | ⟨o, h⟩) | h
  · exact .inl (.inl (e _ _ h))
  · exact .inl (.inr ⟨o, e _ _ h⟩)
  · exact .inr h
/-- the answer of is_count -/
def cntV : V → Bool
  | .int i => decide (1 ≤ i)
  | _ => false
def spIsInt (K : PySem.W.Frag) : Sp := fun vs H Q _ => ∃ (v : V) (k : Kd), vs = [v] ∧ TyV K H v k ∧ Q (.bl (decide (k = .int))) H
def spIsCount (K : PySem.W.Frag) : Sp := fun vs H Q _ => ∃ (v : V) (k : Kd), vs = [v] ∧ TyV K H v k ∧ Q (.bl (decide (k = .int) && cntV v)) H
def spIsSeq (K : PySem.W.Frag) : Sp := fun vs H Q _ => ∃ (v : V) (k : Kd), vs = [v] ∧ TyV K H v k ∧ ∀ H', Same H H' → Q (.bl (k.inL || k.inT)) H'
end Ts

namespace Ts
open PySem L2
/-! ### isinstance of a caught error that keeps something -/
section
variable {prog : Program} {w : World} {A : Around} {E : Value → Shared → Prop} {s : Shared} {K : PySem.W.Frag} {x D : Addr} {ox od : Obj}
open PySem.W PySem.Calls PyProof.Rows
theorem class_of_err {Q : Option Value → Shared → Prop} (c : ExcC K D) (X : K.In s.heap) (I : InstAt s.heap x ox D (some od)) (h : Q (some (.ref D)) { s with toks := s.toks + 1 }) :
    wpAny (model prog w) A (getAttr? (.ref x) "__class__") Q E s := by
  have some_cls : (clsIn K D).isSome = true := by
    obtain ⟨cd, e, _⟩ := any_some c.hd
    rw [e]
    rfl
  have found : findObj K D (some od) "__class__" = _ := findObj_data some_cls c.ha c.hn c.ht
  have n2 : (Value.builtin "BaseException.__getattribute__" == Value.builtin "object.__getattribute__") = false := by decide +kernel
  have n1 : (onTheHeap (Value.ref D) && Value.builtin "BaseException.__getattribute__" == Value.builtin "object.__getattribute__") = false := by
    rw [n2]
    rfl
  have n0 : (false && onTheHeap (Value.builtin "BaseException.__getattribute__")) = false := rfl
  obtain ⟨hp, gs, dr, tk, os⟩ := s
  have ty := I.type (M := model prog w)
  have l3 := looks_find (M := model prog w) X I found
  unfold getAttr? getAttrBy? getAttrBy
  refine wpAny_bind (wpAny_mkText (wpAny_bind (wpAny_attempt (wpAny_holding (wpAny_bind (ty.at (wpAny_bind ((looks_findIn (M := model prog w) X c.hg).at ?_))))))))
  refine (show wpAny _ _ (if (onTheHeap (Value.ref D) && Value.builtin "BaseException.__getattribute__" == Value.builtin "object.__getattribute__") = true then _ else _) _ _ _ from ?_)
  rw [n1, if_neg Bool.false_ne_true]
  unfold getAttrByItsOwn hookBefore
  refine wpAny_bind ?_
  rw [if_pos (show onTheHeap (Value.ref D) = true by rfl)]
  refine (looks_findIn (M := model prog w) X c.hk).at (wpAny_bind (wpAny_attempt (wpAny_holding ?_)))
  unfold callGetattribute
  rw [n0, if_neg Bool.false_ne_true]
  unfold boundAndCalled
  rw [PySem.F.excAttr_ValueError.ga.bind (.ref x)]
  refine wpAny_bind (wpAny_pure (show wpAny _ _ (call (.builtin "BaseException.__getattribute__") [.ref x, .str "__class__" tk]) _ _ _ from ?_))
  refine wpAny_call (codeAny_call_builtin PySem.F.excAttr_ValueError.ga.plain PySem.F.entry_bexc_ga ?_)
  refine @check_slot (model prog w) _ _ ⟨hp, gs, dr, tk + 1, os⟩ "BaseException.__getattribute__" "BaseException" "__getattribute__" (.ref x) [.str "__class__" tk] [] _ (by decide +kernel) (by decide +kernel) (ty.andThen (looks_subIn X c.hs)) (PySem.F.args_bexc_ga (.ref x) (.str "__class__" tk)) ?_
  unfold Builtin.«object.__getattribute__»
  refine wpAny_bind (wpAny_of_eq (a := ((Value.ref x : Value), [Value.str "__class__" tk])) (by first | rfl | (simp only [slotArgs]; rfl)) (wpAny_bind (wpAny_pure (wpAny_bind (ty.at (wpAny_bind (l3.at ?_)))))))
  refine (show wpAny _ _ (holding [Value.builtin "object.__class__"] (call (.builtin "getset_descriptor.__get__") [.builtin "object.__class__", .ref x, .ref D]) >>= ret) _ _ _ from ?_)
  refine wpAny_bind (wpAny_holding (wpAny_call (class_get (s := ⟨hp, gs, dr, tk + 1, os⟩) (ox := ox) (od := some od) X I c.hm (wpAny_pure ?_))))
  refine (show wpAny _ _ (handedOut (.ref D)) _ _ _ from ?_)
  rw [handedOut_of (v := .ref D) rfl]
  first
    | exact wpAny_pure (wpAny_pure h)
    | exact wpAny_pure h
    | exact wpAny_pure (wpAny_bind (wpAny_pure (wpAny_pure h)))
theorem kit_err (c : ExcC K D) : KitX K (.ref x) (.ref D) (fun h => InstAt h x ox D (some od)) where
  ty := fun _ _ _ I => I.type
  it := fun _ _ X _ => by
    obtain ⟨cd, e, _⟩ := any_some c.hd
    unfold clsIn at e
    split at e
    · rename_i a1 a2 a3 a4 ho
      intro A' Q' E' s' kk q
      unfold isType loadHead
      exact wpAny_bind (wpAny_loadPart (kk _ _ (X _ _ ho)) (wpAny_pure q))
    · cases e
  ne := fun h tp dd its n sl X htp => Bool.eq_false_iff.mpr fun q => by
    obtain ⟨cd, e, _⟩ := any_some c.hd
    have e2 : D = tp := Value.ref.inj (beq_iff_eq.mp q)
    subst e2
    unfold clsIn at e
    split at e
    · rename_i a1 a2 a3 a4 ho
      cases (X _ _ ho).symm.trans htp
    · cases e
  ca := fun X I k => class_of_err c X I k
end

def rIsD (K : PySem.W.Frag) (D a : Addr) (cls : Value) (d : Option Addr) : List V → Hp → VK → Prop := fun xs H Q => ∃ (c : V) (cv : Value) (b : Bool) (dd : Addr) (fs : List (Str × V)), xs = [.ref a, c] ∧ (∀ u, RelV c u → u = cv) ∧ cls = .ref D ∧ d = some dd ∧ H dd = some (.xd fs) ∧ PySem.W.kitOne K (.ref D) cv = some b ∧ Q (.bl b) H
theorem call_isD {X : Cx} {a D : Addr} {cls : Value} {d : Option Addr} {oe : Obj} {pn : List (Addr × Obj)} (C : ExcC X.K D) (hz : Zc cls d oe) (hf : ∃ vs, oe.data = .fields vs) : CallR (X.suite a ((a, oe) :: pn)) (.builtin "isinstance") (rIsD X.K D a cls d) := by
  intro pins s σ H xs us Q I r h
  obtain ⟨c, cv, b, dd, fs, rfl, hcv, rfl, rfl, hd, e, q⟩ := h
  obtain ⟨u1, u2, rfl, r1, r2⟩ := vals2 r
  cases r1
  have ec := hcv _ r2
  subst ec
  obtain ⟨hget, _⟩ := I.pin (a, oe) (List.mem_append.mpr (.inl List.mem_cons_self))
  obtain ⟨vs, hv⟩ := hf
  have hx : ObjOk X.prog X.w H s.heap dd (.xd fs) := I.hok dd _ hd
  obtain ⟨mA, hns, _⟩ := hx
  obtain ⟨od, ho, _⟩ := lookIn_ns hns
  have J : PySem.W.InstAt s.heap a oe D (some od) := ⟨hget, hz.1, by unfold PySem.W.notCls; rw [hv] <;> rfl, by rw [hz.2]; exact ho⟩
  exact PySem.W.kia_one (kit_err C) I.kIn J e (fun z => nomatch z) fun tk => ⟨.bl b, H, I.kept (t' := tk) fun _ _ z => z, rfl, q⟩
/-! ### errors with one thing kept -/
def spExc (C : Addr) (f : Str) : Sp := fun vs H Q _ => ∃ (a : Addr) (v : V), vs = [.ref a, v] ∧ H a = some (exo a C none) ∧ ∀ dx, H dx = none → dx ≠ a → Q .non (upd (upd H dx (exd dx [(f, v)])) a (exo a C (some dx)))
theorem mk_ex {C : Addr} {f : Str} {v : V} {H1 : Hp} {Q : XK} (h : ∀ d, H1 d = none → Q (.ref C) (some d) (upd H1 d (.xd [(f, v)]))) :
    [v].length ≤ 1000 ∧ ∀ a, H1 a = none → spExc C f (.ref a :: ([v] ++ [])) (upd H1 a (exo a C none))
      (fun u H2 => u = .non ∧ ∃ (d : Addr) (fs : List (Str × V)), H2 a = some (exo a C (some d)) ∧ H2 d = some (exd d fs) ∧ H1 d = none ∧ Q (.ref C) (some d) (upd (del H2 a) d (.xd fs))) (fun _ _ _ => False) := by
  refine ⟨(by show 1 ≤ 1000; decide), fun a na => ⟨a, v, rfl, upd_same, fun dx n ne => ⟨rfl, dx, _, upd_same, by rw [upd_ne ne, upd_same], ?_, ?_⟩⟩⟩
  · rw [upd_ne ne] at n
    exact n
  · have n1 : H1 dx = none := by
      rw [upd_ne ne] at n
      exact n
    have e : upd (del (upd (upd (upd H1 a (exo a C none)) dx (exd dx [(f, v)])) a (exo a C (some dx))) a) dx (.xd [(f, v)]) = upd H1 dx (.xd [(f, v)]) := by
      funext b
      by_cases h1 : b = dx
      · rw [h1, upd_same, upd_same]
      · rw [upd_ne h1, upd_ne h1]
        by_cases h2 : b = a
        · rw [h2, del_same, na]
        · rw [del_ne h2, upd_ne h2, upd_ne h1, upd_ne h2]
    rw [e]
    exact h dx n1
theorem passesLen {X : Cx} {W : WX} (tk : Takes X W) : Passes (L2.CX X.prog X.w) X (fun cls d H => ∀ σ : L2.St, σ.length = X.N.length → W cls d σ H) := fun pins σ H s e s' I c =>
  tk e s' (XE.of_call I (fun _ _ _ h => h σ I.len) c)
theorem passesN {X : Cx} {W : WX} (n : Nat) (tk : Takes X W) (hn : X.N.length = n) : Passes (L2.CX X.prog X.w) X (fun cls d H => ∀ σ : L2.St, σ.length = n → W cls d σ H) := fun pins σ H s e s' I c =>
  tk e s' (XE.of_call I (fun _ _ _ h => h σ (I.len.trans hn)) c)
theorem passesUp {X : Cx} {E : XK} (tk : Takes X (fun cls d _ H => E cls d H)) : Passes (L2.CX X.prog X.w) X E := fun pins σ H s e s' I c =>
  tk e s' (XE.of_call I (fun _ _ _ h => h) c)
end Ts

namespace Ts
open PySem L2
def noNames : List V := [.str "any", .str "none", .str "anew", .str "lift", .str "term"]
def letters : Str := "abcdefghijklmnopqrstuvwxyz"
def nameB (x : Str) : Bool := !inV (.str x) noNames && ((decide (1 ≤ (x.length : Int)) && decide ((x.length : Int) ≤ 4)) && x.cps.toList.all fun c => decide (c ∈ letters.cps.toList))
def nameV : V → Bool
  | .str x => nameB x
  | _ => false
/-- a value of which the type is known, a text not too long -/
def GoodV (K : PySem.W.Frag) (H : Hp) (v : V) : Prop := ∃ k, TyV K H v k ∧ ∀ x, v = .str x → x.length ≤ 1000 ∧ PyData.strOk x = true
theorem GoodV.same {K : PySem.W.Frag} {H H' : Hp} {v : V} (g : GoodV K H v) (s : Same H H') : GoodV K H' v := by
  obtain ⟨k, t, h⟩ := g
  exact ⟨k, t.same s, h⟩
theorem TyX.went {K : PySem.W.Frag} {D L : Addr} {H H' : Hp} {v : V} {t : Value} (h : TyX K H v t) (d : DealAt H D L) (w : Went D L H H') : TyX K H' v t := by
  have key : ∀ {a : Addr} {o : HO}, H a = some o → (∀ xs, o ≠ .lst xs) → H' a = some o := fun {a o} e n => by
    refine w.k _ _ (fun z => ?_) (fun z => ?_) e
    · obtain ⟨cs, m, h1, _⟩ := d.ex
      rw [z, h1] at e
      exact n _ (Option.some.inj e).symm
    · obtain ⟨cs, m, _, h1, _⟩ := d.ex
      rw [z, h1] at e
      exact n _ (Option.some.inj e).symm
  cases h with
  | base h =>
    cases h with
    | non => exact .base .non
    | bl x => exact .base (.bl x)
    | int i => exact .base (.int i)
    | str x => exact .base (.str x)
    | flt x => exact .base (.flt x)
    | @lst a xs e =>
      by_cases hD : a = D
      · obtain ⟨cs, m, h1, _⟩ := w.d.ex
        rw [hD]
        exact .base (.lst h1)
      · by_cases hL : a = L
        · obtain ⟨cs, m, _, h1, _⟩ := w.d.ex
          rw [hL]
          exact .base (.lst h1)
        · exact .base (.lst (w.k _ _ hD hL e))
    | frz e => exact .base (.frz (key e fun _ z => by cases z))
    | tup e => exact .base (.tup (key e fun _ z => by cases z))
    | dK e => exact .base (.dK (key e fun _ z => by cases z))
    | dT e => exact .base (.dT (key e fun _ z => by cases z))
    | ins e cl ha hn htk hm => exact .base (.ins (key e fun _ z => by cases z) cl ha hn htk hm)
  | byt b => exact .byt b
  | set e => exact .set (key e fun _ z => by cases z)
  | kList e c => exact .kList e c
  | kTuple e c => exact .kTuple e c
  | kDict e c => exact .kDict e c
  | fTuple e => exact .fTuple (key e fun _ z => by cases z)
  | fDict e => exact .fDict (key e fun _ z => by cases z)
theorem TyV.went {K : PySem.W.Frag} {D L : Addr} {H H' : Hp} {v : V} {k : Kd} (h : TyV K H v k) (d : DealAt H D L) (w : Went D L H H') : TyV K H' v k := by
  obtain ⟨⟨t, h1, h2⟩, h3, h4⟩ := h
  exact ⟨⟨t, TyX.went h1 d w, h2⟩, h3, h4⟩
theorem GoodV.went {K : PySem.W.Frag} {D L : Addr} {H H' : Hp} {v : V} (g : GoodV K H v) (d : DealAt H D L) (w : Went D L H H') : GoodV K H' v := by
  obtain ⟨k, t, h⟩ := g
  exact ⟨k, t.went d w, h⟩
def spIsName (K : PySem.W.Frag) : Sp := fun vs H Q _ => ∃ v, vs = [v] ∧ GoodV K H v ∧ ∀ H', Same H H' → Q (.bl (nameV v)) H'
/-- all(..) over the signs of a text -/
theorem all_take {α : Type} {p : α → Bool} {xs : List α} : ∀ {i : Nat} {x : α}, xs[i]? = some x → (xs.take (i + 1)).all p = ((xs.take i).all p && p x) := by
  intro i x h
  rw [List.take_add_one, h]
  simp [List.all_append]
end Ts

namespace Ts
open PySem L2
theorem cnt_eq {K : PySem.W.Frag} {H : Hp} {v : V} {k : Kd} (h : TyV K H v k) : (decide (k = .int) && cntV v) = cntV v := by
  obtain ⟨⟨t, tx, t1, t2, t3, t4, t5⟩, i1, _⟩ := h
  by_cases e : k = .int
  · rw [decide_eq_true e]
    rfl
  · rw [decide_eq_false e]
    cases v with
    | int i =>
      cases tx with
      | base hb =>
        cases hb
        rw [kit_ty (a := "int") (b := "int") (r := true) (by decide +kernel)] at t1
        rw [kit_ty (a := "int") (b := "bool") (r := false) (by decide +kernel)] at t2
        cases k <;> first | exact absurd rfl e | exact absurd t1 (by decide) | exact absurd t2 (by decide)
    | _ => rfl
/-- a def that may raise, by its body -/
theorem fnX {P : Program} {w : World} {K : PySem.W.Frag} {mg : Str → Option Value} {base : Heap} {x qual : Str} {st : Stmt} {f : Addr} {fd : FuncData} {N ps : List Str} {k : Nat} {sp : Sp} (F : C8.Fun K x qual st f fd) (S : FnScope N ps (C8.fnScope st)) (len : ∀ vs H Q E, sp vs H Q E → vs.length = ps.length)
    (hbody : ∀ (cdv : Value) (A : Around) (outer : List Env) (s : Shared) (H : Hp) (vs : List V) (Q : VK) (E : XK), Room k (A.deeper (PyProof.Rows.envOfC qual (C8.fnScope st) s.heap.objs.size f cdv)) → sp vs H Q E →
      ∃ t, PSs (cxOf (L2.CX P w) P w K mg base N qual (C8.fnScope st) f cdv A outer s H E) (C8.fnBody st) t ∧ t { nx := fun _ H' => Q .non H', rt := Q } (start N vs) H) : FnOk P w K mg base (L2.CX P w) (k + 1) f fd ps sp := by
  obtain ⟨oc, od, dV, kV, doc, pm, an, cdv, ct, osl, rfl, lk, hcd⟩ := F.ex
  exact fn_of lk hcd S len fun A outer s H vs Q E hr hsp => hbody cdv A outer s H vs Q E hr hsp
/-- a def that may raise, called by its name -/
structure CalX (P : Program) (w : World) (K : PySem.W.Frag) (mg : Str → Option Value) (base : Heap) (k : Nat) (x : Str) (sp : Sp) (dvs : List V) : Prop where
  ex : ∃ (f : Addr) (fd : FuncData) (ps : List Str) (ds : List Value), FnOk P w K mg base (L2.CX P w) k f fd ps sp ∧ mg x = some (.ref f) ∧ PySem.W.keepIn K (.ref f) = true ∧ Binds K fd ps ds ∧ Vals dvs ds
/-- a class whose __init__ may raise -/
structure MakX (P : Program) (w : World) (K : PySem.W.Frag) (mg : Str → Option Value) (base : Heap) (k : Nat) (x : Str) (C : Addr) (sp : Sp) (dvs : List V) : Prop where
  ex : ∃ (f : Addr) (fd : FuncData) (ps : List Str) (ds : List Value), Mk K C f ∧ FnOk P w K mg base (L2.CX P w) k f fd ps sp ∧ mg x = some (.ref C) ∧ Binds K fd ps ds ∧ Vals dvs ds
/-- an error class that keeps one thing -/
structure Err (P : Program) (w : World) (K : PySem.W.Frag) (mg : Str → Option Value) (base : Heap) (x : Str) (C : Addr) (fl : Str) : Prop where
  ex : ∃ (fI : Addr) (fd : FuncData) (ps : List Str), OexC K C ∧ PySem.W.findIn K (.ref C) "__init__" = some (some (.ref fI)) ∧ PySem.W.typeIn K (.ref fI) = some (.type "function") ∧ FnOk P w K mg base C8.CX0 1 fI fd ps (spExc C fl) ∧ Binds K fd ps [] ∧ mg x = some (.ref C)
section
variable {X : Cx} {k j : Nat} {C : Addr} {x : Str} {sp : Sp} {dvs : List V} {E : XK} {p pos : Pos} {e : Expr} {es : List Expr} {ta : TA} {fl : Str}
theorem pe_cX (c : CalX X.prog X.w X.K X.mg X.base k x sp dvs) (hr : Room j X.A) (hk : k ≤ j) (hx : Passes (L2.CX X.prog X.w) X E) (hg : Gl X x) (ha : PA X (e :: es) ta)
    (hdb : (x == ("__debug__" : Str)) = false := by decide) (he : starEach (e :: es) X.env = (false, eval e X.env) :: starEach es X.env := by rfl) (hpl : (backTo pos (starEach es X.env)).any (·.1) = false := by rfl) :
    PE X (.Call (.Name x p) (e :: es) [] pos) (tCall sp dvs E ta) := by
  obtain ⟨f, fd, ps, ds, F, hm, kp, b, d⟩ := c.ex
  exact pe_call F (hr.mono hk) hg hm kp b d hx ha hdb he hpl
theorem pe_mkX (c : MakX X.prog X.w X.K X.mg X.base k x C sp dvs) (hr : Room j X.A) (hk : k + 1 ≤ j) (hx : Passes (L2.CX X.prog X.w) X E) (hg : Gl X x) (ha : PA X (e :: es) ta)
    (hdb : (x == ("__debug__" : Str)) = false := by decide) (he : starEach (e :: es) X.env = (false, eval e X.env) :: starEach es X.env := by rfl) (hpl : (backTo pos (starEach es X.env)).any (·.1) = false := by rfl) :
    PE X (.Call (.Name x p) (e :: es) [] pos) (tMake C sp dvs E ta) := by
  obtain ⟨f, fd, ps, ds, M, F, hm, b, d⟩ := c.ex
  exact pe_make M F (hr.mono hk) hg hm b d hx ha hdb he hpl
theorem pmk_err (c : Err X.prog X.w X.K X.mg X.base x C fl) (hr : Room j X.A) (hk : 2 ≤ j) (hg : Gl X x) (ha : PA X (e :: es) ta)
    (hdb : (x == ("__debug__" : Str)) = false := by decide) (he : starEach (e :: es) X.env = (false, eval e X.env) :: starEach es X.env := by rfl) (hpl : (backTo pos (starEach es X.env)).any (·.1) = false := by rfl) :
    PMk X (.Call (.Name x p) (e :: es) [] pos) (tMkO C (spExc C fl) [] ta) := by
  obtain ⟨fI, fd, ps, T, iC, tI, F, b, hm⟩ := c.ex
  exact pmk_oex T iC tI F (hr.mono hk) b .nil C8.pass0 hg hm ha hdb he hpl
end
/-! ### the arguments of kinds -/
def dueC (nm : V) (prs : List (Str × V)) (tm : V) : Option Str :=
  if nameV nm = false then some "name" else match prs.find? fun p => !cntV p.2 with
    | some p => some p.1
    | none => if tm ≠ .non ∧ cntV tm = false then some "times" else none
/-- at a list of pairs (a word, a value) -/
def PrsAt (K : PySem.W.Frag) (H : Hp) (a : Addr) (prs : List (Str × V)) : Prop := ∃ ts : List Addr, H a = some (.lst (ts.map V.ref)) ∧ ts.length = prs.length ∧ ∀ (i : Nat) (t : Addr) (p : Str × V), ts[i]? = some t → prs[i]? = some p → H t = some (.tup [.str p.1, p.2])
theorem PrsAt.same {K : PySem.W.Frag} {H H' : Hp} {a : Addr} {prs : List (Str × V)} (h : PrsAt K H a prs) (s : Same H H') : PrsAt K H' a prs := by
  obtain ⟨ts, h1, h2, h3⟩ := h
  exact ⟨ts, s _ _ h1, h2, fun i t p a b => s _ _ (h3 i t p a b)⟩
def spCheck (K : PySem.W.Frag) (CI : Addr) : Sp := fun vs H Q E => ∃ (nm : V) (a : Addr) (prs : List (Str × V)) (tm : V), vs = [nm, .ref a, tm] ∧ PrsAt K H a prs ∧ GoodV K H nm ∧ GoodV K H tm ∧ (∀ p ∈ prs, GoodV K H p.2) ∧
  (dueC nm prs tm = none → ∀ H', Same H H' → Q .non H') ∧
  ∀ wd, dueC nm prs tm = some wd → ∀ (H' : Hp) (d : Addr), Same H H' → H' d = some (.xd [("word", .str wd)]) → E (.ref CI) (some d) H'
theorem find_pre {α : Type} {p : α → Bool} {xs : List α} {i : Nat} {x : α} (hx : xs[i]? = some x) (h0 : ∀ y ∈ xs.take i, p y = false) (h1 : p x = true) : xs.find? p = some x := by
  have e : xs = xs.take i ++ x :: xs.drop (i + 1) := by
    obtain ⟨hi, rfl⟩ := List.getElem?_eq_some_iff.mp hx
    rw [← List.drop_eq_getElem_cons hi, List.take_append_drop]
  rw [e, List.find?_append, List.find?_eq_none.mpr (fun y hy => by rw [h0 y hy]; exact Bool.false_ne_true), List.find?_cons, h1]
  rfl
end Ts

namespace Ts
open PySem L2
/-- all but one place stay -/
def But (x : Addr) (H H' : Hp) : Prop := ∀ b o, H b = some o → b ≠ x → H' b = some o
theorem But.refl {x : Addr} {H : Hp} : But x H H := fun _ _ h _ => h
theorem But.trans {x : Addr} {H H1 H2 : Hp} (a : But x H H1) (b : But x H1 H2) : But x H H2 := fun c o h n => b c o (a c o h n) n
theorem But.same {x : Addr} {H H1 H2 : Hp} (a : But x H H1) (s : Same H1 H2) : But x H H2 := fun c o h n => s c o (a c o h n)
theorem Same.but {x : Addr} {H H1 : Hp} (s : Same H H1) : But x H H1 := fun c o h _ => s c o h
theorem But.at {x : Addr} {H H1 : Hp} {o : HO} (a : But x H H1) : But x H (upd H1 x o) := fun c u h n => by
  rw [upd_ne n]
  exact a c u h n
theorem But.seq {K : PySem.W.Frag} {x a C dx : Addr} {fs : List (Str × V)} {xs : List V} {H H' : Hp} (b : But x H H') (hx : H x = some (.ins C dx fs)) (h : SqL K H a xs) : SqL K H' a xs := by
  rcases h with (h | ⟨o, h⟩) | h
  · exact .inl (.inl (b _ _ h (ne_of h hx (by intro z; cases z))))
  · exact .inl (.inr ⟨o, b _ _ h (ne_of h hx (by intro z; cases z))⟩)
  · exact .inr h
theorem But.sqt {K : PySem.W.Frag} {x a C dx : Addr} {fs : List (Str × V)} {xs : List V} {H H' : Hp} (b : But x H H') (hx : H x = some (.ins C dx fs)) (h : SqT K H a xs) : SqT K H' a xs := by
  rcases h with (h | ⟨o, h⟩) | h
  · exact .inl (.inl (b _ _ h (ne_of h hx (by intro z; cases z))))
  · exact .inl (.inr ⟨o, b _ _ h (ne_of h hx (by intro z; cases z))⟩)
  · exact .inr h
theorem few {f : Str} {v : V} {fs : List (Str × V)} {n : Nat} (h : fs.length ≤ n) : (putF f v fs).length ≤ n + 1 := Nat.le_trans (length_putF f v fs) (Nat.succ_le_succ h)
theorem few0 : ([] : List (Str × V)).length ≤ 0 := Nat.le_refl _
theorem few_lt {fs : List (Str × V)} {n : Nat} (h : fs.length ≤ n) (h2 : n < 1000) : fs.length < 1000 := Nat.lt_of_le_of_lt h h2
/-- what the text's class says: no class of it has these names -/
structure ClsN (K : PySem.W.Frag) (C : Addr) (ns : List Str) : Prop where
  cl : Cls K C
  no : ∀ n ∈ ns, NoAttr K C n
def stillF (nm d tm : V) : List (Str × V) := putF "times" tm (putF "days" d (putF "name" nm []))
def anewF (nm d tm : V) : List (Str × V) := putF "times" tm (putF "left" d (putF "name" nm []))
def liftF (nm b t tm : V) : List (Str × V) := putF "times" tm (putF "top" t (putF "by" b (putF "name" nm [])))
/-- the promise of a kind's __init__: due, what its arguments owe; fs, its attributes -/
def spKind (K : PySem.W.Frag) (C CI : Addr) (n : Nat) (due : List V → Option Str) (fs : List V → List (Str × V)) : Sp := fun vs H Q E => ∃ (x dx : Addr) (ws : List V), vs = .ref x :: ws ∧ ws.length = n ∧ H x = some (.ins C dx []) ∧ (∀ v ∈ ws, GoodV K H v) ∧
  (due ws = none → ∀ H', H' x = some (.ins C dx (fs ws)) → But x H H' → Q .non H') ∧
  ∀ wd, due ws = some wd → ∀ (H' : Hp) (d : Addr), Same H H' → H' d = some (.xd [("word", .str wd)]) → E (.ref CI) (some d) H'
def dueS : List V → Option Str | [a, b, c] => dueC a [("days", b)] c | _ => none
def dueA : List V → Option Str | [a, b, c] => dueC a [("left", b)] c | _ => none
def dueL : List V → Option Str | [a, b, c, d] => dueC a [("by", b), ("top", c)] d | _ => none
def fsS : List V → List (Str × V) | [a, b, c] => stillF a b c | _ => []
def fsA : List V → List (Str × V) | [a, b, c] => anewF a b c | _ => []
def fsL : List V → List (Str × V) | [a, b, c, d] => liftF a b c d | _ => []
theorem len3 {α : Type} {ws : List α} (h : ws.length = 3) : ∃ a b c, ws = [a, b, c] := by
  match ws, h with
  | [a, b, c], _ => exact ⟨a, b, c, rfl⟩
theorem len4 {α : Type} {ws : List α} (h : ws.length = 4) : ∃ a b c d, ws = [a, b, c, d] := by
  match ws, h with
  | [a, b, c, d], _ => exact ⟨a, b, c, d, rfl⟩
end Ts

namespace Ts
open PySem L2
theorem nodup_le : ∀ {xs ys : List Int}, xs.Nodup → (∀ x ∈ xs, x ∈ ys) → xs.length ≤ ys.length
  | [], _, _, _ => Nat.zero_le _
  | x :: xs, ys, h, hs => by
    rw [List.nodup_cons] at h
    have h1 : x ∈ ys := hs x (List.mem_cons_self ..)
    have h2 := nodup_le (xs := xs) (ys := ys.erase x) h.2 fun z hz => by
      have hne : z ≠ x := fun e => h.1 (e ▸ hz)
      exact (List.mem_erase_of_ne hne).mpr (hs z (List.mem_cons_of_mem _ hz))
    have h3 := List.length_erase_of_mem h1
    have h4 : 0 < ys.length := List.length_pos_of_mem h1
    rw [List.length_cons]
    omega
/-- at most six days of the week are off: one is on -/
theorem day_on {rs : List Int} (h : rs.length ≤ 6) : ∃ k : Int, 0 ≤ k ∧ k < 7 ∧ ¬ k ∈ rs := by
  by_cases e : ∃ k : Int, 0 ≤ k ∧ k < 7 ∧ ¬ k ∈ rs
  · exact e
  · have h1 : ∀ x ∈ ([0, 1, 2, 3, 4, 5, 6] : List Int), x ∈ rs := fun x hx => by
      by_cases hm : x ∈ rs
      · exact hm
      · refine absurd ⟨x, ?_, ?_, hm⟩ e
        · simp only [List.mem_cons, List.not_mem_nil, or_false] at hx
          omega
        · simp only [List.mem_cons, List.not_mem_nil, or_false] at hx
          omega
    have h2 := nodup_le (by decide) h1
    simp only [List.length_cons, List.length_nil] at h2
    omega
theorem least_day {rs : List Int} (t : Int) : ∀ n : Nat, (∃ c, t ≤ c ∧ c < t + n ∧ ¬ c % 7 ∈ rs) → ∃ e, t ≤ e ∧ e < t + n ∧ ¬ e % 7 ∈ rs ∧ ∀ c, t ≤ c → c < e → c % 7 ∈ rs
  | 0, ⟨c, h1, h2, _⟩ => by omega
  | n + 1, ⟨c, h1, h2, h3⟩ => by
    by_cases h : ∃ c, t ≤ c ∧ c < t + (n : Int) ∧ ¬ c % 7 ∈ rs
    · obtain ⟨e, e1, e2, e3, e4⟩ := least_day t n h
      exact ⟨e, e1, by omega, e3, e4⟩
    · refine ⟨c, h1, h2, h3, fun d d1 d2 => ?_⟩
      by_cases hd : d % 7 ∈ rs
      · exact hd
      · exact absurd ⟨d, d1, by omega, hd⟩ h
/-- the first working day from t on -/
theorem next_work {rs : List Int} (h : rs.length ≤ 6) (t : Int) : ∃ e, t ≤ e ∧ e < t + 7 ∧ ¬ e % 7 ∈ rs ∧ ∀ c, t ≤ c → c < e → c % 7 ∈ rs := by
  obtain ⟨k, k0, k1, hk⟩ := day_on h
  refine least_day t 7 ⟨t + (k - t) % 7, ?_, ?_, ?_⟩
  · omega
  · omega
  · have : (t + (k - t) % 7) % 7 = k := by omega
    rw [this]
    exact hk
theorem perm_ints {ys : List V} {ns : List Int} (h : ys.Perm (ns.map V.int)) : ∃ ms : List Int, ys = ms.map V.int ∧ ms.Perm ns := by
  have hall : ∀ y ∈ ys, ∃ i, y = V.int i := fun y hy => by
    obtain ⟨i, _, e⟩ := List.mem_map.mp (h.mem_iff.mp hy)
    exact ⟨i, e.symm⟩
  have hg : ∀ {zs : List V}, (∀ y ∈ zs, ∃ i, y = V.int i) → zs = (zs.map fun v => match v with | .int i => i | _ => 0).map V.int := by
    intro zs hz
    rw [List.map_map]
    conv => lhs; rw [← List.map_id zs]
    refine List.map_congr_left fun y hy => ?_
    obtain ⟨i, rfl⟩ := hz y hy
    rfl
  refine ⟨_, hg hall, ?_⟩
  have := h.map (fun v => match v with | V.int i => i | _ => (0 : Int))
  rw [List.map_map] at this
  have e : (ns.map ((fun v => match v with | V.int i => i | _ => (0 : Int)) ∘ V.int)) = ns := by
    conv => rhs; rw [← List.map_id ns]
    rfl
  rw [e] at this
  exact this
end Ts

namespace Ts
open PySem L2
theorem Went.refl {D L : Addr} {H : Hp} (d : DealAt H D L) : Went D L H H := ⟨d, Kept.refl⟩
/-- an object that is new since H1 is written -/
theorem Went.mut {D L p : Addr} {o : HO} {H1 H' : Hp} (w : Went D L H1 H') (n : H1 p = none) (h1 : p ≠ D) (h2 : p ≠ L) : Went D L H1 (upd H' p o) := by
  refine ⟨?_, fun b u b1 b2 hb => ?_⟩
  · obtain ⟨cs, m, e1, e2, r⟩ := w.d.ex
    exact ⟨cs, m, by rw [upd_ne h1.symm]; exact e1, by rw [upd_ne h2.symm]; exact e2, r⟩
  · rw [upd_ne (ne_of_none hb n)]
    exact w.k _ _ b1 b2 hb
def flatB : V → Bool
  | .non => true
  | .bl _ => true
  | .int _ => true
  | .str x => decide (x.length ≤ 1000) && PyData.strOk x
  | _ => false
theorem goodFlat {K : PySem.W.Frag} {H : Hp} {v : V} (h : flatB v = true) : GoodV K H v := by
  cases v with
  | non => exact ⟨_, tyV_non, fun x z => by cases z⟩
  | bl b => exact ⟨_, tyV_bl, fun x z => by cases z⟩
  | int i => exact ⟨_, tyV_int, fun x z => by cases z⟩
  | str x => exact ⟨_, tyV_str, fun y z => by cases z; exact ⟨of_decide_eq_true (Bool.and_eq_true_iff.mp h).1, (Bool.and_eq_true_iff.mp h).2⟩⟩
  | byt b => cases h
  | flt b => cases h
  | ref a => cases h
  | ty n => cases h
theorem goodAll {K : PySem.W.Frag} {H : Hp} {xs : List V} {v : V} (h : xs.all flatB = true) (hv : v ∈ xs) : GoodV K H v := goodFlat (List.all_eq_true.mp h v hv)
theorem goodList {K : PySem.W.Frag} {H : Hp} {a : Addr} {xs : List V} (h : SqL K H a xs) : GoodV K H (.ref a) := ⟨_, tyV_list h, fun x z => by cases z⟩
theorem goodTup {K : PySem.W.Frag} {H : Hp} {a : Addr} {xs : List V} (h : SqT K H a xs) : GoodV K H (.ref a) := ⟨_, tyV_tup h, fun x z => by cases z⟩
def spAny (K : PySem.W.Frag) (n : Nat) : Sp := fun vs H Q _ => ∃ (D L : Addr) (deep : Int), vs = [.ref D, .int deep] ∧ DealAt H D L ∧ 0 ≤ deep ∧ deep ≤ n ∧
  ∀ (v : V) (H' : Hp), GoodV K H' v → Went D L H H' → Q v H'
def nameVs : List V := [.str "talk", .str "owe", .str "plea", .str "a", .str "b", .str "zz", .str "x", .str "suit", .str "rest", .str "cap"]
def spNames : Sp := fun vs H Q _ => ∃ (D L : Addr) (m : Int), vs = [.ref D, .int m] ∧ DealAt H D L ∧ 0 ≤ m ∧ m ≤ 10 ∧
  ∀ (p : Addr) (zs : List V) (H' : Hp), zs.Perm nameVs → Went D L H H' → H p = none → H' p = some (.lst (zs.take m.toNat)) → Q (.ref p) H'
def formVs : List V := [.str "still", .str "anew", .str "lift"]
def manyVs : List V := [.int 1, .int 1, .int 2, .int 3, .non]
/-- what is drawn of a kind: (form, name, a number, another one or 0, times) -/
structure Told (most : Int) (fm : Str) (a b : Int) (mn : V) : Prop where
  f : V.str fm ∈ formVs
  a1 : 1 ≤ a
  a2 : a ≤ most
  b1 : fm = "lift" → 1 ≤ b
  b2 : fm = "lift" → b ≤ most
  b0 : fm ≠ "lift" → b = 0
  m : mn ∈ manyVs
def spKindD : Sp := fun vs H Q _ => ∃ (D L : Addr) (wd : V) (most : Int), vs = [.ref D, wd, .int most] ∧ DealAt H D L ∧ 0 < most ∧ most < 2 ^ 64 ∧
  ∀ (t : Addr) (fm : Str) (a b : Int) (mn : V) (H' : Hp), Told most fm a b mn → Went D L H H' → H t = none → H' t = some (.tup [.str fm, wd, .int a, .int b, mn]) → Q (.ref t) H'
end Ts

/-! enumerate(tuple) -/
namespace TsE
open PySem
set_option maxHeartbeats 1000000 in
theorem meets_new (l : Addr) (items : Array Value) :
    Meets (Builtin.«enumerate.__new__» ⟨[.type "enumerate", .ref l], []⟩) (fun _ R s => s.heap.IsTuple l items ∧
      R (.ok (.ret (.ref (s.heap.push { cls := .type "tuple_iterator", data := .fields #[.ref l, .int 0 0] }).objs.size)))
        { s with heap := (s.heap.push { cls := .type "tuple_iterator", data := .fields #[.ref l, .int 0 0] }).push { cls := .type "enumerate", data := .fields #[.none, .bool false, .ref s.heap.objs.size, rawInt 0, .none, .none] } }) :=
  .of_wp fun prog w A R s h => by
    obtain ⟨hp, g, d, tk, os⟩ := s; obtain ⟨hl, h⟩ := h
    have hsub := sub_enumerate
    have q1 : ∀ {A' : Around} {E : Value → Shared → Prop} {Q : Value → Shared → Prop}, Q (.ref hp.objs.size) ⟨hp.push { cls := .type "tuple_iterator", data := .fields #[.ref l, .int 0 0] }, g, d, tk, os⟩ → wpAny (model prog w) A' (pyIter (.ref l)) Q E ⟨hp, g, d, tk, os⟩ :=
      fun q => wpAny_pyIter_tuple hl q
    wp_walk using q1
    refine wpAny_stack_any fun st => wpAny_pure ?_
    split
    · rename_i c _ _ _ _ _
      cases (c == Value.type "enumerate")
      · wp_walk using q1
        exact ⟨_, rfl, h⟩
      · wp_walk using q1
        exact ⟨_, rfl, h⟩
    · wp_walk using q1
      exact ⟨_, rfl, h⟩
section
variable {prog : Program} {w : World} {A : Around} {E : Value → Shared → Prop} {s : Shared}
theorem call_enum {l : Addr} {items : Array Value} {Q : Value → Shared → Prop} (hL : s.heap.IsTuple l items)
    (h : ∀ h', IsEnum h' (s.heap.objs.size + 1) s.heap.objs.size 0 .none → h'.IsTupleIter s.heap.objs.size l 0 → h'.objs.size = s.heap.objs.size + 2 →
      (∀ b o, s.heap.get? b = some o → h'.get? b = some o) → Q (.ref (s.heap.objs.size + 1)) { s with heap := h' }) :
    wpAny (model prog w) A (call (.type "enumerate") [.ref l]) Q E s := by
  refine callType_new F.called_enumerate (by decide) (F.typeCall_enumerate_1 _) (F.newCall_enumerate_1 _) (fun obj => F.args_object_init_2 obj _) F.entry_enumerate_new
    (meets_new l items) ⟨hL, ?_⟩
  have hz : (s.heap.push { cls := .type "tuple_iterator", data := .fields #[.ref l, .int 0 0] }).objs.size = s.heap.objs.size + 1 := Heap.size_push ..
  show _ ∧ _
  rw [hz]
  have he : IsEnum ((s.heap.push { cls := .type "tuple_iterator", data := .fields #[.ref l, .int 0 0] }).push
      { cls := .type "enumerate", data := .fields #[.none, .bool false, .ref s.heap.objs.size, rawInt 0, .none, .none] }) (s.heap.objs.size + 1) s.heap.objs.size 0 .none := by
    have := Heap.get?_push_size (s.heap.push { cls := .type "tuple_iterator", data := .fields #[.ref l, .int 0 0] })
      (o := { cls := .type "enumerate", data := .fields #[.none, .bool false, .ref s.heap.objs.size, rawInt 0, .none, .none] }) rfl
    rw [hz] at this; exact this
  refine ⟨⟨_, he, rfl⟩, h _ he ⟨_, Heap.get?_push_of_some _ (Heap.get?_push_size _ rfl), rfl, rfl⟩ (by rw [Heap.size_push, hz]) fun b o x => Heap.get?_push_of_some _ (Heap.get?_push_of_some _ x)⟩
end
end TsE
namespace Ts
open PySem PySem.Spec PyProof.Rows L2
/-- the tuple at a, each item in a new pair -/
def IteT (K : PySem.W.Frag) (a : Addr) : It :=
  ⟨fun i H => ∃ (xs : List V) (x : V), SqT K H a xs ∧ xs[i]? = some x, fun i H v H' => ∃ T x, v = .ref T ∧ H T = none ∧ H' = upd H T (.tup [.int (i : Nat), x]) ∧ ∀ xs, SqT K H a xs → xs[i]? = some x, fun i H => ∃ xs : List V, SqT K H a xs ∧ xs.length = i⟩
theorem en_ne {h : Heap} {e it a : Addr} {i : Int} {old : Value} {its : Array Value} (he : IsEnum h e it i old) (p : h.IsTuple a its) : e ≠ a := by
  intro z
  obtain ⟨o, ho, hc, n, hd⟩ := p
  subst z
  have := he.symm.trans ho
  have e2 := Option.some.inj this
  subst e2
  exact absurd hc (by intro z; injection z with z; exact absurd z (by decide))
theorem it_ne {h : Heap} {it a : Addr} {i : Nat} {its : Array Value} (hi : h.IsTupleIter it a i) (p : h.IsTuple a its) : a ≠ it := by
  intro z
  obtain ⟨o, ho, hc, n, hd⟩ := p
  obtain ⟨o', ho', hc', _⟩ := hi
  subst z
  have e2 := Option.some.inj (ho.symm.trans ho')
  subst e2
  rw [hc] at hc'
  exact absurd hc' (by intro z; injection z with z; exact absurd z (by decide))
theorem turn_enumT {P : Program} {w : World} {K : PySem.W.Frag} {elts : List Expr} {kk : Nat} {tpos : Pos} (a e it : Addr) :
    Turn P w K (.Tuple elts kk tpos) (IteT K a) [e, it] e (fun i h => (∃ old, IsEnum h e it ((i : Nat) : Int) old) ∧ h.IsTupleIter it a i ∧ e ≠ it) where
  mem := by simp
  obj := fun i h st b hb => by
    obtain ⟨⟨old, he⟩, ⟨o, ho, hc, hd⟩, _⟩ := st
    have e' : b = e ∨ b = it := by simpa using hb
    rcases e' with z | z
    · rw [z]; exact ⟨_, he, fun v q => nomatch q⟩
    · rw [z]; exact ⟨o, ho, fun v q => by rw [hd] at q; cases q⟩
  keep := fun i h h' st k => let ⟨⟨old, he⟩, hi, hne⟩ := st; ⟨⟨old, k e (by simp) _ he⟩, hi.at fun o q => k it (by simp) o q, hne⟩
  item := by
    intro X hP hw hK hc i pins s σ H E I hf st hg
    subst hP hw hK
    obtain ⟨⟨old, he⟩, hit, hne⟩ := st
    obtain ⟨xs, x, hq, hx⟩ := hg
    obtain ⟨its, rv, p, hz⟩ := I.tuple hq
    have p : s.heap.IsTuple a its.toArray := p
    obtain ⟨u, hu, ru⟩ := rv.get hx
    have hel : e < s.heap.objs.size := Heap.lt_size he
    have hil : it < s.heap.objs.size := by obtain ⟨_, q, _⟩ := hit; exact Heap.lt_size q
    have hh : X.A.in1.handled = none := by rw [show X.A.in1.handled = X.A.handled from rfl]; exact I.ok.hd hc
    have hlt : i < its.toArray.size := by
      have := (List.getElem?_eq_some_iff.mp hu).1
      simpa using this
    refine wpAny_pyNext_enum_itemD (Draws.tuple hh it a (it_ne hit p) its.toArray) he ⟨hit, p⟩ hlt hne (by simp [en_ne he p, hne]) fun u' h' tk hu' ho hst' hT hsz hk => ?_
    have eu : u' = u := by
      have h1 : its[i]? = some u' := by simpa using hu'
      rw [hu] at h1
      exact (Option.some.inj h1).symm
    subst eu
    refine ⟨_, rfl, wpAny_letOwnedTupleGo_enum (s := { s with heap := h', toks := tk + 1 }) ho fun h'' he' sb => ?_⟩
    have hT2 : h''.get? s.heap.objs.size = some { cls := .type "tuple", data := .seq #[.int i tk, u'] } := (sb.2 _ (Nat.ne_of_gt hel)).trans hT
    have new : ObjOk X.prog X.w (upd H s.heap.objs.size (.tup [.int (i : Nat), x])) h'' s.heap.objs.size (.tup [.int (i : Nat), x]) :=
      ⟨by show 2 ≤ sizeLine; decide, [.int i tk, u'], .cons ⟨_, rfl⟩ (.cons ru .nil), ⟨_, hT2, rfl, _, rfl⟩⟩
    have I1 : Inv X pins σ (upd H s.heap.objs.size (.tup [.int (i : Nat), x])) { s with heap := h'', toks := tk + 1 } :=
      I.turnedNew (ch := [e, it]) (fun b ob hb q => (sb.2 b (fun z => hb (by simp [z]))).trans (hk b ob (fun z => hb (by simp [z])) (fun z => hb (by simp [z])) q)) hf (Nat.le_refl _) new
    refine ⟨.ref s.heap.objs.size, _, I1, rfl, ⟨_, x, rfl, I.hok.fresh (Nat.le_refl _), rfl, fun ys hy => by rw [I.tuple_inj hy hq]; exact hx⟩, ⟨⟨u', ?_⟩, hst'.1.at fun o q => (sb.2 it (Ne.symm hne)).trans q, hne⟩, fun b hb => ?_⟩
    · have e1 : ((i + 1 : Nat) : Int) = (i : Int) + 1 := by omega
      rw [e1]; exact he'
    · have hb' : b < s.heap.objs.size := by
        have e' : b = e ∨ b = it := by simpa using hb
        rcases e' with z | z
        · rw [z]; exact hel
        · rw [z]; exact hil
      rw [upd_ne (Nat.ne_of_lt hb')]
      exact (hf b hb).1
  done := by
    intro X hP hw hK hc i pins s σ H E I hf st hg
    subst hP hw hK
    obtain ⟨⟨old, he⟩, hit, hne⟩ := st
    obtain ⟨xs, hq, hx⟩ := hg
    obtain ⟨its, rv, p, hz⟩ := I.tuple hq
    have p : s.heap.IsTuple a its.toArray := p
    obtain ⟨f0, f1, f2, f3, f4, f5⟩ := hf it (by simp)
    have hl := rv.length
    have hh : X.A.in1.handled = none := by rw [show X.A.in1.handled = X.A.handled from rfl]; exact I.ok.hd hc
    have ei : i = its.toArray.size := by
      rw [← hx]
      simp [hl]
    subst ei
    exact wpAny_pyNext_enum_endD (Draws.tuple hh it a (it_ne hit p) its.toArray) he ⟨hit, p⟩ fun h' eb => ⟨rfl, I.turned (t' := s.toks) (fun b o hb q => eb b o hb q) f0 f1 f3 f4 f5⟩
  self := fun A i s Q E st h => let ⟨⟨_, he⟩, _⟩ := st; wpAny_pyIter_enum he h
theorem walk_enumT {K : PySem.W.Frag} {a : Addr} {xs : List V} : Walk (IteT K a) xs.length (fun H => SqT K H a xs) (YPair (fun i => some (.int (i : Nat))) (fun i => xs[i]?)) := by
  refine ⟨fun i _ hi q => ⟨xs, xs[i], q, by simp [hi]⟩, fun _ q => ⟨xs, q, rfl⟩, fun i H v H' _ q y => ?_⟩
  obtain ⟨T, x, h1, h2, h3, h4⟩ := y
  exact ⟨T, .int (i : Nat), x, h1, h2, h3, rfl, h4 xs q⟩
/-- a list or a tuple -/
def SqQ (K : PySem.W.Frag) (H : Hp) (a : Addr) (xs : List V) : Prop := SqL K H a xs ∨ SqT K H a xs
/-- enumerate of a list or a tuple -/
def iEnumQ (K : PySem.W.Frag) (ta : TA) : TI := fun σ H R => ta σ H fun vs H1 => ∃ a xs, vs = [.ref a] ∧ SqQ K H1 a xs ∧ ∀ (J : It) (G : Hp → Prop), Walk J xs.length G (YPair (fun i => some (.int (i : Nat))) (fun i => xs[i]?)) →
  (∀ H2, (SqL K H1 a xs → SqL K H2 a xs) → (SqT K H1 a xs → SqT K H2 a xs) → G H2) → R J H1
theorem pi_enumQ {X : Cx} {e : Expr} {ta : TA} {p pos tpos : Pos} {elts : List Expr} {kk : Nat} (hg : Gl X "enumerate") (hm : X.mg "enumerate" = none) (ha : PA X [e] ta) (hs : starEach [e] X.env = [(false, eval e X.env)] := by rfl) :
    PI X (.Tuple elts kk tpos) (.Call (.Name "enumerate" p) [e] [] pos) (iEnumQ X.K ta) := by
  refine ⟨fun pins s σ H R I h => ?_⟩
  refine Call_ (ld_blt I hg hm boot_enumerate (PyProof.Rows.callWith_type1 (thn (ha.run pos pins s σ H _ I h) fun us s1 ⟨vs, H1, I1, r1, q1⟩ => ?_) hs rfl))
  obtain ⟨a, xs, ex, hq, q⟩ := q1
  subst ex
  cases r1 with
  | cons r rr =>
    cases rr
    cases r
    have fin : ∀ {h' : Heap}, (∀ b o, s1.heap.get? b = some o → h'.get? b = some o) → ∀ b ∈ [s1.heap.objs.size + 1, s1.heap.objs.size], FpOk X pins H1 b := fun {h'} hk b hb => by
      have e' : b = s1.heap.objs.size + 1 ∨ b = s1.heap.objs.size := by simpa using hb
      have hle : s1.heap.objs.size ≤ b := by
        rcases e' with z | z
        · rw [z]; exact Nat.le_add_right _ _
        · rw [z]; exact Nat.le_refl _
      exact I1.fpOk hle (I1.hok.fresh hle)
    rcases hq with hq | hq
    · obtain ⟨its, rv, p', hz⟩ := I1.list hq
      refine call_enumerate_list p'.isList fun h' he hit hsz hk => wpAny_pyIter_enum he ?_
      have I2 : Inv X pins σ H1 { s1 with heap := h' } := I1.kept (t' := s1.toks) hk
      exact ⟨s1.heap.objs.size + 1, [s1.heap.objs.size + 1, s1.heap.objs.size], _, _, H1, rfl, I2, turn_enum a (s1.heap.objs.size + 1) s1.heap.objs.size, ⟨⟨.none, he⟩, hit, Nat.succ_ne_self _⟩, fin hk, q _ _ walk_enum fun H2 h _ => h hq⟩
    · obtain ⟨its, rv, p', hz⟩ := I1.tuple hq
      refine TsE.call_enum (show s1.heap.IsTuple a its.toArray from p') fun h' he hit hsz hk => wpAny_pyIter_enum he ?_
      have I2 : Inv X pins σ H1 { s1 with heap := h' } := I1.kept (t' := s1.toks) hk
      exact ⟨s1.heap.objs.size + 1, [s1.heap.objs.size + 1, s1.heap.objs.size], _, _, H1, rfl, I2, turn_enumT a (s1.heap.objs.size + 1) s1.heap.objs.size, ⟨⟨.none, he⟩, hit, Nat.succ_ne_self _⟩, fin hk, q _ _ walk_enumT fun H2 _ h => h hq⟩
end Ts

namespace Ts
open PySem L2
theorem cut_toV (xs : List V) (k : Nat) : cutV xs none (some (k : Int)) = xs.take k := by
  have h := cut_to (fun v => v) xs k
  rw [List.map_id', List.map_id'] at h
  exact h
theorem cut_fromV (xs : List V) (k : Nat) : cutV xs (some (k : Int)) none = xs.drop k := by
  unfold cutV
  rw [HT.sIx_nat, HT.sIx_none]
  by_cases h : k ≤ xs.length
  · rw [Nat.min_eq_left h, List.take_of_length_le (by rw [List.length_drop]; exact Nat.le_refl _)]
  · rw [Nat.min_eq_right (by omega), Nat.sub_self, List.take_zero, List.drop_eq_nil_of_le (by omega)]
theorem nameV_not {K : PySem.W.Frag} {H : Hp} {v : V} {k : Kd} (h : TyV K H v k) (e : k ≠ .str) : nameV v = false := by
  obtain ⟨⟨t, tx, t1, t2, t3, t4, t5⟩, _, _⟩ := h
  cases v with
  | str x =>
    cases tx with
    | base hb =>
      cases hb
      rw [kit_ty (a := "str") (b := "str") (r := true) (by decide +kernel)] at t3
      cases k <;> first | exact absurd rfl e | exact absurd t3 (by decide)
  | _ => rfl
theorem dp_signs {K : PySem.W.Frag} {H : Hp} : ∀ cs : List Nat, DpAll K H (cs.map fun c => V.str ⟨#[c]⟩) (cs.map fun c => PyData.str ⟨#[c]⟩)
  | [] => .nil
  | c :: cs => .cons (.str _) (dp_signs cs)
theorem filter_snoc {α : Type} {p : α → Bool} {xs : List α} {i : Nat} {c : α} (h : xs[i]? = some c) : (xs.take (i + 1)).filter p = if p c = true then (xs.take i).filter p ++ [c] else (xs.take i).filter p := by
  rw [List.take_add_one, h, List.filter_append]
  by_cases e : p c = true
  · rw [if_pos e]
    show _ ++ List.filter p [c] = _
    rw [List.filter_cons, if_pos e]
    rfl
  · rw [if_neg e]
    show _ ++ List.filter p [c] = _
    rw [List.filter_cons, if_neg e]
    exact List.append_nil _
theorem shaped_signs {cs : List Nat} (h : ∀ c ∈ cs, c < 0x110000) : SeqAt.shaped (.list (cs.map fun c => PyData.str ⟨#[c]⟩)) = true := by
  have h1 : PyData.canLayAll0 (cs.map fun c => PyData.str ⟨#[c]⟩) = true := by
    induction cs with
    | nil => rfl
    | cons c cs ih =>
      have := ih fun d hd => h d (List.mem_cons_of_mem _ hd)
      simp only [List.map_cons, PyData.canLayAll0, PyData.canLay0, this, Bool.and_true]
      have := h c (List.mem_cons_self ..)
      simp [PyData.strOk, this]
  have h2 : ∀ ds : List Nat, PyData.depthAll (ds.map fun c => PyData.str ⟨#[c]⟩) = 0 := by
    intro ds
    induction ds with
    | nil => rfl
    | cons c ds ih => simp [PyData.depthAll, PyData.depth, ih]
  simp [SeqAt.shaped, PyData.canLay0, PyData.depth, h1, h2]
theorem strOk_mem {x : Str} (h : PyData.strOk x = true) {c : Nat} (hc : c ∈ x.cps.toList) : c < 0x110000 := by
  unfold PyData.strOk at h
  rw [← Array.all_toList] at h
  exact of_decide_eq_true (List.all_eq_true.mp h c hc)
theorem all_filter (cs : List Nat) (p : Nat → Bool) : cs.all p = PyData.eqv (.list ((cs.filter fun c => !p c).map fun c => PyData.str ⟨#[c]⟩)) (.list []) := by
  induction cs with
  | nil => rfl
  | cons c cs ih =>
    rw [List.all_cons, List.filter_cons]
    cases e : p c with
    | true =>
      rw [ih]
      simp
    | false =>
      simp
      rfl
def optV : Option Str → V
  | some x => .str x
  | none => .non
def dueK (fm : Str) (ws : List V) : Option Str := if fm = "lift" then dueL ws else if fm = "still" then dueS ws else dueA ws
def Shape (fm : Str) (ws : List V) : Prop := (fm = "lift" ∧ ws.length = 4) ∨ (fm = "still" ∧ ws.length = 3) ∨ (fm = "anew" ∧ ws.length = 3)
def spHeard (K : PySem.W.Frag) : Sp := fun vs H Q _ => ∃ (fm : Str) (g : Addr) (ws : List V), vs = [.str fm, .ref g] ∧ SqL K H g ws ∧ Shape fm ws ∧ (∀ v ∈ ws, GoodV K H v) ∧ ∀ H', Same H H' → Q (optV (dueK fm ws)) H'
def spSize (K : PySem.W.Frag) : Sp := fun vs H Q _ => ∃ v, vs = [v] ∧ GoodV K H v ∧ Q (.bl (cntV v)) H
theorem nsl : ¬ (("still" : Str) = "lift") := by decide +kernel
theorem nal : ¬ (("anew" : Str) = "lift") := by decide +kernel
theorem nas : ¬ (("anew" : Str) = "still") := by decide +kernel
theorem nsa : ¬ (("still" : Str) = "anew") := by decide +kernel
theorem nls : ¬ (("lift" : Str) = "still") := by decide +kernel
theorem nla : ¬ (("lift" : Str) = "anew") := by decide +kernel
theorem due3 (a b c : V) : valV (mergeK [] [(Sum.inr "still", a), (Sum.inr "anew", b), (Sum.inr "lift", c)]) (Sum.inr ("still" : Str) : Key) = some a ∧
    valV (mergeK [] [(Sum.inr "still", a), (Sum.inr "anew", b), (Sum.inr "lift", c)]) (Sum.inr ("anew" : Str) : Key) = some b ∧
    valV (mergeK [] [(Sum.inr "still", a), (Sum.inr "anew", b), (Sum.inr "lift", c)]) (Sum.inr ("lift" : Str) : Key) = some c := by
  have i : ∀ {x y : Str}, ((Sum.inr x : Key) = Sum.inr y) = (x = y) := fun {x y} => by simp
  refine ⟨?_, ?_, ?_⟩ <;> simp [mergeK, putK, valV, i, nsl, nal, nas, nsa, nls, nla]
/-- the pairs are looked through -/
theorem find_zip {wl : List Str} {vals : List V} : ∀ {i : Nat} {x : Str} {y : V}, wl[i]? = some x → vals[i]? = some y → (wl.zip vals)[i]? = some (x, y) := by
  intro i x y h1 h2
  rw [List.getElem?_zip_eq_some]
  exact ⟨h1, h2⟩
end Ts

namespace Ts
open PySem L2
theorem TyX.mutList {K : PySem.W.Frag} {H : Hp} {b : Addr} {xs ys : List V} {v : V} {t : Value} (h : TyX K H v t) (hb : H b = some (.lst xs)) : TyX K (upd H b (.lst ys)) v t := by
  have key : ∀ {a : Addr} {o : HO}, H a = some o → (∀ xs, o ≠ .lst xs) → upd H b (.lst ys) a = some o := fun {a o} e n => by
    rw [upd_ne (fun z => by rw [z, hb] at e; exact n _ (Option.some.inj e).symm)]
    exact e
  cases h with
  | base h =>
    cases h with
    | non => exact .base .non
    | bl x => exact .base (.bl x)
    | int i => exact .base (.int i)
    | str x => exact .base (.str x)
    | flt x => exact .base (.flt x)
    | @lst a zs e =>
      by_cases hD : a = b
      · rw [hD]
        exact .base (.lst upd_same)
      · exact .base (.lst (by rw [upd_ne hD]; exact e))
    | frz e => exact .base (.frz (key e fun _ z => by cases z))
    | tup e => exact .base (.tup (key e fun _ z => by cases z))
    | dK e => exact .base (.dK (key e fun _ z => by cases z))
    | dT e => exact .base (.dT (key e fun _ z => by cases z))
    | ins e cl ha hn htk hm => exact .base (.ins (key e fun _ z => by cases z) cl ha hn htk hm)
  | byt b => exact .byt b
  | set e => exact .set (key e fun _ z => by cases z)
  | kList e c => exact .kList e c
  | kTuple e c => exact .kTuple e c
  | kDict e c => exact .kDict e c
  | fTuple e => exact .fTuple (key e fun _ z => by cases z)
  | fDict e => exact .fDict (key e fun _ z => by cases z)
theorem GoodV.mutList {K : PySem.W.Frag} {H : Hp} {b : Addr} {xs ys : List V} {v : V} (g : GoodV K H v) (hb : H b = some (.lst xs)) : GoodV K (upd H b (.lst ys)) v := by
  obtain ⟨k, ⟨⟨t, h1, h2⟩, h3, h4⟩, h⟩ := g
  exact ⟨k, ⟨⟨t, TyX.mutList h1 hb, h2⟩, h3, h4⟩, h⟩
theorem rg_mem {n : Nat} {v : V} (h : v ∈ rgV 0 (n : Int)) : ∃ j : Nat, v = .int (j : Int) ∧ j < n := by
  unfold rgV at h
  obtain ⟨j, hj, e⟩ := List.mem_map.mp h
  rw [List.mem_range] at hj
  exact ⟨j, by rw [← e]; simp, by omega⟩
theorem rg_ok (n : Nat) : (rgV 0 (n : Int)).all okV = true := List.all_eq_true.mpr fun v hv => by
  obtain ⟨j, rfl, _⟩ := rg_mem hv
  rfl
theorem ixN_of {n j : Nat} (hj : j < n) : ixN n (j : Int) = some j := by
  unfold ixN
  rw [if_pos (by omega), if_pos (by omega)]
  simp
theorem name_ok {v : V} (h : v ∈ nameVs) : nameV v = true := by
  have hall : nameVs.all nameV = true := by decide +kernel
  exact List.all_eq_true.mp hall v h
theorem many_ok {v : V} (h : v ∈ manyVs) : v = .non ∨ cntV v = true := by
  simp only [manyVs, List.mem_cons, List.not_mem_nil, or_false] at h
  rcases h with rfl | rfl | rfl | rfl | rfl
  · exact .inr rfl
  · exact .inr rfl
  · exact .inr rfl
  · exact .inr rfl
  · exact .inl rfl
theorem dueC_ok {nm tm : V} {prs : List (Str × V)} (h1 : nameV nm = true) (h2 : ∀ p ∈ prs, cntV p.2 = true) (h3 : tm = .non ∨ cntV tm = true) : dueC nm prs tm = none := by
  have hall : prs.find? (fun p => !cntV p.2) = none := List.find?_eq_none.mpr fun p hp => by
    rw [h2 p hp]
    exact Bool.false_ne_true
  rw [dueC, if_neg (by rw [h1]; exact Bool.noConfusion), hall]
  refine if_neg fun z => ?_
  rcases h3 with h | h
  · exact z.1 h
  · rw [h] at z
    exact Bool.noConfusion z.2
theorem cnt_int {i : Int} (h : 1 ≤ i) : cntV (.int i) = true := decide_eq_true h
theorem form_cases {fm : Str} (h : V.str fm ∈ formVs) : fm = "still" ∨ fm = "anew" ∨ fm = "lift" := by
  simp only [formVs, List.mem_cons, List.not_mem_nil, or_false, V.str.injEq] at h
  exact h
theorem scal_opt (o : Option Str) : scal (optV o) (optV o) = true := by cases o <;> rfl
/-- an instance of an own class, as a value -/
structure OwnT (K : PySem.W.Frag) (C : Addr) : Prop where
  cl : Cls K C
  ha : PySem.W.findIn K (.ref C) "__class__" = some (some (.builtin "object.__class__"))
  hn : PySem.W.specialIn K (.builtin "object.__class__") "__get__" = some (some (.builtin "getset_descriptor.__get__"))
  ht : PySem.W.takesIn K (.builtin "object.__class__") = some true
  hm : PySem.W.mroIn K C (.type "object") = some true
  k1 : PySem.W.kitOne K (.ref C) (.type "int") = some false
  k2 : PySem.W.kitOne K (.ref C) (.type "bool") = some false
  k3 : PySem.W.kitOne K (.ref C) (.type "str") = some false
  k4 : PySem.W.kitOne K (.ref C) (.type "list") = some false
  k5 : PySem.W.kitOne K (.ref C) (.type "tuple") = some false
theorem tyV_own {K : PySem.W.Frag} {H : Hp} {a C dx : Addr} {fs : List (Str × V)} (T : OwnT K C) (h : H a = some (.ins C dx fs)) : TyV K H (.ref a) .own :=
  ⟨⟨_, .base (.ins h T.cl T.ha T.hn T.ht T.hm), T.k1, T.k2, T.k3, T.k4, T.k5⟩, fun z => (by cases z), fun z => (by cases z)⟩
theorem goodOwn {K : PySem.W.Frag} {H : Hp} {a C dx : Addr} {fs : List (Str × V)} (T : OwnT K C) (h : H a = some (.ins C dx fs)) : GoodV K H (.ref a) := ⟨_, tyV_own T h, fun x z => by cases z⟩
theorem ite_list {H : Hp} {P : List V → Prop} {b : Bool} {te1 te2 : TE} {σ : L2.St} {Q : VK} (k : ∀ g ws, H g = none → P ws → Q (.ref g) (upd H g (.lst ws)))
    (h1 : b = true → ∃ ws, P ws ∧ ∀ Q' : VK, (∀ g, H g = none → Q' (.ref g) (upd H g (.lst ws))) → te1 σ H Q')
    (h2 : b = false → ∃ ws, P ws ∧ ∀ Q' : VK, (∀ g, H g = none → Q' (.ref g) (upd H g (.lst ws))) → te2 σ H Q') : if b = true then te1 σ H Q else te2 σ H Q := by
  cases b with
  | true =>
    obtain ⟨ws, p, h⟩ := h1 rfl
    exact iteT (h Q fun g ng => k g ws ng p)
  | false =>
    obtain ⟨ws, p, h⟩ := h2 rfl
    exact iteF (h Q fun g ng => k g ws ng p)
theorem Shape.len {fm : Str} {ws us : List V} (h : Shape fm ws) (e : us.length = ws.length) : Shape fm us := by
  rcases h with ⟨a, b⟩ | ⟨a, b⟩ | ⟨a, b⟩
  · exact .inl ⟨a, e.trans b⟩
  · exact .inr (.inl ⟨a, e.trans b⟩)
  · exact .inr (.inr ⟨a, e.trans b⟩)
theorem Shape.le {fm : Str} {ws : List V} (h : Shape fm ws) : ws.length ≤ 4 := by
  rcases h with ⟨_, b⟩ | ⟨_, b⟩ | ⟨_, b⟩ <;> omega
theorem mem_cut {xs : List V} {lo hi : Option Int} {v : V} (h : v ∈ cutV xs lo hi) : v ∈ xs := by
  unfold cutV at h
  exact List.mem_of_mem_drop (List.mem_of_mem_take h)
theorem cut_le {xs : List V} {lo hi : Option Int} : (cutV xs lo hi).length ≤ xs.length := cutV_length xs lo hi
/-- the law's: a list of at most 63 ints is handed in, True comes out -/
def spLaw (K : PySem.W.Frag) : Sp := fun vs H Q _ => ∃ (a : Addr) (ns : List Int), vs = [.ref a] ∧ SqL K H a (ns.map V.int) ∧ ns.length ≤ 63 ∧ ∀ H', Q (.bl true) H'
end Ts

namespace Ts
open PySem L2
/-! ### what other laws draw from: a list of two numbers at B -/
def BoxAt (H : Hp) (B : Addr) : Prop := ∃ g m : Int, H B = some (.lst [.int g, .int m]) ∧ 0 ≤ g ∧ 0 ≤ m ∧ m < 2147483648
/-- all but one place stay -/
def KeptB (B : Addr) (H H' : Hp) : Prop := ∀ b o, b ≠ B → H b = some o → H' b = some o
structure GoB (B : Addr) (H H' : Hp) : Prop where
  d : BoxAt H' B
  k : KeptB B H H'
theorem BoxAt.some {H : Hp} {B : Addr} (d : BoxAt H B) : ∃ o, H B = some o := by
  obtain ⟨g, m, h, _⟩ := d
  exact ⟨_, h⟩
theorem BoxAt.ne {H : Hp} {B p : Addr} (d : BoxAt H B) (hp : H p = none) : p ≠ B := by
  obtain ⟨o, h⟩ := d.some
  exact (ne_of_none h hp).symm
theorem BoxAt.same {H H' : Hp} {B : Addr} (d : BoxAt H B) (s : Same H H') : BoxAt H' B := by
  obtain ⟨g, m, h, r⟩ := d
  exact ⟨g, m, s _ _ h, r⟩
theorem GoB.refl {B : Addr} {H : Hp} (d : BoxAt H B) : GoB B H H := ⟨d, fun _ _ _ h => h⟩
theorem GoB.trans {B : Addr} {H H1 H2 : Hp} (a : GoB B H H1) (b : GoB B H1 H2) : GoB B H H2 := ⟨b.d, fun c o n h => b.k c o n (a.k c o n h)⟩
theorem GoB.same {B : Addr} {H H1 H2 : Hp} (a : GoB B H H1) (s : Same H1 H2) : GoB B H H2 := ⟨a.d.same s, fun c o n h => s c o (a.k c o n h)⟩
theorem GoB.new {B p : Addr} {o : HO} {H H1 : Hp} (a : GoB B H H1) (h : H1 p = none) : GoB B H (upd H1 p o) := a.same (Same.new (Same.refl _) h)
theorem GoB.mut {B p : Addr} {o : HO} {H H1 : Hp} (a : GoB B H H1) (n : H p = none) (h : p ≠ B) : GoB B H (upd H1 p o) := by
  refine ⟨?_, fun c u hc hu => ?_⟩
  · obtain ⟨g, m, e, r⟩ := a.d
    exact ⟨g, m, by rw [upd_ne h.symm]; exact e, r⟩
  · rw [upd_ne (ne_of_none hu n)]
    exact a.k c u hc hu
theorem GoB.free {B p : Addr} {H H1 : Hp} (a : GoB B H H1) (d : BoxAt H B) (h : H1 p = none) : H p = none := by
  cases e : H p with
  | none => rfl
  | some o =>
    by_cases z : p = B
    · obtain ⟨o', h'⟩ := a.d.some
      rw [z] at h
      rw [h] at h'
      cases h'
    · rw [a.k _ _ z e] at h
      cases h
theorem KeptB.sqt {K : PySem.W.Frag} {B a : Addr} {xs : List V} {H H' : Hp} (k : KeptB B H H') (d : BoxAt H B) (h : SqT K H a xs) : SqT K H' a xs := by
  obtain ⟨g, m, e, _⟩ := d
  rcases h with (h | ⟨o, h⟩) | h
  · exact .inl (.inl (k _ _ (ne_of h e (by intro z; cases z)) h))
  · exact .inl (.inr ⟨o, k _ _ (ne_of h e (by intro z; cases z)) h⟩)
  · exact .inr h
theorem KeptB.sql {K : PySem.W.Frag} {B a : Addr} {xs : List V} {H H' : Hp} (k : KeptB B H H') (n : a ≠ B) (h : SqL K H a xs) : SqL K H' a xs := by
  rcases h with (h | ⟨o, h⟩) | h
  · exact .inl (.inl (k _ _ n h))
  · exact .inl (.inr ⟨o, k _ _ n h⟩)
  · exact .inr h
theorem TyX.gob {K : PySem.W.Frag} {B : Addr} {H H' : Hp} {v : V} {t : Value} (h : TyX K H v t) (d : BoxAt H B) (w : GoB B H H') : TyX K H' v t := by
  have key : ∀ {a : Addr} {o : HO}, H a = some o → (∀ xs, o ≠ .lst xs) → H' a = some o := fun {a o} e n => by
    refine w.k _ _ (fun z => ?_) e
    obtain ⟨g, m, h1, _⟩ := d
    rw [z, h1] at e
    exact n _ (Option.some.inj e).symm
  cases h with
  | base h =>
    cases h with
    | non => exact .base .non
    | bl x => exact .base (.bl x)
    | int i => exact .base (.int i)
    | str x => exact .base (.str x)
    | flt x => exact .base (.flt x)
    | @lst a xs e =>
      by_cases hD : a = B
      · obtain ⟨g, m, h1, _⟩ := w.d
        rw [hD]
        exact .base (.lst h1)
      · exact .base (.lst (w.k _ _ hD e))
    | frz e => exact .base (.frz (key e fun _ z => by cases z))
    | tup e => exact .base (.tup (key e fun _ z => by cases z))
    | dK e => exact .base (.dK (key e fun _ z => by cases z))
    | dT e => exact .base (.dT (key e fun _ z => by cases z))
    | ins e cl ha hn htk hm => exact .base (.ins (key e fun _ z => by cases z) cl ha hn htk hm)
  | byt b => exact .byt b
  | set e => exact .set (key e fun _ z => by cases z)
  | kList e c => exact .kList e c
  | kTuple e c => exact .kTuple e c
  | kDict e c => exact .kDict e c
  | fTuple e => exact .fTuple (key e fun _ z => by cases z)
  | fDict e => exact .fDict (key e fun _ z => by cases z)
theorem TyV.gob {K : PySem.W.Frag} {B : Addr} {H H' : Hp} {v : V} {k : Kd} (h : TyV K H v k) (d : BoxAt H B) (w : GoB B H H') : TyV K H' v k := by
  obtain ⟨⟨t, h1, h2⟩, h3, h4⟩ := h
  exact ⟨⟨t, TyX.gob h1 d w, h2⟩, h3, h4⟩
theorem GoodV.gob {K : PySem.W.Frag} {B : Addr} {H H' : Hp} {v : V} (g : GoodV K H v) (d : BoxAt H B) (w : GoB B H H') : GoodV K H' v := by
  obtain ⟨k, t, h⟩ := g
  exact ⟨k, t.gob d w, h⟩
def spSeed (K : PySem.W.Frag) : Sp := fun vs H Q _ => ∃ (a : Addr) (ns : List Int) (k : Int), vs = [.ref a, .int k] ∧ SqL K H a (ns.map V.int) ∧ 0 ≤ k ∧ k < 100 ∧
  ∀ (B : Addr) (H' : Hp), BoxAt H' B → Same H H' → H B = none → Q (.ref B) H'
def spChoose : Sp := fun vs H Q _ => ∃ (B : Addr) (n : Int), vs = [.ref B, .int n] ∧ BoxAt H B ∧ 0 < n ∧ n < 2 ^ 64 ∧
  ∀ (d : Int) (H' : Hp), 0 ≤ d → d < n → GoB B H H' → Q (.int d) H'
def spOneOf (K : PySem.W.Frag) : Sp := fun vs H Q _ => ∃ (B a : Addr) (xs : List V), vs = [.ref B, .ref a] ∧ BoxAt H B ∧ SqL K H a xs ∧ a ≠ B ∧ 0 < xs.length ∧ xs.length ≤ 1000 ∧
  ∀ (v : V) (H' : Hp), v ∈ xs → GoB B H H' → Q v H'
end Ts

namespace Ts
open PySem L2
def numV : V → Bool
  | .int i => decide (0 ≤ i)
  | _ => false
def spIsNum (K : PySem.W.Frag) : Sp := fun vs H Q _ => ∃ (v : V) (k : Kd), vs = [v] ∧ TyV K H v k ∧ Q (.bl (decide (k = .int) && numV v)) H
theorem num_eq {K : PySem.W.Frag} {H : Hp} {v : V} {k : Kd} (h : TyV K H v k) : (decide (k = .int) && numV v) = numV v := by
  obtain ⟨⟨t, tx, t1, t2, t3, t4, t5⟩, i1, _⟩ := h
  by_cases e : k = .int
  · rw [decide_eq_true e]
    rfl
  · rw [decide_eq_false e]
    cases v with
    | int i =>
      cases tx with
      | base hb =>
        cases hb
        rw [kit_ty (a := "int") (b := "int") (r := true) (by decide +kernel)] at t1
        rw [kit_ty (a := "int") (b := "bool") (r := false) (by decide +kernel)] at t2
        cases k <;> first | exact absurd rfl e | exact absurd t1 (by decide) | exact absurd t2 (by decide)
    | _ => rfl
/-! ### what may be an occasion -/
/-- the three things of a triple, or none -/
abbrev Th := Option (V × V × V)
def occO : Th → Bool
  | some (d, n, l) => numV d && (nameV n && cntV l)
  | none => false
def dayO : Th → Int
  | some (.int d, _, _) => d
  | _ => 0
def AnyV (K : PySem.W.Frag) (H : Hp) (v : V) : Prop := ∃ k, TyV K H v k
theorem GoodV.any {K : PySem.W.Frag} {H : Hp} {v : V} (g : GoodV K H v) : AnyV K H v := ⟨g.choose, g.choose_spec.1⟩
theorem AnyV.same {K : PySem.W.Frag} {H H' : Hp} {v : V} (g : AnyV K H v) (s : Same H H') : AnyV K H' v := ⟨g.choose, g.choose_spec.same s⟩
theorem AnyV.gob {K : PySem.W.Frag} {B : Addr} {H H' : Hp} {v : V} (g : AnyV K H v) (d : BoxAt H B) (w : GoB B H H') : AnyV K H' v := ⟨g.choose, g.choose_spec.gob d w⟩
inductive ThV (K : PySem.W.Frag) (H : Hp) : V → Th → Prop
  | no {v : V} {k : Kd} : TyV K H v k → k ≠ .tup → ThV K H v none
  | tup {a : Addr} {xs : List V} : SqT K H a xs → xs.length ≠ 3 → ThV K H (.ref a) none
  | occ {a : Addr} {d n l : V} : SqT K H a [d, n, l] → AnyV K H d → GoodV K H n → AnyV K H l → ThV K H (.ref a) (some (d, n, l))
theorem ThV.same {K : PySem.W.Frag} {H H' : Hp} {v : V} {o : Th} (t : ThV K H v o) (s : Same H H') : ThV K H' v o := by
  cases t with
  | no h n => exact .no (h.same s) n
  | tup h n => exact .tup (Same.sqt s h) n
  | occ h a b c => exact .occ (Same.sqt s h) (a.same s) (b.same s) (c.same s)
theorem ThV.gob {K : PySem.W.Frag} {B : Addr} {H H' : Hp} {v : V} {o : Th} (t : ThV K H v o) (d : BoxAt H B) (w : GoB B H H') : ThV K H' v o := by
  cases t with
  | no h n => exact .no (h.gob d w) n
  | tup h n => exact .tup (w.k.sqt d h) n
  | occ h a b c => exact .occ (w.k.sqt d h) (a.gob d w) (b.gob d w) (c.gob d w)
def ThAll (K : PySem.W.Frag) (H : Hp) (xs : List V) (os : List Th) : Prop := xs.length = os.length ∧ ∀ (i : Nat) (v : V) (o : Th), xs[i]? = some v → os[i]? = some o → ThV K H v o
theorem ThAll.same {K : PySem.W.Frag} {H H' : Hp} {xs : List V} {os : List Th} (t : ThAll K H xs os) (s : Same H H') : ThAll K H' xs os := ⟨t.1, fun i v o h1 h2 => (t.2 i v o h1 h2).same s⟩
theorem ThAll.gob {K : PySem.W.Frag} {B : Addr} {H H' : Hp} {xs : List V} {os : List Th} (t : ThAll K H xs os) (d : BoxAt H B) (w : GoB B H H') : ThAll K H' xs os := ⟨t.1, fun i v o h1 h2 => (t.2 i v o h1 h2).gob d w⟩
theorem ThAll.nil {K : PySem.W.Frag} {H : Hp} : ThAll K H [] [] := ⟨rfl, fun i v o h => by simp at h⟩
theorem ThAll.append {K : PySem.W.Frag} {H : Hp} {xs ys : List V} {os ps : List Th} (t : ThAll K H xs os) (u : ThAll K H ys ps) : ThAll K H (xs ++ ys) (os ++ ps) := by
  refine ⟨by rw [List.length_append, List.length_append, t.1, u.1], fun i v o h1 h2 => ?_⟩
  by_cases hi : i < xs.length
  · rw [List.getElem?_append_left hi] at h1
    rw [List.getElem?_append_left (by rw [← t.1]; exact hi)] at h2
    exact t.2 i v o h1 h2
  · rw [List.getElem?_append_right (by omega)] at h1
    rw [List.getElem?_append_right (by rw [← t.1]; omega), ← t.1] at h2
    exact u.2 _ v o h1 h2
theorem ThAll.one {K : PySem.W.Frag} {H : Hp} {v : V} {o : Th} (t : ThV K H v o) : ThAll K H [v] [o] := ⟨rfl, fun i v' o' h1 h2 => by
  match i, h1, h2 with
  | 0, h1, h2 =>
    cases h1
    cases h2
    exact t
  | i + 1, h1, _ => simp at h1⟩
theorem ThAll.take {K : PySem.W.Frag} {H : Hp} {xs : List V} {os : List Th} (t : ThAll K H xs os) (k : Nat) : ThAll K H (xs.take k) (os.take k) := by
  refine ⟨by rw [List.length_take, List.length_take, t.1], fun i v o h1 h2 => ?_⟩
  rw [List.getElem?_take] at h1 h2
  split at h1
  · rename_i hi
    rw [if_pos hi] at h2
    exact t.2 i v o h1 h2
  · cases h1
theorem ThAll.drop {K : PySem.W.Frag} {H : Hp} {xs : List V} {os : List Th} (t : ThAll K H xs os) (k : Nat) : ThAll K H (xs.drop k) (os.drop k) := by
  refine ⟨by rw [List.length_drop, List.length_drop, t.1], fun i v o h1 h2 => ?_⟩
  rw [List.getElem?_drop] at h1 h2
  exact t.2 _ v o h1 h2
def spIsOcc (K : PySem.W.Frag) : Sp := fun vs H Q _ => ∃ (v : V) (o : Th), vs = [v] ∧ ThV K H v o ∧ ∀ H', Same H H' → Q (.bl (occO o)) H'
/-- whether an occasion may stand there -/
def stands (e : Int) (o : Th) : Bool := occO o && decide (e ≤ dayO o)
/-- the last day behind all of these, none if one can't stand there -/
def runT : Int → List Th → Option Int
  | e, [] => some e
  | e, o :: os => if stands e o = true then runT (dayO o) os else none
/-- the number of the first one that can't stand there -/
def dueT : Int → List Th → Option Nat
  | _, [] => none
  | e, o :: os => if stands e o = true then (dueT (dayO o) os).map (· + 1) else some 0
theorem runT_append : ∀ (os ps : List Th) (e : Int), runT e (os ++ ps) = (runT e os).bind fun f => runT f ps
  | [], ps, e => rfl
  | o :: os, ps, e => by
    rw [List.cons_append, runT, runT]
    split
    · exact runT_append os ps _
    · rfl
theorem dueT_ok : ∀ {os : List Th} {e f : Int}, runT e os = some f → dueT e os = none
  | [], e, f, _ => rfl
  | o :: os, e, f, h => by
    rw [runT] at h
    rw [dueT]
    split at h
    · rename_i hs
      rw [if_pos hs, dueT_ok h]
      rfl
    · cases h
theorem dueT_bad : ∀ {os ps : List Th} {o : Th} {e f : Int}, runT e os = some f → stands f o = false → dueT e (os ++ o :: ps) = some os.length
  | [], ps, o, e, f, h, hb => by
    cases h
    show dueT e (o :: ps) = some 0
    rw [dueT, if_neg (by rw [hb]; exact Bool.false_ne_true)]
  | p :: os, ps, o, e, f, h, hb => by
    rw [runT] at h
    split at h
    · rename_i hs
      show dueT e (p :: (os ++ o :: ps)) = _
      rw [dueT, if_pos hs, dueT_bad h hb]
      rfl
    · cases h
theorem runT_snoc {os : List Th} {e f : Int} {o : Th} (h : runT e os = some f) (hs : stands f o = true) : runT e (os ++ [o]) = some (dayO o) := by
  rw [runT_append, h]
  show runT f [o] = _
  rw [runT, if_pos hs]
  rfl
theorem take_snoc {α : Type} {xs : List α} {i : Nat} {x : α} (h : xs[i]? = some x) : xs.take (i + 1) = xs.take i ++ [x] := by
  rw [List.take_add_one, h]
  rfl
/-- an argument that should be a sequence of occasions: the things in it, none if it is no sequence -/
inductive ArgV (K : PySem.W.Frag) (H : Hp) : V → Option (List V × List Th) → Prop
  | no {v : V} {k : Kd} : TyV K H v k → k.inL = false → k.inT = false → ArgV K H v none
  | seq {a : Addr} {xs : List V} {os : List Th} : SqQ K H a xs → ThAll K H xs os → xs.length ≤ 1000 → ArgV K H (.ref a) (some (xs, os))
theorem SqQ.same {K : PySem.W.Frag} {H H' : Hp} {a : Addr} {xs : List V} (h : SqQ K H a xs) (s : Same H H') : SqQ K H' a xs := h.elim (fun h => .inl (s.seq h)) fun h => .inr (Same.sqt s h)
theorem ArgV.same {K : PySem.W.Frag} {H H' : Hp} {v : V} {r : Option (List V × List Th)} (t : ArgV K H v r) (s : Same H H') : ArgV K H' v r := by
  cases t with
  | no h a b => exact .no (h.same s) a b
  | seq h a b => exact .seq (h.same s) (a.same s) b
/-- a story's attributes -/
def occF (t : Addr) : List (Str × V) := putF "occasions" (.ref t) []
/-- a story stands at s: its things -/
def StoryAt (K : PySem.W.Frag) (H : Hp) (C s : Addr) (os : List Th) : Prop := ∃ (dx t : Addr) (xs : List V), H s = some (.ins C dx (occF t)) ∧ SqT K H t xs ∧ ThAll K H xs os ∧ xs.length ≤ 1000
theorem StoryAt.same {K : PySem.W.Frag} {H H' : Hp} {C s : Addr} {os : List Th} (t : StoryAt K H C s os) (u : Same H H') : StoryAt K H' C s os := by
  obtain ⟨dx, t, xs, h1, h2, h3, h4⟩ := t
  exact ⟨dx, t, xs, u _ _ h1, Same.sqt u h2, h3.same u, h4⟩
/-- the promise of a story's __init__ -/
def spStory (K : PySem.W.Frag) (C CI : Addr) : Sp := fun vs H Q E => ∃ (x dx : Addr) (v : V) (r : Option (List V × List Th)), vs = [.ref x, v] ∧ H x = some (.ins C dx []) ∧ ArgV K H v r ∧
  (∀ xs os, r = some (xs, os) → dueT 0 os = none → ∀ (H' : Hp) (t : Addr), H' x = some (.ins C dx (occF t)) → SqT K H' t xs → But x H H' → Q .non H') ∧
  ∀ i : Nat, (match r with | none => some 0 | some p => dueT 0 p.2) = some i → ∀ (H' : Hp) (d : Addr), Same H H' → H' d = some (.xd [("at", .int i)]) → E (.ref CI) (some d) H'
def lenR : Option (List V × List Th) → Nat
  | none => 0
  | some p => p.1.length
/-- the promise of further, what it makes left out -/
def spFurther (K : PySem.W.Frag) (C CI : Addr) : Sp := fun vs H Q E => ∃ (s : Addr) (os0 : List Th) (v : V) (r : Option (List V × List Th)), vs = [.ref s, v] ∧ StoryAt K H C s os0 ∧ ArgV K H v r ∧ os0.length + lenR r ≤ 1000 ∧
  (∀ xs os, r = some (xs, os) → dueT 0 (os0 ++ os) = none → ∀ (y : Addr) (H' : Hp), Same H H' → StoryAt K H' C y (os0 ++ os) → Q (.ref y) H') ∧
  ∀ i : Nat, (match r with | none => some os0.length | some p => dueT 0 (os0 ++ p.2)) = some i → ∀ (H' : Hp) (d : Addr), Same H H' → H' d = some (.xd [("at", .int i)]) → E (.ref CI) (some d) H'
/-- a method that may raise -/
structure MetX (P : Program) (w : World) (K : PySem.W.Frag) (mg : Str → Option Value) (base : Heap) (k : Nat) (C : Addr) (m : Str) (sp : Sp) (dvs : List V) : Prop where
  ex : ∃ (f : Addr) (fd : FuncData) (ps : List Str) (ds : List Value), Cls K C ∧ Meth K C m f ∧ FnOk P w K mg base (L2.CX P w) k f fd ps sp ∧ Binds K fd ps ds ∧ Vals dvs ds
def optI : Option Nat → V
  | some i => .int i
  | none => .non
/-- the number that is due -/
def dueG (os0 : List Th) : Option (List V × List Th) → Option Nat
  | none => some os0.length
  | some p => dueT 0 (os0 ++ p.2)
def spTried (K : PySem.W.Frag) (C : Addr) : Sp := fun vs H Q _ => ∃ (v z : V) (r : Option (List V × List Th)) (os0 : List Th), vs = [v, z] ∧ ArgV K H v r ∧ os0.length + lenR r ≤ 1000 ∧ ((z = .non ∧ os0 = []) ∨ ∃ s, z = .ref s ∧ StoryAt K H C s os0) ∧
  ∀ H', Same H H' → Q (optI (dueG os0 r)) H'
theorem But.made {x dx C : Addr} {H H' : Hp} (nx : H x = none) (ndx : H dx = none) (hb : But x (upd (upd H dx (.own x)) x (.ins C dx [])) H') : Same H H' := fun b o ho => by
  have bx := ne_of_none ho nx
  refine hb b o ?_ bx
  rw [upd_ne bx, upd_ne (ne_of_none ho ndx)]
  exact ho
theorem Same.made {x dx C : Addr} {H : Hp} (nx : H x = none) (ndx : H dx = none) : Same H (upd (upd H dx (.own x)) x (.ins C dx [])) := fun b o ho => by
  rw [upd_ne (ne_of_none ho nx), upd_ne (ne_of_none ho ndx)]
  exact ho
end Ts

/-! len(set(xs)): xs a list or a tuple of keys of one kind; as many as are unlike -/
namespace TsS
open PySem PySem.Spec PyProof.Rows
section
variable {κ : Type} [DecidableEq κ]
/-- how many unlike ones stand among the first i -/
def uq (val : Nat → κ) : Nat → Nat
  | 0 => 0
  | i + 1 => if ((List.range i).map val).contains (val i) then uq val i else uq val i + 1
theorem uq_le (val : Nat → κ) : ∀ i, uq val i ≤ i
  | 0 => Nat.le_refl _
  | i + 1 => by
    have := uq_le val i
    rw [uq]
    split <;> omega
theorem uq_full (val : Nat → κ) : ∀ i, uq val i = i ↔ ((List.range i).map val).Nodup
  | 0 => by simp [uq]
  | i + 1 => by
    have h1 := uq_le val i
    rw [uq, List.range_succ, List.map_append, List.nodup_append]
    constructor
    · intro h
      split at h
      · omega
      · rename_i hc
        refine ⟨(uq_full val i).mp (by omega), by simp, fun a ha b hb e => ?_⟩
        have hb' : b = val i := by simpa using hb
        subst hb'
        subst e
        exact hc (List.contains_iff_mem.mpr ha)
    · rintro ⟨h, _, hd⟩
      rw [if_neg (fun hc => hd _ (List.contains_iff_mem.mp hc) _ (by simp) rfl), (uq_full val i).mpr h]
/-- the first i, as a set -/
def seen (val : Nat → κ) (i : Nat) : κ → Bool := fun k => ((List.range i).map val).contains k
theorem seen_succ (val : Nat → κ) (i : Nat) (k : κ) : seen val (i + 1) k = (seen val i k || decide (k = val i)) := by
  unfold seen
  rw [List.range_succ, List.map_append, List.contains_append]
  simp
end
section
variable {prog : Program} {w : World} {κ : Type} [DecidableEq κ] {kk : KeyKind prog w κ}
theorem set_as {h : Heap} {a : Addr} {S S' : κ → Bool} {n n' : Nat} (x : h.SetOf kk a S n) (e : ∀ k, S k = S' k) (en : n = n') : h.SetOf kk a S' n' := by
  have e' : S = S' := funext e
  rw [← e', ← en]
  exact x
theorem set_moves {h h' : Heap} {a : Addr} {S : κ → Bool} {n : Nat} (x : h.SetOf kk a S n) (k : ∀ o, h.get? a = some o → h'.get? a = some o) : h'.SetOf kk a S n := by
  obtain ⟨o, es, ep, t, ho, r⟩ := x
  exact ⟨o, es, ep, t, k o ho, r⟩
section
variable {A : Around} {R : Result → Shared → Prop} {I : Addr} {fp wr : List Addr} {G : Array GenState → Array GenState → Prop} {n : Nat} {P : Nat → Value → Prop} {St : Nat → Shared → Prop}
/-- what the update's loop makes of an iterator -/
theorem update_all (W : WalksS prog w A.in1 I fp wr G n P St) (S : Addr) (out : S ∉ fp) (val : Nat → κ) (hval : ∀ i v, P i v → kk.is (val i) v = true ∧ v.scannable = true) (room : n + 1 < scanBound) : ∀ (left i : Nat) (s : Shared), i + left = n → St i s → s.heap.SetOf kk S (seen val i) (uq val i) →
    (∀ s2, Moved (S :: wr) G s s2 → s2.heap.SetOf kk S (seen val n) (uq val n) → R (.ok (.ret .none)) s2) → codeAny (model prog w) A (.builtin "set.update.loop" ⟨[.ref S, .ref I], []⟩) R s := by
  have nw : S ∉ wr := fun h => out (W.sub _ h)
  have up : ∀ b ∈ wr, b ∈ S :: wr := fun b => List.mem_cons_of_mem _
  intro left
  induction left with
  | zero =>
    intro i s hi st hS done
    have e : i = n := by omega
    subst e
    refine codeAny_builtin F.entry_set_update_loop ?_
    rw [Around.under_plainId F.plain_set_update_loop _]
    refine (show wpAny _ A.in1 (pyNext (.ref I) >>= _) _ _ s from wpAny_bind (W.done s _ _ st fun s2 mv => ?_))
    exact (show wpAny _ A.in1 (ret Value.none) _ _ s2 from wpAny_pure (done s2 (mv.mono up) (set_moves hS fun o ho => mv.heap S o nw ho)))
  | succ left ih =>
    intro i s hi st hS done
    have lt : i < n := by omega
    refine codeAny_builtin F.entry_set_update_loop ?_
    rw [Around.under_plainId F.plain_set_update_loop _]
    refine (show wpAny _ A.in1 (pyNext (.ref I) >>= _) _ _ s from wpAny_bind (W.item i s _ _ lt st fun v s2 hP st2 mv => ?_))
    obtain ⟨hk, hsc⟩ := hval i v hP
    have hS2 : s2.heap.SetOf kk S (seen val i) (uq val i) := set_moves hS fun o ho => mv.heap S o nw ho
    refine (show wpAny _ A.in1 (holding [v] (setAdd S v) >>= _) _ _ s2 from wpAny_bind (wpAny_holding ?_))
    unfold setAdd
    refine wpAny_holding (wpAny_bind (kk.pyHash hk ?_))
    have few := uq_le val i
    refine wpAny_setAddHashed_of (knd := kk) (s := { s2 with toks := s2.toks + 1 }) hk hsc hS2 (by omega) fun h3 sb hS3 => ?_
    have hS4 : h3.SetOf kk S (seen val (i + 1)) (uq val (i + 1)) := set_as hS3 (fun k => (seen_succ val i k).symm) (by rw [uq]; rfl)
    have keep : ∀ b o, b ≠ S → s2.heap.get? b = some o → h3.get? b = some o := fun b o nb e => by rw [sb.2 b nb]; exact e
    refine wpAny_pure ⟨plainId_quiet F.plain_set_update_loop _, ih (i + 1) _ (by omega) (W.frame _ s2 _ _ st2 (Nat.le_succ _) fun b hb o e => keep b o (fun z => out (z ▸ hb)) e) hS4 fun s5 mv5 hS5 => ?_⟩
    exact done s5 (Moved.trans W.gtrans ((mv.mono up).then_heap (Nat.le_succ _) fun b o hb e => keep b o (fun z => hb (z ▸ List.mem_cons_self)) e) mv5) hS5
end
end
end TsS
namespace TsS
open PySem PySem.Spec PyProof.Rows
section
variable {prog : Program} {w : World} {κ : Type} [DecidableEq κ] {kk : KeyKind prog w κ} {A : Around} {E : Value → Shared → Prop} {s : Shared}
/-- an empty set, just made -/
abbrev bare (led : Bool) : Obj := { cls := .type "set", dict := none, data := .set #[] 0 (.fresh 0 0 led) }
theorem fresh_seen {h : Heap} {a : Addr} {led : Bool} (val : Nat → κ) (e : h.get? a = some (bare led)) : h.SetOf kk a (seen val 0) (uq val 0) :=
  set_as ((PyProof.Rows.setObjOf_fresh (knd := kk) led).setOf e (by unfold scanBound; omega)) (fun _ => rfl) rfl
/-- set(x): by what its __init__ does -/
theorem set_of {x : Value} {Q : Value → Shared → Prop}
    (init : ∀ led : Bool, wpAny (model prog w) A.in1.in1 (PySem.Builtin.«set.__init__» ⟨[.ref s.heap.objs.size, x], []⟩)
      (fun fin s2 => match fin with | .done f => wants (fun r s3 => r = .none ∧ Q (.ref s.heap.objs.size) s3) E (.ok f) s2 | .again c => c.quiet = true ∧ codeAny (model prog w) A.in1 c (wants (fun r s3 => r = .none ∧ Q (.ref s.heap.objs.size) s3) E) s2)
      (fun e s2 => wants (fun r s3 => r = .none ∧ Q (.ref s.heap.objs.size) s3) E (.error e) s2) { s with heap := s.heap.push (bare led) }) : wpAny (model prog w) A (call (.type "set") [x]) Q E s := by
  obtain ⟨m0, ms, hmro⟩ := PySem.F.called_set.mro
  have made := PySem.F.called_set.made
  have sub := PySem.F.called_set.sub
  have nt := PySem.F.called_set.notType
  have cc := PySem.F.called_set.canCreate
  have tc := PySem.F.typeCall_set_1 x
  refine wpAny_call (codeAny_of_tree (show wpAny _ _ (callAny (.type "set") _) _ _ _ from wpAny_pure ⟨Code.quiet_builtin _ (by decide +kernel), codeAny_builtin PySem.F.entry_type_call ?_⟩))
  rw [Around.under_plain (weight_type_call_type "set" [x] []) rfl]
  repeat (any_goals (first | assumption | wp_step))
  refine codeAny_mono (PySem.code_set_new_1 x (E := E) (Q₁ := fun o s1 => ∃ led : Bool, o = .ref s.heap.objs.size ∧ s1 = { s with heap := s.heap.push (bare led) }) fun led => ⟨led, rfl, rfl⟩) fun r1 s1 h1 => ?_
  cases r1 with
  | error e => exact h1
  | ok f1 =>
    cases f1 with
    | ret o =>
      obtain ⟨led, rfl, rfl⟩ := h1
      have at0 : (s.heap.push (bare led)).get? s.heap.objs.size = some (bare led) := Heap.get?_push_size _ rfl
      have ty : Shared.TypeIs { s with heap := s.heap.push (bare led) } (.ref s.heap.objs.size) "set" := ⟨_, at0, rfl⟩
      have look := PySem.F.called_set.init.lookup
      have bnd := PySem.F.called_set.init.bind (.ref s.heap.objs.size)
      repeat (any_goals (first | assumption | wp_step))
      refine codeAny_mono (codeAny_call_builtin PySem.F.called_set.init.plain PySem.F.entry_set_init (PySem.check_set_init_1 ty (init led))) fun r2 s2 h2 => ?_
      cases r2 with
      | error e => exact h2
      | ok f2 =>
        cases f2 with
        | ret r =>
          obtain ⟨rfl, q⟩ := h2
          repeat (any_goals (first | assumption | wp_step))
        | _ => exact h2.elim
    | _ => exact h1.elim
/-- its walk, once the iterator I stands -/
theorem set_walk {led : Bool} {it : Obj} {l : Addr} {items : Array Value} {St : Nat → Heap → Prop} (val : Nat → κ) {Q : Value → Shared → Prop} (W : Walks prog w A.in1.in1.in1 (s.heap.objs.size + 1) [s.heap.objs.size + 1, l] [s.heap.objs.size + 1] items.size (fun i v => items[i]? = some v) St)
    (nl : l < s.heap.objs.size) (hval : ∀ (i : Nat) (v : Value), items[i]? = some v → kk.is (val i) v = true ∧ v.scannable = true) (room : items.size + 1 < scanBound) (st : St 0 ((s.heap.push (bare led)).push it))
    (fin : ∀ (h' : Heap) (tk : Nat), h'.SetOf kk s.heap.objs.size (seen val items.size) (uq val items.size) → (∀ b o, s.heap.get? b = some o → h'.get? b = some o) → Q (.ref s.heap.objs.size) { s with heap := h', toks := tk }) :
    codeAny (model prog w) A.in1.in1 (.builtin "set.update.loop" ⟨[.ref s.heap.objs.size, .ref (s.heap.objs.size + 1)], []⟩) (fun r s2 => r = .ok (.ret .none) ∧ Q (.ref s.heap.objs.size) s2) { s with heap := (s.heap.push (bare led)).push it } := by
  have at0 : ((s.heap.push (bare led)).push it).get? s.heap.objs.size = some (bare led) := Heap.get?_push_of_some _ (Heap.get?_push_size _ rfl)
  refine update_all W.toS s.heap.objs.size (by
    simp only [List.mem_cons, List.not_mem_nil, or_false, not_or]
    exact ⟨Nat.ne_of_lt (Nat.lt_succ_self _), Nat.ne_of_gt nl⟩) val hval room items.size 0 _ (by omega) st (fresh_seen val at0) fun s2 mv hS => ?_
  obtain ⟨h', g', d', tk', os'⟩ := s2
  have eg : g' = s.gens := mv.gens
  have ed : d' = s.drawn := mv.drawn
  have eo : os' = s.os := mv.os
  subst eg ed eo
  refine ⟨rfl, fin h' tk' hS fun b o e => ?_⟩
  have lt := Heap.lt_size e
  exact mv.heap b o (by
    simp only [List.mem_cons, List.not_mem_nil, or_false, not_or]
    exact ⟨Nat.ne_of_lt lt, Nat.ne_of_lt (Nat.lt_succ_of_lt lt)⟩) (Heap.get?_push_of_some _ (Heap.get?_push_of_some _ e))
set_option maxHeartbeats 1000000 in
/-- set(l), l a list, or a tuple -/
theorem set_list {l : Addr} {items : Array Value} (val : Nat → κ) {Q : Value → Shared → Prop} (hh : A.handled = none) (hl : s.heap.IsList l items) (hval : ∀ (i : Nat) (v : Value), items[i]? = some v → kk.is (val i) v = true ∧ v.scannable = true) (room : items.size + 1 < scanBound)
    (fin : ∀ (h' : Heap) (tk : Nat), h'.SetOf kk s.heap.objs.size (seen val items.size) (uq val items.size) → (∀ b o, s.heap.get? b = some o → h'.get? b = some o) → Q (.ref s.heap.objs.size) { s with heap := h', toks := tk }) :
    wpAny (model prog w) A (call (.type "set") [.ref l]) Q E s := by
  refine set_of fun led => ?_
  have nl : l < s.heap.objs.size := by
    obtain ⟨o, ho, _⟩ := hl
    exact Heap.lt_size ho
  have hh3 : A.in1.in1.in1.handled = none := by simp [hh]
  have W := set_walk (kk := kk) (led := led) (it := { cls := .type "list_iterator", data := .fields #[.ref l, .int 0 0] }) val (Q := Q) (Walks.list (prog := prog) (w := w) hh3 (s.heap.objs.size + 1) l (Nat.ne_of_lt (Nat.lt_succ_of_lt nl)) items) nl hval room
    ⟨⟨_, by rw [show s.heap.objs.size + 1 = (s.heap.push (bare led)).objs.size from (Heap.size_push ..).symm]; exact Heap.get?_push_size _ rfl, rfl, rfl⟩, (hl.push _).push _⟩ fin
  obtain ⟨⟨c, dct, dt, sl⟩, ho, hc, n, hd⟩ := hl
  simp only at hc hd
  subst hc hd
  have at1 : (s.heap.push (bare led)).get? l = some { cls := .type "list", dict := dct, data := .seq items n, slots := sl } := Heap.get?_push_of_some _ ho
  have hl1 : (s.heap.push (bare led)).IsList l items := ⟨_, at1, rfl, n, rfl⟩
  have s1 := PySem.F.sub_list_set
  have s2 := PySem.F.sub_list_frozenset
  have s3 : (Value.type "list" == Value.type "dict") = false := by decide
  unfold PySem.Builtin.«set.__init__» noKeywords PySem.Builtin.Frozenset.updateFrom
  generalize hPI : pyIter = PI
  wp_walk
  subst hPI
  refine wpAny_pyIter_list hl1 (wpAny_bind (wpAny_runValue ?_))
  dsimp only
  rw [show (s.heap.push (bare led)).objs.size = s.heap.objs.size + 1 from Heap.size_push ..]
  refine codeAny_mono W fun r s2 h => ?_
  obtain ⟨rfl, q⟩ := h
  exact wpAny_pure (show wpAny _ _ (ret Value.none) _ _ _ from wpAny_pure ⟨rfl, q⟩)
set_option maxHeartbeats 1000000 in
theorem set_tuple {l : Addr} {items : Array Value} (val : Nat → κ) {Q : Value → Shared → Prop} (hh : A.handled = none) (hl : s.heap.IsTuple l items) (hval : ∀ (i : Nat) (v : Value), items[i]? = some v → kk.is (val i) v = true ∧ v.scannable = true) (room : items.size + 1 < scanBound)
    (fin : ∀ (h' : Heap) (tk : Nat), h'.SetOf kk s.heap.objs.size (seen val items.size) (uq val items.size) → (∀ b o, s.heap.get? b = some o → h'.get? b = some o) → Q (.ref s.heap.objs.size) { s with heap := h', toks := tk }) :
    wpAny (model prog w) A (call (.type "set") [.ref l]) Q E s := by
  refine set_of fun led => ?_
  have nl : l < s.heap.objs.size := by
    obtain ⟨o, ho, _⟩ := hl
    exact Heap.lt_size ho
  have hh3 : A.in1.in1.in1.handled = none := by simp [hh]
  have W := set_walk (kk := kk) (led := led) (it := { cls := .type "tuple_iterator", data := .fields #[.ref l, .int 0 0] }) val (Q := Q) (Walks.tuple (prog := prog) (w := w) hh3 (s.heap.objs.size + 1) l (Nat.ne_of_lt (Nat.lt_succ_of_lt nl)) items) nl hval room
    ⟨⟨_, by rw [show s.heap.objs.size + 1 = (s.heap.push (bare led)).objs.size from (Heap.size_push ..).symm]; exact Heap.get?_push_size _ rfl, rfl, rfl⟩, (hl.push _).push _⟩ fin
  obtain ⟨⟨c, dct, dt, sl⟩, ho, hc, n, hd⟩ := hl
  simp only at hc hd
  subst hc hd
  have at1 : (s.heap.push (bare led)).get? l = some { cls := .type "tuple", dict := dct, data := .seq items n, slots := sl } := Heap.get?_push_of_some _ ho
  have hl1 : (s.heap.push (bare led)).IsTuple l items := ⟨_, at1, rfl, n, rfl⟩
  have s1 := PySem.F.sub_tuple_set
  have s2 := PySem.F.sub_tuple_frozenset
  have s3 : (Value.type "tuple" == Value.type "dict") = false := by decide
  unfold PySem.Builtin.«set.__init__» noKeywords PySem.Builtin.Frozenset.updateFrom
  generalize hPI : pyIter = PI
  wp_walk
  subst hPI
  refine wpAny_pyIter_tuple hl1 (wpAny_bind (wpAny_runValue ?_))
  dsimp only
  rw [show (s.heap.push (bare led)).objs.size = s.heap.objs.size + 1 from Heap.size_push ..]
  refine codeAny_mono W fun r s2 h => ?_
  obtain ⟨rfl, q⟩ := h
  exact wpAny_pure (show wpAny _ _ (ret Value.none) _ _ _ from wpAny_pure ⟨rfl, q⟩)
end
end TsS
namespace Ts
open PySem PySem.Spec PyProof.Rows L2
/-- the keys of ints -/
theorem intAt {ns : List Int} {us : List Value} (r : Vals (ns.map V.int) us) (prog : Program) (w : World) : ∀ (i : Nat) (v : Value), us.toArray[i]? = some v → (intKind prog w).is (ns.getD i 0) v = true ∧ v.scannable = true := fun i v hv => by
  have hv : us[i]? = some v := by simpa using hv
  have hi := (List.getElem?_eq_some_iff.mp hv).1
  have hl := r.length
  rw [List.length_map] at hl
  have e : (ns.map V.int)[i]? = some (.int (ns.getD i 0)) := by
    rw [List.getElem?_map, List.getElem?_eq_getElem (by omega), List.getD_eq_getElem?_getD, List.getElem?_eq_getElem (by omega)]
    rfl
  obtain ⟨u, hu, t, rfl⟩ := r.get e
  rw [hv] at hu
  cases hu
  exact ⟨intKind_is _ _ _ _, rfl⟩
theorem strAt {ns : List Str} {us : List Value} (r : Vals (ns.map V.str) us) (prog : Program) (w : World) : ∀ (i : Nat) (v : Value), us.toArray[i]? = some v → (strKind prog w).is (ns.getD i Str.empty) v = true ∧ v.scannable = true := fun i v hv => by
  have hv : us[i]? = some v := by simpa using hv
  have hi := (List.getElem?_eq_some_iff.mp hv).1
  have hl := r.length
  rw [List.length_map] at hl
  have e : (ns.map V.str)[i]? = some (.str (ns.getD i Str.empty)) := by
    rw [List.getElem?_map, List.getElem?_eq_getElem (by omega), List.getD_eq_getElem?_getD, List.getElem?_eq_getElem (by omega)]
    rfl
  obtain ⟨u, hu, t, rfl⟩ := r.get e
  rw [hv] at hu
  cases hu
  exact ⟨strKind_is _ _ _ _, rfl⟩
theorem getD_range {α : Type} (ns : List α) (d : α) : (List.range ns.length).map (fun i => ns.getD i d) = ns := by
  apply List.ext_getElem
  · simp
  · intro i h1 h2
    simp [List.getD_eq_getElem?_getD, List.getElem?_eq_getElem h2]
/-- as many as are unlike -/
def uqs {α : Type} [DecidableEq α] (d : α) (ns : List α) : Nat := TsS.uq (fun i => ns.getD i d) ns.length
theorem uqs_full {α : Type} [DecidableEq α] (d : α) (ns : List α) : uqs d ns = ns.length ↔ ns.Nodup := by
  have := TsS.uq_full (fun i => ns.getD i d) ns.length
  rw [getD_range] at this
  exact this
/-- len(set(xs)), xs a list or a tuple of ints, or of texts -/
def tLenSetQ (K : PySem.W.Frag) (ta : TE) : TE := fun σ H Q => ta σ H fun x H1 => ∃ (l : Addr), x = .ref l ∧ ((∃ ns : List Int, SqQ K H1 l (ns.map V.int) ∧ ns.length ≤ 1000 ∧ Q (.int (uqs 0 ns : Nat)) H1) ∨ ∃ ns : List Str, SqQ K H1 l (ns.map V.str) ∧ ns.length ≤ 1000 ∧ Q (.int (uqs Str.empty ns : Nat)) H1)
theorem pe_lenSetQ {X : Cx} {a : Expr} {ta : TE} {p p2 q pos : Pos} (hg : Gl X "len") (hm : X.mg "len" = none) (hg2 : Gl X "set") (hm2 : X.mg "set" = none) (ha : PE X a ta) (hc : X.calm = true := by rfl)
    (na : starEach [a] X.env = (false, eval a X.env) :: starEach [] X.env := by rfl) : PE X (.Call (.Name "len" p) [.Call (.Name "set" p2) [a] [] q] [] pos) (tLenSetQ X.K ta) := by
  refine ⟨fun pins s σ H Q I h => ?_⟩
  refine Call_ (ld_blt I hg hm boot_len (PyProof.Rows.callWith_builtin1 (PyProof.Rows.args_cons ?_ rfl) rfl rfl))
  refine Call_ (ld_blt I hg2 hm2 boot_set (PyProof.Rows.callWith_type1 (PyProof.Rows.args_cons (thn (ha.run pins s σ H _ I h) fun v s1 ⟨x, H1, I1, r1, q1⟩ => PyProof.Rows.args_nil ?_) na) na rfl))
  obtain ⟨l, rfl, q1⟩ := q1
  cases r1
  have fin : ∀ {κ : Type} [DecidableEq κ] {kk : KeyKind X.prog X.w κ} {S : κ → Bool} {n : Nat}, n ≤ 1000 → Q (.int n) H1 → ∀ (h' : Heap) (tk : Nat), h'.SetOf kk s1.heap.objs.size S n → (∀ b o, s1.heap.get? b = some o → h'.get? b = some o) →
      wpAny (model X.prog X.w) X.A (spliced (backTo pos (starEach [] X.env))) (fun vs s₂ => wpAny (model X.prog X.w) X.A (call (.builtin "len") (Value.ref s1.heap.objs.size :: vs)) (EP X pins σ Q) X.xe s₂) X.xe { s1 with heap := h', toks := tk } := fun {κ} _ {kk} {S} {n} hn q h' tk hS hk => by
    refine PyProof.Rows.args_nil ?_
    obtain ⟨o, es, ep, t, ho, hex, hd, _, _, _, hf, he⟩ := hS
    have I2 : Inv X pins σ H1 { s1 with heap := h', toks := tk } := I1.kept hk
    exact call_len_set ho hex hd hf (by rw [he]; omega) ⟨.int n, H1, I2.tok _, ⟨_, by rw [he]⟩, q⟩
  rcases q1 with ⟨ns, hq, hl, q1⟩ | ⟨ns, hq, hl, q1⟩
  · have le : uqs 0 ns ≤ 1000 := Nat.le_trans (TsS.uq_le _ _) hl
    have go : ∀ {its : List Value}, Vals (ns.map V.int) its → its.toArray.size = ns.length := fun r => by rw [List.size_toArray, ← r.length, List.length_map]
    rcases hq with hq | hq
    · obtain ⟨its, r, pl, hz⟩ := I1.list hq
      refine TsS.set_list (kk := intKind X.prog X.w) (fun i => ns.getD i 0) (I1.ok.hd hc) pl.isList (intAt r _ _) (by rw [go r]; unfold scanBound; omega) fun h' tk hS hk => ?_
      rw [go r] at hS
      exact fin le q1 h' tk hS hk
    · obtain ⟨its, r, pl, hz⟩ := I1.tuple hq
      refine TsS.set_tuple (kk := intKind X.prog X.w) (fun i => ns.getD i 0) (I1.ok.hd hc) pl (intAt r _ _) (by rw [go r]; unfold scanBound; omega) fun h' tk hS hk => ?_
      rw [go r] at hS
      exact fin le q1 h' tk hS hk
  · have le : uqs Str.empty ns ≤ 1000 := Nat.le_trans (TsS.uq_le _ _) hl
    have go : ∀ {its : List Value}, Vals (ns.map V.str) its → its.toArray.size = ns.length := fun r => by rw [List.size_toArray, ← r.length, List.length_map]
    rcases hq with hq | hq
    · obtain ⟨its, r, pl, hz⟩ := I1.list hq
      refine TsS.set_list (kk := strKind X.prog X.w) (fun i => ns.getD i Str.empty) (I1.ok.hd hc) pl.isList (strAt r _ _) (by rw [go r]; unfold scanBound; omega) fun h' tk hS hk => ?_
      rw [go r] at hS
      exact fin le q1 h' tk hS hk
    · obtain ⟨its, r, pl, hz⟩ := I1.tuple hq
      refine TsS.set_tuple (kk := strKind X.prog X.w) (fun i => ns.getD i Str.empty) (I1.ok.hd hc) pl (strAt r _ _) (by rw [go r]; unfold scanBound; omega) fun h' tk hS hk => ?_
      rw [go r] at hS
      exact fin le q1 h' tk hS hk
end Ts

namespace Ts
open PySem L2
def intB (lo hi : Int) : V → Bool
  | .int i => decide (lo ≤ i) && decide (i ≤ hi)
  | _ => false
theorem intB_of {lo hi : Int} {xs : List V} {v : V} (h : xs.all (intB lo hi) = true) (hv : v ∈ xs) : ∃ i : Int, v = .int i ∧ lo ≤ i ∧ i ≤ hi := by
  have := List.all_eq_true.mp h v hv
  cases v with
  | int i =>
    have h2 := Bool.and_eq_true_iff.mp this
    exact ⟨i, rfl, of_decide_eq_true h2.1, of_decide_eq_true h2.2⟩
  | _ => cases this
def nameG (v : V) : Bool := nameV v && flatB v
/-- a drawn row of occasions -/
structure Row (K : PySem.W.Frag) (H : Hp) (xs : List V) (os : List Th) (e : Int) : Prop where
  all : ThAll K H xs os
  run : runT 0 os = some e
  hi : ∀ o ∈ os, dayO o ≤ 10 ^ 17
  top : e ≤ 10 ^ 17
theorem Row.same {K : PySem.W.Frag} {H H' : Hp} {xs : List V} {os : List Th} {e : Int} (r : Row K H xs os e) (s : Same H H') : Row K H' xs os e := ⟨r.all.same s, r.run, r.hi, r.top⟩
theorem Row.gob {K : PySem.W.Frag} {B : Addr} {H H' : Hp} {xs : List V} {os : List Th} {e : Int} (r : Row K H xs os e) (d : BoxAt H B) (w : GoB B H H') : Row K H' xs os e := ⟨r.all.gob d w, r.run, r.hi, r.top⟩
def spDrawn (K : PySem.W.Frag) : Sp := fun vs H Q _ => ∃ (B : Addr) (m : Int), vs = [.ref B, .int m] ∧ BoxAt H B ∧ 0 ≤ m ∧ m ≤ 100 ∧
  ∀ (p : Addr) (xs : List V) (os : List Th) (e : Int) (H' : Hp), Row K H' xs os e → os.length = m.toNat → GoB B H H' → H p = none → H' p = some (.lst xs) → Q (.ref p) H'
def spAnything (K : PySem.W.Frag) (n : Nat) : Sp := fun vs H Q _ => ∃ (B : Addr) (deep : Int), vs = [.ref B, .int deep] ∧ BoxAt H B ∧ 0 ≤ deep ∧ deep ≤ n ∧
  ∀ (v : V) (H' : Hp), ThV K H' v none → GoB B H H' → Q v H'
theorem ThV.flat {K : PySem.W.Frag} {H : Hp} {v : V} (h : flatB v = true) : ThV K H v none := by
  cases v with
  | non => exact .no tyV_non (by decide)
  | bl b => exact .no tyV_bl (by decide)
  | int i => exact .no tyV_int (by decide)
  | str x => exact .no tyV_str (by decide)
  | byt b => cases h
  | flt b => cases h
  | ref a => cases h
  | ty n => cases h
theorem ThAll.mut {K : PySem.W.Frag} {H : Hp} {p : Addr} {xs ys : List V} {us : List V} {os : List Th} (t : ThAll K H xs os) (hp : H p = some (.lst us)) (hocc : ∀ o ∈ os, occO o = true) : ThAll K (upd H p (.lst ys)) xs os := by
  refine ⟨t.1, fun i v o h1 h2 => ?_⟩
  have ho := hocc o (at_mem h2)
  have th := t.2 i v o h1 h2
  have key : ∀ {a : Addr} {zs : List V}, SqT K H a zs → SqT K (upd H p (.lst ys)) a zs := fun {a zs} h => by
    rcases h with (h | ⟨o, h⟩) | h
    · exact .inl (.inl (by rw [upd_ne (ne_of h hp (by intro z; cases z))]; exact h))
    · exact .inl (.inr ⟨o, by rw [upd_ne (ne_of h hp (by intro z; cases z))]; exact h⟩)
    · exact .inr h
  cases th with
  | no => cases ho
  | tup => cases ho
  | @occ a d n l hT gd gn gl =>
    have tm : ∀ {v : V}, AnyV K H v → AnyV K (upd H p (.lst ys)) v := fun {v} g => by
      obtain ⟨k, ⟨t, h1, h2⟩, h3, h4⟩ := g
      exact ⟨k, ⟨t, TyX.mutList h1 hp, h2⟩, h3, h4⟩
    exact .occ (key hT) (tm gd) (gn.mutList hp) (tm gl)
theorem run_le : ∀ {os : List Th} {e f : Int}, runT e os = some f → e ≤ f
  | [], e, f, h => by
    cases h
    exact Int.le_refl _
  | p :: os, e, f, h => by
    rw [runT] at h
    split at h
    · rename_i hs
      have h1 := of_decide_eq_true (Bool.and_eq_true_iff.mp hs).2
      have h2 := run_le h
      omega
    · cases h
theorem run_occ : ∀ {os : List Th} {e f : Int}, runT e os = some f → ∀ o ∈ os, occO o = true
  | [], _, _, _, o, ho => by cases ho
  | p :: os, e, f, h, o, ho => by
    rw [runT] at h
    split at h
    · rename_i hs
      rcases List.mem_cons.mp ho with rfl | ho
      · exact (Bool.and_eq_true_iff.mp hs).1
      · exact run_occ h o ho
    · cases h
end Ts

namespace Ts
open PySem L2
theorem ThV.mutL {K : PySem.W.Frag} {H : Hp} {p : Addr} {us ys : List V} {v : V} {o : Th} (th : ThV K H v o) (hp : H p = some (.lst us)) : ThV K (upd H p (.lst ys)) v o := by
  have key : ∀ {a : Addr} {zs : List V}, SqT K H a zs → SqT K (upd H p (.lst ys)) a zs := fun {a zs} h => by
    rcases h with (h | ⟨o, h⟩) | h
    · exact .inl (.inl (by rw [upd_ne (ne_of h hp (by intro z; cases z))]; exact h))
    · exact .inl (.inr ⟨o, by rw [upd_ne (ne_of h hp (by intro z; cases z))]; exact h⟩)
    · exact .inr h
  have ty : ∀ {v : V} {k : Kd}, TyV K H v k → TyV K (upd H p (.lst ys)) v k := fun {v k} g => by
    obtain ⟨⟨t, h1, h2⟩, h3, h4⟩ := g
    exact ⟨⟨t, TyX.mutList h1 hp, h2⟩, h3, h4⟩
  cases th with
  | no h n => exact .no (ty h) n
  | tup h n => exact .tup (key h) n
  | occ hT gd gn gl => exact .occ (key hT) ⟨_, ty gd.choose_spec⟩ (gn.mutList hp) ⟨_, ty gl.choose_spec⟩
theorem ThAll.mutL {K : PySem.W.Frag} {H : Hp} {p : Addr} {us ys xs : List V} {os : List Th} (t : ThAll K H xs os) (hp : H p = some (.lst us)) : ThAll K (upd H p (.lst ys)) xs os := ⟨t.1, fun i v o h1 h2 => (t.2 i v o h1 h2).mutL hp⟩
/-- it is no occasion -/
def ThBad (K : PySem.W.Frag) (H : Hp) (v : V) : Prop := ∃ o, ThV K H v o ∧ occO o = false
theorem ThBad.same {K : PySem.W.Frag} {H H' : Hp} {v : V} (t : ThBad K H v) (s : Same H H') : ThBad K H' v := ⟨t.choose, t.choose_spec.1.same s, t.choose_spec.2⟩
theorem ThBad.gob {K : PySem.W.Frag} {B : Addr} {H H' : Hp} {v : V} (t : ThBad K H v) (d : BoxAt H B) (w : GoB B H H') : ThBad K H' v := ⟨t.choose, t.choose_spec.1.gob d w, t.choose_spec.2⟩
theorem ThBad.mutL {K : PySem.W.Frag} {H : Hp} {p : Addr} {us ys : List V} {v : V} (t : ThBad K H v) (hp : H p = some (.lst us)) : ThBad K (upd H p (.lst ys)) v := ⟨t.choose, t.choose_spec.1.mutL hp, t.choose_spec.2⟩
theorem ThBad.flat {K : PySem.W.Frag} {H : Hp} {v : V} (h : flatB v = true) : ThBad K H v := ⟨none, .flat h, rfl⟩
theorem ThBad.tup {K : PySem.W.Frag} {H : Hp} {t : Addr} {xs : List V} (h : H t = some (.tup xs)) (n : xs.length ≠ 3) : ThBad K H (.ref t) := ⟨none, .tup (SqT.of h) n, rfl⟩
theorem ThBad.lst {K : PySem.W.Frag} {H : Hp} {t : Addr} {xs : List V} (h : H t = some (.lst xs)) : ThBad K H (.ref t) := ⟨none, .no (tyV_list (SqL.of h)) (by decide), rfl⟩
theorem ThBad.occ {K : PySem.W.Frag} {H : Hp} {t : Addr} {d n l : V} (h : H t = some (.tup [d, n, l])) (h1 : AnyV K H d) (h2 : GoodV K H n) (h3 : AnyV K H l) (b : occO (some (d, n, l)) = false) : ThBad K H (.ref t) := ⟨_, .occ (SqT.of h) h1 h2 h3, b⟩
def AllBad (K : PySem.W.Frag) (H : Hp) (ys : List V) : Prop := ∀ v ∈ ys, ThBad K H v
theorem AllBad.same {K : PySem.W.Frag} {H H' : Hp} {ys : List V} (t : AllBad K H ys) (s : Same H H') : AllBad K H' ys := fun v hv => (t v hv).same s
theorem AllBad.gob {K : PySem.W.Frag} {B : Addr} {H H' : Hp} {ys : List V} (t : AllBad K H ys) (d : BoxAt H B) (w : GoB B H H') : AllBad K H' ys := fun v hv => (t v hv).gob d w
theorem AllBad.append {K : PySem.W.Frag} {H : Hp} {ys zs : List V} (t : AllBad K H ys) (u : AllBad K H zs) : AllBad K H (ys ++ zs) := fun v hv => (List.mem_append.mp hv).elim (t v) (u v)
theorem AllBad.nil {K : PySem.W.Frag} {H : Hp} : AllBad K H [] := fun v hv => by cases hv
theorem AllBad.cons {K : PySem.W.Frag} {H : Hp} {v : V} {ys : List V} (t : ThBad K H v) (u : AllBad K H ys) : AllBad K H (v :: ys) := fun w hw => by
  rcases List.mem_cons.mp hw with rfl | h
  · exact t
  · exact u w h
/-- the box and the row, as they stand -/
structure Hold (K : PySem.W.Frag) (H : Hp) (B p : Addr) (xs : List V) (os : List Th) (e : Int) : Prop where
  bx : BoxAt H B
  hp : H p = some (.lst xs)
  ne : p ≠ B
  row : Row K H xs os e
  len : xs.length ≤ 100
theorem Hold.same {K : PySem.W.Frag} {H H' : Hp} {B p : Addr} {xs : List V} {os : List Th} {e : Int} (h : Hold K H B p xs os e) (s : Same H H') : Hold K H' B p xs os e := ⟨h.bx.same s, s _ _ h.hp, h.ne, h.row.same s, h.len⟩
theorem Hold.gob {K : PySem.W.Frag} {H H' : Hp} {B p : Addr} {xs : List V} {os : List Th} {e : Int} (h : Hold K H B p xs os e) (w : GoB B H H') : Hold K H' B p xs os e := ⟨w.d, w.k _ _ h.ne h.hp, h.ne, h.row.gob h.bx w, h.len⟩
theorem Hold.mutL {K : PySem.W.Frag} {H : Hp} {B p q : Addr} {us ys xs : List V} {os : List Th} {e : Int} (h : Hold K H B p xs os e) (hq : H q = some (.lst us)) (n1 : q ≠ B) (n2 : q ≠ p) : Hold K (upd H q (.lst ys)) B p xs os e := by
  obtain ⟨g, m, hb, r⟩ := h.bx
  exact ⟨⟨g, m, by rw [upd_ne n1.symm]; exact hb, r⟩, by rw [upd_ne n2.symm]; exact h.hp, h.ne, ⟨h.row.all.mutL hq, h.row.run, h.row.hi, h.row.top⟩, h.len⟩
theorem grown {H : Hp} {t : Addr} (o : HO) (n : H t = none) : ∃ H', upd H t o = H' ∧ Same H H' ∧ H' t = some o := ⟨_, rfl, Same.new (Same.refl _) n, upd_same⟩
theorem story_made {K : PySem.W.Frag} {C CI x dx : Addr} {E : XK} {v : V} {xs : List V} {os : List Th} {H : Hp} {Q : Hp → Prop} (nx : H x = none) (ndx : H dx = none) (ha : ArgV K H v (some (xs, os))) (hd : dueT 0 os = none)
    (k : ∀ (H' : Hp), Same H H' → StoryAt K H' C x os → Q H') : spStory K C CI [.ref x, v] (upd (upd H dx (.own x)) x (.ins C dx [])) (fun u H' => u = .non ∧ Q H') E := by
  have sm := Same.made (C := C) nx ndx
  refine ⟨x, dx, v, some (xs, os), rfl, upd_same, ha.same sm, fun xs' os' e hd' H' t hx hS hb => ⟨rfl, ?_⟩, fun i hi => ?_⟩
  · cases e
    have sH := But.made nx ndx hb
    refine k H' sH ⟨dx, t, xs, hx, hS, ?_, ?_⟩
    · cases ha with
      | seq h1 h2 h3 => exact h2.same sH
    · cases ha with
      | seq h1 h2 h3 => exact h3
  · have hi : dueT 0 os = some i := hi
    rw [hd] at hi
    cases hi
theorem run_take {os : List Th} {e : Int} (h : runT 0 os = some e) (k : Nat) : ∃ f, runT 0 (os.take k) = some f := by
  have h2 : runT 0 (os.take k ++ os.drop k) = some e := by rw [List.take_append_drop]; exact h
  rw [runT_append] at h2
  cases hf : runT 0 (os.take k) with
  | none => rw [hf] at h2; cases h2
  | some f => exact ⟨f, rfl⟩
theorem due_take {os : List Th} {e : Int} (h : runT 0 os = some e) (k : Nat) : dueT 0 (os.take k) = none := dueT_ok (run_take h k).choose_spec
theorem due_bent {os : List Th} {e : Int} {o : Th} {k : Nat} (h : runT 0 os = some e) (hb : occO o = false) (hk : k ≤ os.length) : dueT 0 (os.take k ++ ([o] ++ os.drop k)) = some k := by
  obtain ⟨f, hf⟩ := run_take h k
  have := dueT_bad (ps := os.drop k) hf (show stands f o = false by rw [stands, hb]; rfl)
  rw [List.length_take, Nat.min_eq_left hk] at this
  exact this
theorem cut_bent {α : Type} {os us : List α} {c k : Nat} (hc : c ≤ k) (hk : k ≤ os.length) : os.take c ++ (os.take k ++ us).drop c = os.take k ++ us := by
  have e : (os.take k ++ us).take c = os.take c := by
    rw [List.take_append_of_le_length (by rw [List.length_take]; omega), List.take_take, Nat.min_eq_left hc]
  rw [← e, List.take_append_drop]
theorem run_last : ∀ {os : List Th} {e f : Int} (h : runT e os = some f) (n : os ≠ []), dayO (os.getLast n) = f
  | [], _, _, _, n => absurd rfl n
  | [o], e, f, h, _ => by
    rw [runT] at h
    split at h
    · cases h
      rfl
    · cases h
  | o :: p :: os, e, f, h, _ => by
    rw [runT] at h
    split at h
    · rw [List.getLast_cons (by simp)]
      exact run_last h (by simp)
    · cases h
theorem occ_int {d n l : V} (h : occO (some (d, n, l)) = true) : ∃ i : Int, d = .int i ∧ 0 ≤ i := by
  cases d with
  | int i => exact ⟨i, rfl, by simpa [occO, numV] using (Bool.and_eq_true_iff.mp h).1⟩
  | _ => simp [occO, numV] at h
/-- the day of an occasion of a row -/
theorem Row.day {K : PySem.W.Frag} {H : Hp} {xs : List V} {os : List Th} {e : Int} (r : Row K H xs os e) {i : Nat} {v : V} {o : Th} (hv : xs[i]? = some v) (ho : os[i]? = some o) : ∃ (t : Addr) (d : Int) (n l : V), v = .ref t ∧ SqT K H t [.int d, n, l] ∧ d = dayO o ∧ 0 ≤ d ∧ d ≤ 10 ^ 17 := by
  have th := r.all.2 i v o hv ho
  have oc := run_occ r.run o (at_mem ho)
  have hh := r.hi o (at_mem ho)
  cases th with
  | no => cases oc
  | tup => cases oc
  | occ hT gd gn gl =>
    obtain ⟨d, rfl, d0⟩ := occ_int oc
    exact ⟨_, d, _, _, rfl, hT, rfl, d0, hh⟩
theorem due_late {os : List Th} {e : Int} (h : runT 0 os = some e) (he : 0 ≤ e) : dueT 0 (os ++ [some (V.int (e + 1), V.str "a", V.int 1), some (V.int e, V.str "a", V.int 1), none]) = some (os.length + 1) := by
  have h1 : stands e (some (V.int (e + 1), V.str "a", V.int 1)) = true := by
    have a1 : numV (.int (e + 1)) = true := decide_eq_true (by omega)
    have a2 : nameV (.str "a") = true := by decide +kernel
    have a3 : cntV (.int 1) = true := by decide
    rw [stands, show dayO (some (V.int (e + 1), V.str "a", V.int 1)) = e + 1 from rfl]
    simp [occO, a1, a2, a3]
    omega
  have h2 := runT_snoc h h1
  have h3 : stands (e + 1) (some (V.int e, V.str "a", V.int 1)) = false := by
    rw [stands, show dayO (some (V.int e, V.str "a", V.int 1)) = e from rfl, decide_eq_false (show ¬ e + 1 ≤ e by omega), Bool.and_false]
  have := dueT_bad (ps := [none]) h2 h3
  rw [List.length_append, List.append_assoc] at this
  exact this
theorem bad_name {d n l : V} (h : nameV n = false) : occO (some (d, n, l)) = false := by simp [occO, h]
theorem bad_num {d n l : V} (h : numV d = false) : occO (some (d, n, l)) = false := by simp [occO, h]
theorem bad_cnt {d n l : V} (h : cntV l = false) : occO (some (d, n, l)) = false := by simp [occO, h]
theorem ThAll.sq {K : PySem.W.Frag} {H : Hp} {p : Addr} {xs : List V} {os : List Th} (t : ThAll K H xs os) (hp : H p = some (.lst xs)) (hl : xs.length ≤ 1000) : ArgV K H (.ref p) (some (xs, os)) := .seq (.inl (SqL.of hp)) t hl
theorem ThAll.sqT {K : PySem.W.Frag} {H : Hp} {p : Addr} {xs : List V} {os : List Th} (t : ThAll K H xs os) (hp : H p = some (.tup xs)) (hl : xs.length ≤ 1000) : ArgV K H (.ref p) (some (xs, os)) := .seq (.inr (SqT.of hp)) t hl
theorem ite_int {H : Hp} {Pd : Int → Prop} {b : Bool} {te1 te2 : TE} {σ : L2.St} {Q : VK} (k : ∀ d, Pd d → Q (.int d) H)
    (h1 : b = true → ∃ d, Pd d ∧ ∀ Q' : VK, Q' (.int d) H → te1 σ H Q') (h2 : b = false → ∃ d, Pd d ∧ ∀ Q' : VK, Q' (.int d) H → te2 σ H Q') : if b = true then te1 σ H Q else te2 σ H Q := by
  cases b with
  | true =>
    obtain ⟨d, p, h⟩ := h1 rfl
    exact iteT (h Q (k d p))
  | false =>
    obtain ⟨d, p, h⟩ := h2 rfl
    exact iteF (h Q (k d p))
theorem log_small {i : Int} (h0 : 0 ≤ i) (h1 : i ≤ 10 ^ 17) : i.natAbs.log2 < 1920 := by
  have h : i.natAbs < 2 ^ 60 := by
    have : (2 : Nat) ^ 60 = 1152921504606846976 := by decide
    omega
  exact Nat.lt_trans (PySem.Flt.log2_lt_of (by decide) h) (by decide)
theorem GoB.toSame {B : Addr} {H H1 H2 H' : Hp} (w : GoB B H2 H') (s : Same H H1) (s2 : Same H1 H2) (n : H1 B = none) : Same H H' := fun b o ho => w.k b o (ne_of_none (s b o ho) n) (s2 b o (s b o ho))
theorem Row.last {K : PySem.W.Frag} {H : Hp} {xs : List V} {os : List Th} {e : Int} (r : Row K H xs os e) (hn : 0 < xs.length) : ∃ (t : Addr) (n l : V), atI xs (-1) = some (.ref t) ∧ SqT K H t [.int e, n, l] := by
  have hno : os ≠ [] := fun z => by
    have := r.all.1
    rw [z] at this
    simp at this
    rw [this] at hn
    exact absurd hn (by decide)
  have hnx : xs ≠ [] := fun z => by
    rw [z] at hn
    exact absurd hn (by decide)
  have e1 : xs[xs.length - 1]? = some (xs.getLast hnx) := by rw [← List.getLast?_eq_getElem?, List.getLast?_eq_some_getLast hnx]
  have e2 : os[xs.length - 1]? = some (os.getLast hno) := by rw [r.all.1, ← List.getLast?_eq_getElem?, List.getLast?_eq_some_getLast hno]
  obtain ⟨t, d, n, l, ev, hT, hd, _⟩ := r.day e1 e2
  rw [run_last r.run hno] at hd
  subst hd
  refine ⟨t, n, l, ?_, hT⟩
  rw [← ev]
  have := atI_last xs.dropLast (xs.getLast hnx)
  rw [List.dropLast_concat_getLast hnx] at this
  exact this
/-- no sequence -/
def NoSeq (K : PySem.W.Frag) (H : Hp) (v : V) : Prop := ∃ k, TyV K H v k ∧ k.inL = false ∧ k.inT = false
theorem NoSeq.arg {K : PySem.W.Frag} {H : Hp} {v : V} (h : NoSeq K H v) : ArgV K H v none := .no h.choose_spec.1 h.choose_spec.2.1 h.choose_spec.2.2
theorem NoSeq.same {K : PySem.W.Frag} {H H' : Hp} {v : V} (h : NoSeq K H v) (s : Same H H') : NoSeq K H' v := ⟨_, h.choose_spec.1.same s, h.choose_spec.2⟩
theorem NoSeq.gob {K : PySem.W.Frag} {B : Addr} {H H' : Hp} {v : V} (h : NoSeq K H v) (d : BoxAt H B) (w : GoB B H H') : NoSeq K H' v := ⟨_, h.choose_spec.1.gob d w, h.choose_spec.2⟩
theorem NoSeq.flat {K : PySem.W.Frag} {H : Hp} {v : V} (h : flatB v = true) : NoSeq K H v := by
  cases v with
  | non => exact ⟨_, tyV_non, rfl, rfl⟩
  | bl b => exact ⟨_, tyV_bl, rfl, rfl⟩
  | int i => exact ⟨_, tyV_int, rfl, rfl⟩
  | str x => exact ⟨_, tyV_str, rfl, rfl⟩
  | byt b => cases h
  | flt b => cases h
  | ref a => cases h
  | ty n => cases h
end Ts

namespace Ts
open PySem L2
/-! ### a list or a tuple, walked -/
def iSeqQ (K : PySem.W.Frag) (tl : TE) : TI := fun σ H R => tl σ H fun x H1 => ∃ a xs, x = .ref a ∧ SqQ K H1 a xs ∧ ∀ (J : It) (G : Hp → Prop), Walk J xs.length G (YAt xs) →
  (∀ H2, (SqL K H1 a xs → SqL K H2 a xs) → (SqT K H1 a xs → SqT K H2 a xs) → G H2) → R J H1
theorem pi_seqQ {X : Cx} {tg l : Expr} {tl : TE} (hl : PE X l tl) : PI X tg l (iSeqQ X.K tl) := by
  refine ⟨fun pins s σ H R I h => ?_⟩
  refine thn (hl.run pins s σ H _ I h) fun v s1 ⟨x, H1, I1, r1, q1⟩ => ?_
  obtain ⟨a, xs, e, hq, q⟩ := q1
  subst e
  cases r1
  have fp : ∀ b ∈ [s1.heap.objs.size], FpOk X pins H1 b := fun b hb => by
    rw [List.mem_singleton.mp hb]
    exact I1.fpOk (Nat.le_refl _) (I1.hok.fresh (Nat.le_refl _))
  rcases hq with hq | hq
  · obtain ⟨its, rv, p, hz⟩ := I1.list hq
    exact wpAny_pyIter_list p.isList ⟨s1.heap.objs.size, [s1.heap.objs.size], _, _, H1, rfl, I1.kept (t' := s1.toks) fun b o e => Heap.get?_push_of_some _ e, turn_list a _, ⟨_, Heap.get?_push_size _ rfl, rfl, rfl⟩, fp, q _ _ walk_list fun H2 h _ => h hq⟩
  · obtain ⟨its, rv, p, hz⟩ := I1.tuple hq
    exact wpAny_pyIter_tuple (show s1.heap.IsTuple a its.toArray from p) ⟨s1.heap.objs.size, [s1.heap.objs.size], _, _, H1, rfl, I1.kept (t' := s1.toks) fun b o e => Heap.get?_push_of_some _ e, turn_tuple a _, ⟨_, Heap.get?_push_size _ rfl, rfl, rfl⟩, fp, q _ _ walk_tup fun H2 _ h => h hq⟩
theorem SqQ.eqs {K : PySem.W.Frag} {H H' : Hp} {a : Addr} {xs : List V} (h : SqQ K H a xs) (s : Same H H') : SqQ K H' a xs := h.same s
/-! ### arguments of rules -/
/-- a value, and what stands in it if it is a list or a tuple -/
inductive SeqV (K : PySem.W.Frag) (H : Hp) : V → Option (List V) → Prop
  | no {v : V} {k : Kd} : TyV K H v k → k.inL = false → k.inT = false → SeqV K H v none
  | seq {a : Addr} {xs : List V} : SqQ K H a xs → xs.length ≤ 1000 → (∀ x ∈ xs, AnyV K H x) → SeqV K H (.ref a) (some xs)
theorem SeqV.same {K : PySem.W.Frag} {H H' : Hp} {v : V} {r : Option (List V)} (t : SeqV K H v r) (s : Same H H') : SeqV K H' v r := by
  cases t with
  | no h a b => exact .no (h.same s) a b
  | seq h a b => exact .seq (h.same s) a fun x hx => (b x hx).same s
theorem SeqV.any {K : PySem.W.Frag} {H : Hp} {v : V} {r : Option (List V)} (t : SeqV K H v r) : AnyV K H v := by
  cases t with
  | no h a b => exact ⟨_, h⟩
  | seq h a b =>
    rcases h with h | h
    · exact ⟨_, tyV_list h⟩
    · exact ⟨_, tyV_tup h⟩
theorem SeqV.flat {K : PySem.W.Frag} {H : Hp} {v : V} (h : flatB v = true) : SeqV K H v none := by
  obtain ⟨k, t, h1, h2⟩ := NoSeq.flat (K := K) (H := H) h
  exact .no t h1 h2
def restI : V → Bool
  | .int i => decide (0 ≤ i) && decide (i < 7)
  | _ => false
def valI : V → Int
  | .int i => i
  | _ => 0
def restsL (xs : List V) : Bool := xs.all restI && (decide ((xs.map valI).Nodup) && decide (xs.length < 7))
def restsO : Option (List V) → Bool
  | none => false
  | some xs => restsL xs
def spAreRests (K : PySem.W.Frag) : Sp := fun vs H Q _ => ∃ (v : V) (r : Option (List V)), vs = [v] ∧ SeqV K H v r ∧ ∀ H', Same H H' → Q (.bl (restsO r)) H'
theorem rest_ints {xs : List V} (h : xs.all restI = true) : xs = (xs.map valI).map V.int := by
  induction xs with
  | nil => rfl
  | cons x xs ih =>
    rw [List.all_cons, Bool.and_eq_true] at h
    rw [List.map_cons, List.map_cons, ← ih h.2]
    cases x <;> first | rfl | exact absurd h.1 (by simp [restI])
theorem in_ints (i : Int) (rs : List Int) : inV (.int i) (rs.map V.int) = decide (i ∈ rs) := by
  unfold inV
  rw [List.any_map]
  by_cases h : i ∈ rs
  · rw [decide_eq_true h]
    exact List.any_eq_true.mpr ⟨i, h, by simp [eqV]⟩
  · rw [decide_eq_false h]
    rw [List.any_eq_false]
    intro y hy e
    have : y = i := by simpa [eqV] using e
    exact h (this ▸ hy)
theorem flat_int (rs : List Int) : (rs.map V.int).all flatV = true := by
  rw [List.all_map]
  exact List.all_eq_true.mpr fun _ _ => rfl
/-- one that spoils the rests -/
theorem rests_bad {xs : List V} {i : Nat} {y : V} (h : xs[i]? = some y) (b : restI y = false ∨ (restI y = true ∧ valI y ∈ (xs.take i).map valI)) : restsL xs = false := by
  cases e : restsL xs with
  | false => rfl
  | true =>
    obtain ⟨e1, e2⟩ := Bool.and_eq_true_iff.mp e
    obtain ⟨e2, e3⟩ := Bool.and_eq_true_iff.mp e2
    have nd := of_decide_eq_true e2
    rcases b with b | ⟨_, b⟩
    · rw [List.all_eq_true.mp e1 y (at_mem h)] at b
      cases b
    · have hs : (xs.map valI).take (i + 1) = (xs.take i).map valI ++ [valI y] := by
        rw [← List.map_take, List.take_add_one, h, List.map_append]
        rfl
      have nd2 : ((xs.take i).map valI ++ [valI y]).Nodup := by
        rw [← hs]
        exact nd.sublist (List.take_sublist _ _)
      rw [List.nodup_append] at nd2
      exact absurd rfl (nd2.2.2 _ b _ (by simp))
/-- a class of kinds -/
structure KCls (K : PySem.W.Frag) (CK C : Addr) : Prop where
  own : OwnT K C
  nm : NoAttr K C "name"
  kd : PySem.W.kitOne K (.ref C) (.ref CK) = some true
/-- the base types are no kinds -/
structure NoKd (K : PySem.W.Frag) (CK : Addr) : Prop where
  k1 : PySem.W.kitOne K (.type "int") (.ref CK) = some false
  k2 : PySem.W.kitOne K (.type "bool") (.ref CK) = some false
  k3 : PySem.W.kitOne K (.type "str") (.ref CK) = some false
  k4 : PySem.W.kitOne K (.type "list") (.ref CK) = some false
  k5 : PySem.W.kitOne K (.type "tuple") (.ref CK) = some false
  k6 : PySem.W.kitOne K (.type "NoneType") (.ref CK) = some false
/-- a thing among kinds: its name, none if it is no kind -/
inductive KnV (K : PySem.W.Frag) (CK : Addr) (H : Hp) : V → Option Str → Prop
  | kind {a C dx : Addr} {fs : List (Str × V)} {nm : Str} : KCls K CK C → H a = some (.ins C dx fs) → fs.lookup ("name" : Str) = some (V.str nm) → KnV K CK H (.ref a) (some nm)
  | no {v : V} {t : Value} : TyX K H v t → PySem.W.kitOne K t (.ref CK) = some false → KnV K CK H v none
theorem KnV.same {K : PySem.W.Frag} {CK : Addr} {H H' : Hp} {v : V} {o : Option Str} (t : KnV K CK H v o) (s : Same H H') : KnV K CK H' v o := by
  cases t with
  | kind c h l => exact .kind c (s _ _ h) l
  | no h b => exact .no (TyX.same h s) b
theorem KnV.flat {K : PySem.W.Frag} {CK : Addr} {H : Hp} {v : V} (N : NoKd K CK) (h : flatB v = true) : KnV K CK H v none := by
  cases v with
  | non => exact .no (.base .non) N.k6
  | bl b => exact .no (.base (.bl b)) N.k2
  | int i => exact .no (.base (.int i)) N.k1
  | str x => exact .no (.base (.str x)) N.k3
  | byt b => cases h
  | flt b => cases h
  | ref a => cases h
  | ty n => cases h
theorem KnV.lst {K : PySem.W.Frag} {CK : Addr} {H : Hp} {a : Addr} {xs : List V} (N : NoKd K CK) (h : H a = some (.lst xs)) : KnV K CK H (.ref a) none := .no (.base (.lst h)) N.k4
theorem KnV.tup {K : PySem.W.Frag} {CK : Addr} {H : Hp} {a : Addr} {xs : List V} (N : NoKd K CK) (h : H a = some (.tup xs)) : KnV K CK H (.ref a) none := .no (.base (.tup h)) N.k5
theorem KnV.typ {K : PySem.W.Frag} {CK : Addr} {H : Hp} {v : V} {o : Option Str} (t : KnV K CK H v o) : ∃ u, TyX K H v u ∧ PySem.W.kitOne K u (.ref CK) = some o.isSome := by
  cases t with
  | kind c h l => exact ⟨_, .base (.ins h c.own.cl c.own.ha c.own.hn c.own.ht c.own.hm), c.kd⟩
  | no h b => exact ⟨_, h, b⟩
def KnAll (K : PySem.W.Frag) (CK : Addr) (H : Hp) (xs : List V) (os : List (Option Str)) : Prop := xs.length = os.length ∧ ∀ (i : Nat) (v : V) (o : Option Str), xs[i]? = some v → os[i]? = some o → KnV K CK H v o
theorem KnAll.same {K : PySem.W.Frag} {CK : Addr} {H H' : Hp} {xs : List V} {os : List (Option Str)} (t : KnAll K CK H xs os) (s : Same H H') : KnAll K CK H' xs os := ⟨t.1, fun i v o h1 h2 => (t.2 i v o h1 h2).same s⟩
theorem KnAll.nil {K : PySem.W.Frag} {CK : Addr} {H : Hp} : KnAll K CK H [] [] := ⟨rfl, fun i v o h => by simp at h⟩
theorem KnAll.cons {K : PySem.W.Frag} {CK : Addr} {H : Hp} {v : V} {o : Option Str} {xs : List V} {os : List (Option Str)} (t : KnV K CK H v o) (u : KnAll K CK H xs os) : KnAll K CK H (v :: xs) (o :: os) := by
  refine ⟨by rw [List.length_cons, List.length_cons, u.1], fun i v' o' h1 h2 => ?_⟩
  cases i with
  | zero =>
    cases h1
    cases h2
    exact t
  | succ i => exact u.2 i v' o' (by simpa using h1) (by simpa using h2)
theorem KnAll.snoc {K : PySem.W.Frag} {CK : Addr} {H : Hp} {v : V} {o : Option Str} {xs : List V} {os : List (Option Str)} (u : KnAll K CK H xs os) (t : KnV K CK H v o) : KnAll K CK H (xs ++ [v]) (os ++ [o]) := by
  refine ⟨by simp [u.1], fun i v' o' h1 h2 => ?_⟩
  by_cases hi : i < xs.length
  · rw [List.getElem?_append_left hi] at h1
    rw [List.getElem?_append_left (by rw [← u.1]; exact hi)] at h2
    exact u.2 i v' o' h1 h2
  · rw [List.getElem?_append_right (by omega)] at h1
    rw [List.getElem?_append_right (by rw [← u.1]; omega), ← u.1] at h2
    have hz : i - xs.length = 0 := by
      have := (List.getElem?_eq_some_iff.mp h1).1
      simp at this
      omega
    rw [hz] at h1 h2
    cases h1
    cases h2
    exact t
inductive KsV (K : PySem.W.Frag) (CK : Addr) (H : Hp) : V → Option (List V × List (Option Str)) → Prop
  | no {v : V} {k : Kd} : TyV K H v k → k.inL = false → k.inT = false → KsV K CK H v none
  | seq {a : Addr} {xs : List V} {os : List (Option Str)} : SqQ K H a xs → xs.length ≤ 1000 → KnAll K CK H xs os → KsV K CK H (.ref a) (some (xs, os))
theorem KsV.same {K : PySem.W.Frag} {CK : Addr} {H H' : Hp} {v : V} {r : Option (List V × List (Option Str))} (t : KsV K CK H v r) (s : Same H H') : KsV K CK H' v r := by
  cases t with
  | no h a b => exact .no (h.same s) a b
  | seq h a b => exact .seq (h.same s) a (b.same s)
theorem KsV.flat {K : PySem.W.Frag} {CK : Addr} {H : Hp} {v : V} (h : flatB v = true) : KsV K CK H v none := by
  obtain ⟨k, t, h1, h2⟩ := NoSeq.flat (K := K) (H := H) h
  exact .no t h1 h2
def namesOf (os : List (Option Str)) : List Str := os.filterMap id
def kindsO : Option (List V × List (Option Str)) → Bool
  | none => false
  | some p => p.2.all Option.isSome && decide ((namesOf p.2).Nodup)
def spAreKinds (K : PySem.W.Frag) (CK : Addr) : Sp := fun vs H Q _ => ∃ (v : V) (r : Option (List V × List (Option Str))), vs = [v] ∧ KsV K CK H v r ∧ ∀ H', Same H H' → Q (.bl (kindsO r)) H'
theorem names_all : ∀ {os : List (Option Str)}, os.all Option.isSome = true → os = (namesOf os).map some
  | [], _ => rfl
  | o :: os, h => by
    rw [List.all_cons, Bool.and_eq_true] at h
    cases o with
    | none => cases h.1
    | some x =>
      show some x :: os = some x :: (namesOf os).map some
      rw [← names_all h.2]
theorem names_len {os : List (Option Str)} (h : os.all Option.isSome = true) : (namesOf os).length = os.length := by
  conv => rhs; rw [names_all h]
  rw [List.length_map]
theorem names_at {os : List (Option Str)} (h : os.all Option.isSome = true) {i : Nat} {n : Str} (hn : (namesOf os)[i]? = some n) : os[i]? = some (some n) := by
  have t : ((namesOf os).map some)[i]? = some (some n) := by
    rw [List.getElem?_map, hn]
    rfl
  rw [← names_all h] at t
  exact t
/-- what the arguments of a rule owe -/
def dueR3 (l : V) (r : Option (List V)) (c : V) : Option Str :=
  if cntV l = false then some "length" else if restsO r = false then some "rests" else if c ≠ .non ∧ cntV c = false then some "cap" else none
def dueR (l : V) (r : Option (List V)) (c : V) (ks : Option (List V × List (Option Str))) : Option Str :=
  match dueR3 l r c with
  | some w => some w
  | none => if kindsO ks = false then some "kinds" else none
/-- the attributes of a rule -/
def ruleF (l : V) (r : Addr) (c : V) (k n : Addr) : List (Str × V) := putF "names" (.ref n) (putF "kinds" (.ref k) (putF "cap" c (putF "rests" (.ref r) (putF "length" l []))))
/-- the promise of a rule's __init__ -/
def spRule (K : PySem.W.Frag) (C CI CK : Addr) : Sp := fun vs H Q E => ∃ (x dx : Addr) (l rv c kv : V) (r : Option (List V)) (ks : Option (List V × List (Option Str))), vs = [.ref x, l, rv, c, kv] ∧ H x = some (.ins C dx []) ∧ AnyV K H l ∧ SeqV K H rv r ∧ AnyV K H c ∧ KsV K CK H kv ks ∧
  (dueR l r c ks = none → ∀ xs ys os, r = some xs → ks = some (ys, os) → ∀ (H' : Hp) (ra ka na : Addr) (rs : List Int), rs.Perm (xs.map valI) → rs.Pairwise (· ≤ ·) → H' x = some (.ins C dx (ruleF l ra c ka na)) → SqT K H' ra (rs.map V.int) → SqT K H' ka ys → SqT K H' na ((namesOf os).map V.str) → But x H H' → Q .non H') ∧
  ∀ wd, dueR l r c ks = some wd → ∀ (H' : Hp) (d : Addr), Same H H' → H' d = some (.xd [("word", .str wd)]) → E (.ref CI) (some d) H'
theorem SeqV.but {K : PySem.W.Frag} {x a C dx : Addr} {fs : List (Str × V)} {xs : List V} {H H' : Hp} (b : But x H H') (hx : H x = some (.ins C dx fs)) (h : SqQ K H a xs) : SqQ K H' a xs := h.elim (fun h => .inl (b.seq hx h)) fun h => .inr (b.sqt hx h)
theorem KnV.but {K : PySem.W.Frag} {CK x C dx : Addr} {H H' : Hp} {v : V} {o : Option Str} (t : KnV K CK H v o) (b : But x H H') (hx : H x = some (.ins C dx [])) (so : o.isSome = true) : KnV K CK H' v o := by
  cases t with
  | kind c h l =>
    refine .kind c (b _ _ h fun z => ?_) l
    rw [z, hx] at h
    cases h
    cases l
  | no => cases so
structure RuleC (K : PySem.W.Frag) (C : Addr) : Prop where
  cl : Cls K C
  n1 : NoAttr K C "length"
  n2 : NoAttr K C "rests"
  n3 : NoAttr K C "cap"
  n4 : NoAttr K C "kinds"
  n5 : NoAttr K C "names"
end Ts

namespace TsO
open PySem PySem.Spec PyProof.Rows
open PySem.W (findIn isFn notFirst mroIn subIn)
section
variable {prog : Program} {w : World} {A : Around} {E : Value → Shared → Prop} {s : Shared} {K : PySem.W.Frag} {x C f L : Addr} {h₀ : Heap} {m : Str → Option Value} {ox : Obj} {od : Option Obj} {b tb : Value}
theorem ifBound_slot {M : Model} {T id : String} {name : Str} {args : List Value} {Q : Option Value → Shared → Prop} (S : Slot T name id) (X : K.In s.heap) (I : PySem.W.InstAt s.heap x ox C od) (hs : findIn K (.ref C) name = some (some (.builtin id)))
    (h : wpAny M A (call (.builtin id) (.ref x :: args)) (fun v => Q (some v)) E s) : wpAny M A (callSpecialIfBound? (.ref x) name args) Q E s := by
  simp only [callSpecialIfBound?, bindSpecialIfBound?]
  refine wpAny_holding (wpAny_bind (wpAny_bind (wpAny_bind (I.type.here ((PySem.W.looks_findIn X hs).here ?_)))))
  simp only [S.bind]
  refine wpAny_bind (wpAny_askSetting (wpAny_ite ?_))
  have fin : wpAny M A (call (.builtin id) ([.ref x] ++ args) >>= fun v => pure (some v)) Q E s := wpAny_bind (wpAny_mono h (fun v s' h' => wpAny_pure h') fun _ _ h' => h')
  split
  · exact wpAny_bind (wpAny_pure (wpAny_pure fin))
  · exact wpAny_tryCatch (wpAny_bind (wpAny_pure (wpAny_pure fin)))
theorem check_slot_K {M : Model} {id owner n : String} {rest : List Value} {Q : Unit → Shared → Prop} (hk : builtinKind id = some .slot) (hs : splitId id = some (owner, n))
    (ha : argsOk id ⟨.ref x :: rest, []⟩) (X : K.In s.heap) (I : PySem.W.InstAt s.heap x ox C od) (hm : mroIn K C (.type owner) = some true) (hq : Q () s) :
    wpAny M A (checkBuiltinCall id ⟨.ref x :: rest, []⟩) Q E s := by
  have L : PySem.W.Looks M s.heap (isInstance (.ref x) (.type owner)) true := I.type.andThen (PySem.W.looks_mroIn X hm)
  simp only [checkBuiltinCall, hk, hs]
  refine wpAny_bind (L.here ?_)
  cases hsig : Manifest.signature? id with
  | none => exact wpAny_pure hq
  | some sig =>
    simp only [argsOk, hsig] at ha
    have h2 : Bind.checkArgs id sig ⟨.ref x :: rest, []⟩ = pure () := ha
    show wpAny M A (Bind.checkArgs id sig ⟨.ref x :: rest, []⟩) Q E _
    rw [h2]; exact wpAny_pure hq
theorem objNe_K (hu : A.units < cLine) (X : K.In s.heap) (I : PySem.W.InstAt s.heap x ox C od) (he : findIn K (.ref C) "__eq__" = some (some (.ref f))) (hf : isFn K (.ref f) = true) {Q : Fin → Shared → Prop}
    (hcall : wpAny (model prog w) A (call (.ref f) [.ref x, b]) (fun v s' => ∃ c, v = .bool c ∧ Q (.done (.ret (.bool (!c)))) s') E s) :
    wpAny (model prog w) A (Builtin.«object.__ne__» ⟨[.ref x, b], []⟩) Q E s := by
  have hb := PySem.W.ifBound_K (M := model prog w) (A := A) (E := E) (args := [b]) (Q := fun r s' => ∃ c, r = some (.bool c) ∧ Q (.done (.ret (.bool (!c)))) s') X I he hf (wpAny_mono hcall (fun r s' hr => by
    obtain ⟨c, rfl, hq⟩ := hr
    exact ⟨c, rfl, hq⟩) fun _ _ e => e)
  unfold Builtin.«object.__ne__»
  repeat (first
    | with_reducible refine wpAny_cRoomFor hu ?_
    | (refine wpAny_bind (m := callSpecialIfBound? (.ref x) (Str.ofString "__eq__") [b])
        (wpAny_mono hb (fun r s' hr => by
          obtain ⟨c, rfl, hq⟩ := hr
          repeat (first | exact hq | exact wpAny_pure hq | exact wpAny_truthy_bool hq | (refine wpAny_bind (m := truthy (.bool _)) (wpAny_truthy_bool ?_)) | wp_step)) fun _ _ e => e))
    | wp_step)
theorem tryNe_K (hu : A.units + 1 < cLine) (X : K.In s.heap) (I : PySem.W.InstAt s.heap x ox C od) (hn : findIn K (.ref C) "__ne__" = some (some (.builtin "object.__ne__"))) (he : findIn K (.ref C) "__eq__" = some (some (.ref f))) (hf : isFn K (.ref f) = true)
    (hm : mroIn K C (.type "object") = some true) {Q : Option Value → Shared → Prop}
    (hcall : wpAny (model prog w) A.in1 (call (.ref f) [.ref x, b]) (fun v s' => ∃ c, v = .bool c ∧ Q (some (.bool (!c))) s') E s) :
    wpAny (model prog w) A (tryCompare (.ref x) "__ne__" b) Q E s := by
  simp only [tryCompare]
  refine wpAny_bind (ifBound_slot F.cmp_object.ne X I hn (wpAny_call (codeAny_call_builtin F.cmp_object.ne.plain F.cmpEntry_ne
    (check_slot_K F.cmpKind_ne F.cmpSplit_ne (F.cmpArgs_ne _ _) X I hm (objNe_K (A := A.in1) hu X I he hf (wpAny_mono hcall (fun v s' hv => ?_) fun _ _ e => e))))))
  obtain ⟨c, rfl, hq⟩ := hv
  first | exact ⟨c, rfl, wpAny_pure hq⟩ | exact ⟨c, rfl, wpAny_pure (wpAny_pure hq)⟩ | exact ⟨c, rfl, hq⟩
theorem rcNe_K {Q : Value → Shared → Prop} (hu : A.units + 1 < cLine) (F : Fr h₀ L s.heap m) (X₀ : K.In h₀) (I : PySem.W.InstAt s.heap x ox C od) (hb : PySem.W.Looks (model prog w) s.heap (typeOf b) tb) (hnf : notFirst K C tb = true)
    (hn : findIn K (.ref C) "__ne__" = some (some (.builtin "object.__ne__"))) (he : findIn K (.ref C) "__eq__" = some (some (.ref f))) (hf : isFn K (.ref f) = true) (hm : mroIn K C (.type "object") = some true)
    (h : wpAny (model prog w) A.in1 (call (.ref f) [.ref x, b]) (fun v s' => ∃ c, v = .bool c ∧ Q (.bool (!c)) s') E s) : wpAny (model prog w) A (richCompare .NotEq (.ref x) b) Q E s := by
  have X := X₀.keeps F.keep
  have one : wpAny (model prog w) A (tryCompare (.ref x) "__ne__" b) (fun r s' => ∃ v, r = some v ∧ Q v s') E s :=
    tryNe_K hu X I hn he hf hm (wpAny_mono h (fun v s' hv => by
      obtain ⟨c, e, q⟩ := hv
      exact ⟨c, e, _, rfl, q⟩) fun _ _ e => e)
  unfold richCompare
  simp only [oneThing_ref]
  refine wpAny_holding (wpAny_bind (wpAny_cRoomFor (Nat.lt_of_succ_lt hu) ?_))
  rw [cmpInfo_NotEq]
  dsimp only
  refine wpAny_bind (I.type.here (wpAny_bind (hb.here ?_)))
  split
  · rename_i q
    have e : subIn K tb (.ref C) = some false := by
      rcases Bool.or_eq_true_iff.mp hnf with e | e
      · rw [beq_iff_eq.mp e] at q; simp at q
      · exact beq_iff_eq.mp e
    refine wpAny_bind ((PySem.W.looks_subIn X e).here ?_)
    simp only [Bool.false_eq_true, if_false]
    refine wpAny_bind (wpAny_mono one (fun r s' z => ?_) fun _ _ e => e)
    obtain ⟨v, rfl, hq⟩ := z
    exact wpAny_pure hq
  · refine wpAny_bind (wpAny_pure ?_)
    simp only [Bool.false_eq_true, if_false]
    refine wpAny_bind (wpAny_mono one (fun r s' z => ?_) fun _ _ e => e)
    obtain ⟨v, rfl, hq⟩ := z
    exact wpAny_pure hq
end
end TsO

namespace TsO
open PySem PySem.Spec PyProof.Rows L2
/-- what the text says of a class whose == is the def at f -/
structure EqC (K : PySem.W.Frag) (C f : Addr) : Prop where
  eq : PySem.W.findIn K (.ref C) "__eq__" = some (some (.ref f))
  ne : PySem.W.findIn K (.ref C) "__ne__" = some (some (.builtin "object.__ne__"))
  fn : PySem.W.isFn K (.ref f) = true
  ob : PySem.W.mroIn K C (.type "object") = some true
section
variable {X : Cx} {CX : CXT} {pins : List (Addr × Obj)} {σ : L2.St} {H : Hp} {s : Shared} {f : Addr} {n : Nat} {sp : Sp} {E : XK}
/-- the callee runs below the running body -/
theorem run_in {A : Around} {Q : VK} {us : List Value} {ws : List V} (F : FnR X.prog X.w X.K X.mg X.base CX n f sp) (hr : Room n A) (e0 : Env0 X.prog X.w X.K X.mg X.base A X.stack s H) (hx : Passes CX X E) (I : Inv X pins σ H s) (r : Vals ws us) (h : sp ws H Q E) :
    wpAny (model X.prog X.w) A (call (.ref f) us) (EP X pins σ Q) X.xe s := wpAny_call (SlX.run_at F hr e0 hx I r h)
/-- x == y, x != y: x an instance whose class has its own ==, y a value of known type -/
def rOwnEq (K : PySem.W.Frag) (f : Addr) (sp : Sp) (E : XK) : R2 := fun x y H Q => ∃ a C dx fs t, x = .ref a ∧ H a = some (.ins C dx fs) ∧ EqC K C f ∧ TyX K H y t ∧ PySem.W.notFirst K C t = true ∧ sp [x, y] H (fun z H' => ∃ c, z = .bl c ∧ Q (.bl c) H') E
def rOwnNe (K : PySem.W.Frag) (f : Addr) (sp : Sp) (E : XK) : R2 := fun x y H Q => ∃ a C dx fs t, x = .ref a ∧ H a = some (.ins C dx fs) ∧ EqC K C f ∧ TyX K H y t ∧ PySem.W.notFirst K C t = true ∧ sp [x, y] H (fun z H' => ∃ c, z = .bl c ∧ Q (.bl (!c)) H') E
theorem op_ownEq (F : FnR X.prog X.w X.K X.mg X.base CX n f sp) (hr : Room n X.A) (hx : Passes CX X E) : OpR X (compareOp .Eq) (rOwnEq X.K f sp E) := by
  intro pins s σ H x y v u Q I rx ry h
  obtain ⟨a, C, dx, fs, t, rfl, ha, hc, hy, hn, q⟩ := h
  cases (show v = Value.ref a from rx)
  obtain ⟨P, kx, hp, _⟩ := kit_of I ry hy
  obtain ⟨mA, J, _⟩ := ins_get I.hok ha
  obtain ⟨od, J, _⟩ := J.look
  obtain ⟨m, hF⟩ := I.fr
  refine PySem.W.cmp_K (op := .Eq) (tb := t) hr.units0 hF I.ok.mod.kin J (kx.ty _ _ I.kIn hp) hn hc.eq hc.fn ?_
  refine wpAny_mono (run_in (us := [.ref a, u]) (ws := [.ref a, y]) F hr I.env0 hx I (.cons rfl (.cons ry .nil)) q) (fun w s' z => ?_) fun _ _ x => x
  obtain ⟨z', H', I', rz, c, e, qz⟩ := z
  subst e
  exact SlX.cmpback rz ⟨.bl c, H', I', rz, qz⟩
theorem op_ownNe (F : FnR X.prog X.w X.K X.mg X.base CX n f sp) (hr : Room (n + 1) X.A) (hx : Passes CX X E) : OpR X (compareOp .NotEq) (rOwnNe X.K f sp E) := by
  intro pins s σ H x y v u Q I rx ry h
  obtain ⟨a, C, dx, fs, t, rfl, ha, hc, hy, hn, q⟩ := h
  cases (show v = Value.ref a from rx)
  obtain ⟨P, kx, hp, _⟩ := kit_of I ry hy
  obtain ⟨mA, J, _⟩ := ins_get I.hok ha
  obtain ⟨od, J, _⟩ := J.look
  obtain ⟨m, hF⟩ := I.fr
  have h1 : Room n X.A.in1 := Room.in1 hr
  show wpAny (model X.prog X.w) X.A (richCompare .NotEq (.ref a) u) (EP X pins σ Q) X.xe s
  refine rcNe_K (tb := t) h1.units0 hF I.ok.mod.kin J (kx.ty _ _ I.kIn hp) hn hc.ne hc.eq hc.fn hc.ob ?_
  refine wpAny_mono (run_in (us := [.ref a, u]) (ws := [.ref a, y]) F h1 I.env0.in1 hx I (.cons rfl (.cons ry .nil)) q) (fun w s' z => ?_) fun _ _ x => x
  obtain ⟨z', H', I', rz, c, e, qz⟩ := z
  subst e
  cases (show w = Value.bool c from rz)
  exact ⟨c, rfl, .bl (!c), H', I', rfl, qz⟩
/-- str(x), x an instance with its own __str__ -/
structure StrC (K : PySem.W.Frag) (C f : Addr) : Prop where
  st : PySem.W.findIn K (.ref C) "__str__" = some (some (.ref f))
  fn : PySem.W.isFn K (.ref f) = true
def rOwnStr (K : PySem.W.Frag) (f : Addr) (sp : Sp) (E : XK) : List V → Hp → VK → Prop := fun xs H Q => ∃ a C dx fs, xs = [V.ref a] ∧ H a = some (.ins C dx fs) ∧ StrC K C f ∧ sp [.ref a] H (fun z H' => ∃ x, z = .str x ∧ Q (.str x) H') E
theorem call_ownStr (F : FnR X.prog X.w X.K X.mg X.base CX n f sp) (hr : Room (n + 2) X.A) (hx : Passes CX X E) : CallR X (.type "str") (rOwnStr X.K f sp E) := by
  intro pins s σ H xs us Q I r h
  obtain ⟨a, C, dx, fs, rfl, ha, hc, q⟩ := h
  obtain ⟨u, rfl, ru⟩ := r.one
  cases (show u = Value.ref a from ru)
  obtain ⟨mA, J, _⟩ := ins_get I.hok ha
  obtain ⟨od, J, _⟩ := J.look
  have hr2 : Room n X.A.in1.in1 := (show Room (n + 1) X.A.in1 from Room.in1 hr).in1
  refine PySem.W.kso_call hr2.units0 I.kIn J hc.st hc.fn (wpAny_mono (run_in (us := [.ref a]) (ws := [.ref a]) F hr2 I.env0.in1.in1 hx I (.cons rfl .nil) q) (fun w s' z => ?_) fun _ _ x => x)
  obtain ⟨z', H', I', rz, x, e, qz⟩ := z
  subst e
  obtain ⟨t, e⟩ := (show ∃ t, w = Value.str x t from rz)
  cases e
  exact ⟨.str x, H', I', ⟨t, rfl⟩, qz⟩
/-- len(x), x an instance with its own __len__ -/
structure LenC (K : PySem.W.Frag) (C f : Addr) : Prop where
  ln : PySem.W.findIn K (.ref C) "__len__" = some (some (.ref f))
  fn : PySem.W.isFn K (.ref f) = true
def rOwnLen (K : PySem.W.Frag) (f : Addr) (sp : Sp) (E : XK) : List V → Hp → VK → Prop := fun xs H Q => ∃ a C dx fs, xs = [V.ref a] ∧ H a = some (.ins C dx fs) ∧ LenC K C f ∧ sp [.ref a] H (fun z H' => ∃ i : Int, z = .int i ∧ (0 ≤ i ∧ i < 2 ^ 63) ∧ Q (.int i) H') E
theorem call_ownLen (F : FnR X.prog X.w X.K X.mg X.base CX n f sp) (hr : Room (n + 1) X.A) (hx : Passes CX X E) : CallR X (.builtin "len") (rOwnLen X.K f sp E) := by
  intro pins s σ H xs us Q I r h
  obtain ⟨a, C, dx, fs, rfl, ha, hc, q⟩ := h
  obtain ⟨u, rfl, ru⟩ := r.one
  cases (show u = Value.ref a from ru)
  obtain ⟨mA, J, _⟩ := ins_get I.hok ha
  obtain ⟨od, J, _⟩ := J.look
  obtain ⟨m, hF⟩ := I.fr
  have h1 : Room n X.A.in1 := Room.in1 hr
  refine PySem.W.len_K hF I.ok.mod.kin J hc.ln hc.fn (wpAny_mono (run_in (us := [.ref a]) (ws := [.ref a]) F h1 I.env0.in1 hx I (.cons rfl .nil) q) (fun w s' z => ?_) fun _ _ x => x)
  obtain ⟨z', H', I', rz, i, e, hi, qz⟩ := z
  subst e
  obtain ⟨t, e⟩ := (show ∃ t, w = Value.int i t from rz)
  cases e
  exact ⟨hi, .int i, H', I'.tok _, ⟨_, rfl⟩, qz⟩
end
end TsO

namespace Ts
open PySem L2
/-! ### numbers as texts, occasions as texts -/
def numS (i : Int) : Str := toString i
theorem num_len {i : Int} (h0 : 0 ≤ i) (h1 : i ≤ 10 ^ 18) : (numS i).length ≤ 20 := by
  have h : i.natAbs < 10 ^ 19 := by
    have : (10 : Nat) ^ 19 = 10000000000000000000 := by decide
    omega
  have := PySem.int_text_length_le10 (k := 19) (by decide) h
  show (Str.ofString (toString i)).length ≤ 20
  rw [PySem.ofString_length]
  exact this
theorem num_log {i : Int} (h0 : 0 ≤ i) (h1 : i ≤ 10 ^ 18) : i.natAbs.log2 < 1920 := by
  have h : i.natAbs < 2 ^ 60 := by
    have : (2 : Nat) ^ 60 = 1152921504606846976 := by decide
    omega
  exact Nat.lt_trans (PySem.Flt.log2_lt_of (by decide) h) (by decide)
structure Oc where
  d : Int
  n : Str
  l : Int
def Oc.th (o : Oc) : Th := some (.int o.d, .str o.n, .int o.l)
structure Oc.ok (o : Oc) : Prop where
  d0 : 0 ≤ o.d
  d1 : o.d ≤ 10 ^ 18
  nm : nameV (.str o.n) = true
  fl : flatB (.str o.n) = true
  l0 : 1 ≤ o.l
  l1 : o.l ≤ 10 ^ 18
def Oc.txt (o : Oc) : Str := ((((Str.empty ++ numS o.d) ++ " ") ++ o.n) ++ " ") ++ numS o.l
def storyTxt (ocs : List Oc) : Str := Txt.join "; " (ocs.map Oc.txt)
theorem str_append_length (a b : Str) : (a ++ b).length = a.length + b.length := by
  show (a.cps ++ b.cps).size = _
  rw [Array.size_append]
  rfl
theorem Oc.ok.nl {o : Oc} (h : o.ok) : o.n.length ≤ 1000 := of_decide_eq_true (Bool.and_eq_true_iff.mp h.fl).1
theorem Oc.ok.len {o : Oc} (h : o.ok) : o.txt.length ≤ 1042 := by
  have h1 := num_len h.d0 h.d1
  have h2 := num_len (by have := h.l0; omega) h.l1
  have h3 := h.nl
  unfold Oc.txt
  simp only [str_append_length]
  have e1 : Str.empty.length = 0 := rfl
  have e2 : (Str.ofString " ").length = 1 := rfl
  omega
theorem ocs_len {ocs : List Oc} (h : ∀ o ∈ ocs, o.ok) : ((ocs.map Oc.txt).map (·.length)).sum ≤ ocs.length * 1042 := by
  induction ocs with
  | nil => simp
  | cons o os ih =>
    have := ih fun o ho => h o (List.mem_cons_of_mem _ ho)
    have h1 := (h o (List.mem_cons_self ..)).len
    simp only [List.map_cons, List.sum_cons, List.length_cons]
    omega
theorem join3 (a b c : Str) : Txt.join " " [a, b, c] = ((((Str.empty ++ a) ++ " ") ++ b) ++ " ") ++ c := by
  rw [TL.join_eq]
  show (a ++ (" " : Str)) ++ ((b ++ (" " : Str)) ++ c) = _
  refine TL.ext_tl ?_
  have e : TL.tl Str.empty = [] := rfl
  simp only [TL.tl_append, e, List.nil_append, List.append_assoc]
/-- an f-string's reading, by name -/
def tJoin (ts : List TE) : TE := fun σ H Q => tJs ts Str.empty σ H fun out H1 => Q (.str out) H1
theorem pe_joinedN {X : Cx} {v1 v2 : Expr} {rest : List Expr} {ts : List TE} {pos : Pos} (h : PJ X (v1 :: v2 :: rest) ts) : PE X (.JoinedStr (v1 :: v2 :: rest) pos) (tJoin ts) := pe_joined h
/-- a story of good occasions -/
structure StoryOk (K : PySem.W.Frag) (H : Hp) (C s : Addr) (ocs : List Oc) : Prop where
  at_ : StoryAt K H C s (ocs.map Oc.th)
  ok : ∀ o ∈ ocs, o.ok
theorem StoryOk.same {K : PySem.W.Frag} {H H' : Hp} {C s : Addr} {ocs : List Oc} (t : StoryOk K H C s ocs) (u : Same H H') : StoryOk K H' C s ocs := ⟨t.at_.same u, t.ok⟩
/-- the tuple of a story and its items -/
theorem StoryOk.items {K : PySem.W.Frag} {H : Hp} {C s : Addr} {ocs : List Oc} (t : StoryOk K H C s ocs) : ∃ (dx tt : Addr) (xs : List V), H s = some (.ins C dx (occF tt)) ∧ SqT K H tt xs ∧ xs.length = ocs.length ∧ xs.length ≤ 1000 ∧ ThAll K H xs (ocs.map Oc.th) := by
  obtain ⟨dx, tt, xs, h1, h2, h3, h4⟩ := t.at_
  exact ⟨dx, tt, xs, h1, h2, by rw [h3.1, List.length_map], h4, h3⟩
theorem th_at {K : PySem.W.Frag} {H : Hp} {xs : List V} {ocs : List Oc} {i : Nat} {v : V} (h : ThAll K H xs (ocs.map Oc.th)) (hv : xs[i]? = some v) : ∃ (o : Oc) (a : Addr), ocs[i]? = some o ∧ v = .ref a ∧ SqT K H a [.int o.d, .str o.n, .int o.l] := by
  have hi : i < ocs.length := by
    have := at_lt hv
    rw [h.1, List.length_map] at this
    exact this
  have ho : ocs[i]? = some ocs[i] := List.getElem?_eq_getElem hi
  have t := h.2 i v ocs[i].th hv (by rw [List.getElem?_map, ho]; rfl)
  generalize ocs[i] = o at t ho
  unfold Oc.th at t
  cases t with
  | occ h _ _ _ => exact ⟨o, _, ho, rfl, h⟩
def spStoryStr (K : PySem.W.Frag) (C : Addr) : Sp := fun vs H Q _ => ∃ (s : Addr) (ocs : List Oc), vs = [.ref s] ∧ StoryOk K H C s ocs ∧ ∀ H', Same H H' → Q (.str (storyTxt ocs)) H'
/-- the promise of ==, the other one a story or no story -/
def spStoryEq (K : PySem.W.Frag) (C : Addr) : Sp := fun vs H Q _ => ∃ (s : Addr) (y : V) (ocs : List Oc), vs = [.ref s, y] ∧ StoryOk K H C s ocs ∧
  ((∃ (z : Addr) (ocs' : List Oc), y = .ref z ∧ StoryOk K H C z ocs' ∧ ∀ H', Same H H' → Q (.bl (decide (storyTxt ocs = storyTxt ocs'))) H') ∨
   (∃ t, TyX K H y t ∧ PySem.W.kitOne K t (.ref C) = some false ∧ Q (.bl false) H))
def spStoryLen (K : PySem.W.Frag) (C : Addr) : Sp := fun vs H Q _ => ∃ (s : Addr) (os : List Th), vs = [.ref s] ∧ StoryAt K H C s os ∧ Q (.int os.length) H
/-- those ahead of a day -/
def uptoOc (day : Int) (ocs : List Oc) : List Oc := ocs.filter fun o => decide (o.d < day)
theorem uptoOc_run (day : Int) : ∀ {ocs : List Oc} {e f : Int}, runT e (ocs.map Oc.th) = some f → ∃ g, runT e ((uptoOc day ocs).map Oc.th) = some g
  | [], e, f, h => ⟨f, h⟩
  | o :: os, e, f, h => by
    rw [List.map_cons, runT] at h
    split at h
    · rename_i hs
      by_cases z : o.d < day
      · obtain ⟨g, hg⟩ := uptoOc_run day h
        refine ⟨g, ?_⟩
        rw [uptoOc, List.filter_cons_of_pos (by simpa using z), List.map_cons, runT, if_pos hs]
        exact hg
      · -- all behind it are later, too
        have later : ∀ {os : List Oc} {e f : Int}, day ≤ e → runT e (os.map Oc.th) = some f → uptoOc day os = [] := by
          intro os
          induction os with
          | nil => intros; rfl
          | cons p ps ih =>
            intro e f he h
            rw [List.map_cons, runT] at h
            split at h
            · rename_i hs
              have h1 := of_decide_eq_true (Bool.and_eq_true_iff.mp hs).2
              have h2 : day ≤ p.d := by
                have : e ≤ p.d := h1
                omega
              rw [uptoOc, List.filter_cons_of_neg (by simpa using h2)]
              exact ih h2 h
            · cases h
        have := later (e := o.d) (by omega) h
        rw [uptoOc, List.filter_cons_of_neg (by simpa using z)]
        rw [uptoOc] at this
        rw [this]
        exact ⟨e, rfl⟩
    · cases h
theorem uptoOc_ok {day : Int} {ocs : List Oc} (h : ∀ o ∈ ocs, o.ok) : ∀ o ∈ uptoOc day ocs, o.ok := fun o ho => h o (List.mem_filter.mp ho).1
/-- the promise of upto -/
def spUpto (K : PySem.W.Frag) (C : Addr) : Sp := fun vs H Q _ => ∃ (s : Addr) (ocs : List Oc) (day f : Int), vs = [.ref s, .int day] ∧ StoryOk K H C s ocs ∧ runT 0 (ocs.map Oc.th) = some f ∧
  ∀ (y : Addr) (H' : Hp), Same H H' → StoryOk K H' C y (uptoOc day ocs) → Q (.ref y) H'
end Ts
namespace Ts
open PySem L2
/-! data of occasions -/
def Oc.data (o : Oc) : PyData := .tuple [.int o.d, .str o.n, .int o.l]
theorem oc_dpAll {K : PySem.W.Frag} {H : Hp} : ∀ {xs : List V} {ocs : List Oc}, ThAll K H xs (ocs.map Oc.th) → DpAll K H xs (ocs.map Oc.data)
  | [], [], _ => .nil
  | [], o :: os, h => by cases h.1
  | x :: xs, [], h => by cases h.1
  | x :: xs, o :: os, h => by
    obtain ⟨o', a, e, rfl, hS⟩ := th_at (i := 0) h rfl
    cases e
    exact .cons (.tup hS (.cons (.int _) (.cons (.str _) (.cons (.int _) .nil)))) (oc_dpAll ⟨by simpa using h.1, fun i v o h1 h2 => h.2 (i + 1) v o (by simpa using h1) (by simpa using h2)⟩)
theorem oc_lay {o : Oc} (h : o.ok) : o.data.canLay0 = true := by
  have := (Bool.and_eq_true_iff.mp h.fl).2
  simp [Oc.data, PyData.canLay0, PyData.canLayAll0, this]
theorem ocs_lay {ocs : List Oc} (h : ∀ o ∈ ocs, o.ok) : PyData.canLayAll0 (ocs.map Oc.data) = true := by
  induction ocs with
  | nil => rfl
  | cons c cs ih =>
    have := ih fun d hd => h d (List.mem_cons_of_mem _ hd)
    simp [PyData.canLayAll0, this, oc_lay (h c (List.mem_cons_self ..))]
theorem ocs_depth : ∀ ocs : List Oc, PyData.depthAll (ocs.map Oc.data) ≤ 1
  | [] => by simp [PyData.depthAll]
  | o :: os => by
    have := ocs_depth os
    have h1 : o.data.depth ≤ 1 := by simp [Oc.data, PyData.depth, PyData.depthAll]
    simp only [List.map_cons, PyData.depthAll]
    omega
theorem ocs_shaped {ocs : List Oc} (h : ∀ o ∈ ocs, o.ok) : SeqAt.shaped (.tuple (ocs.map Oc.data)) = true := by
  have h1 := ocs_lay h
  have h2 := ocs_depth ocs
  simp [SeqAt.shaped, PyData.canLay0, PyData.depth, h1]
  omega
/-- tuples of the same occasions are not unlike -/
theorem ocs_ne {K : PySem.W.Frag} {H : Hp} {t t' : Addr} {xs xs' : List V} {ocs : List Oc} (h1 : SqT K H t xs) (h2 : ThAll K H xs (ocs.map Oc.th)) (h3 : SqT K H t' xs') (h4 : ThAll K H xs' (ocs.map Oc.th)) (ok : ∀ o ∈ ocs, o.ok) {Q : VK} (q : Q (.bl false) H) : rNeD K (.ref t) (.ref t') H Q := by
  refine ⟨.tuple (ocs.map Oc.data), .tuple (ocs.map Oc.data), .tup h1 (oc_dpAll h2), .tup h3 (oc_dpAll h4), ocs_shaped ok, ocs_shaped ok, ?_⟩
  rw [PySem.SeqAt.eqv_refl (.tuple (ocs.map Oc.data)) (by show PyData.canLayAll0 (ocs.map Oc.data) = true; exact ocs_lay ok)]
  exact q
theorem call_strIS {X : Cx} : CallR X (.type "str") (fun xs H Q => (∃ i, xs = [.int i] ∧ i.natAbs.log2 < 1920 ∧ Q (.str (toString i)) H) ∨ ∃ a, xs = [.str a] ∧ Q (.str a) H) := by
  intro pins s σ H xs us Q I r h
  rcases h with h | h
  · exact call_str_int pins s σ H xs us Q I r h
  · obtain ⟨a, rfl, q⟩ := h
    obtain ⟨u, rfl, ru⟩ := r.one
    obtain ⟨t, e⟩ := (show ∃ t, u = Value.str a t from ru)
    cases e
    exact PySem.P.str_of_str ⟨.str a, H, I, ⟨t, rfl⟩, q⟩
end Ts

namespace Tv
open PySem L2
/-! ### values as trees -/
inductive T where
  | non | bl (b : Bool) | int (i : Int) | str (x : Str)
  | lst (xs : List T) | tup (xs : List T)
  | obj (c : Nat) (fs : List T)
  | own (k : Nat)
  | ro (xs : List T)
  | cls (c : Nat)
mutual
def T.beq : T → T → Bool
  | .non, .non => true
  | .bl a, .bl b => a == b
  | .int a, .int b => a == b
  | .str a, .str b => a == b
  | .lst a, .lst b => beqL a b
  | .tup a, .tup b => beqL a b
  | .obj c a, .obj d b => c == d && beqL a b
  | .own a, .own b => a == b
  | .ro a, .ro b => beqL a b
  | .cls a, .cls b => a == b
  | _, _ => false
def beqL : List T → List T → Bool
  | [], [] => true
  | a :: as, b :: bs => T.beq a b && beqL as bs
  | _, _ => false
end
mutual
theorem T.beq_refl : ∀ a : T, T.beq a a = true
  | .non => rfl
  | .bl a => by simp [T.beq]
  | .int a => by simp [T.beq]
  | .str a => by simp [T.beq]
  | .lst a => by simp [T.beq, beqL_refl a]
  | .tup a => by simp [T.beq, beqL_refl a]
  | .obj c a => by simp [T.beq, beqL_refl a]
  | .own a => by simp [T.beq]
  | .ro a => by simp [T.beq, beqL_refl a]
  | .cls a => by simp [T.beq]
theorem beqL_refl : ∀ a : List T, beqL a a = true
  | [] => by simp [beqL]
  | a :: as => by simp [beqL, T.beq_refl a, beqL_refl as]
end
mutual
theorem T.of_beq : ∀ a b : T, T.beq a b = true → a = b
  | .non, b, h => by cases b <;> simp_all [T.beq]
  | .bl a, b, h => by cases b <;> simp_all [T.beq]
  | .int a, b, h => by cases b <;> simp_all [T.beq]
  | .str a, b, h => by cases b <;> simp_all [T.beq]
  | .lst a, b, h => by
    cases b with
    | lst b => rw [of_beqL a b (by simpa [T.beq] using h)]
    | _ => simp [T.beq] at h
  | .tup a, b, h => by
    cases b with
    | tup b => rw [of_beqL a b (by simpa [T.beq] using h)]
    | _ => simp [T.beq] at h
  | .obj c a, b, h => by
    cases b with
    | obj d b =>
      have h2 : (c == d && beqL a b) = true := by simpa [T.beq] using h
      rw [of_beqL a b (Bool.and_eq_true_iff.mp h2).2, beq_iff_eq.mp (Bool.and_eq_true_iff.mp h2).1]
    | _ => simp [T.beq] at h
  | .own a, b, h => by cases b <;> simp_all [T.beq]
  | .ro a, b, h => by
    cases b with
    | ro b => rw [of_beqL a b (by simpa [T.beq] using h)]
    | _ => simp [T.beq] at h
  | .cls a, b, h => by cases b <;> simp_all [T.beq]
theorem of_beqL : ∀ a b : List T, beqL a b = true → a = b
  | [], [], _ => rfl
  | [], _ :: _, h => by simp [beqL] at h
  | _ :: _, [], h => by simp [beqL] at h
  | a :: as, b :: bs, h => by
    have h2 : (T.beq a b && beqL as bs) = true := by simpa [beqL] using h
    rw [T.of_beq a b (Bool.and_eq_true_iff.mp h2).1, of_beqL as bs (Bool.and_eq_true_iff.mp h2).2]
end
inductive Cell where
  | lst (xs : List T) | obj (c : Nat) (fs : List T) | dead
abbrev Cs := List Cell
abbrev Env := List (Option T)
/-- the classes by number: where they stand, the attributes in the order in which they are set -/
structure Book where
  K : PySem.W.Frag
  at_ : Nat → Addr
  names : Nat → List Str
/-! ### outcomes -/
inductive Out (α : Type) where
  | ok (a : α)
  | ex (c : Nat) (x : Option T)
abbrev M (α : Type) := Cs → Option (Out α × Cs)
def M.ret {α : Type} (a : α) : M α := fun cs => some (.ok a, cs)
def M.fail {α : Type} : M α := fun _ => none
def M.bind {α β : Type} (m : M α) (f : α → M β) : M β := fun cs => match m cs with
  | some (.ok a, cs') => f a cs'
  | some (.ex c x, cs') => some (.ex c x, cs')
  | none => none
def M.opt {α : Type} (o : Option α) : M α := fun cs => o.map fun a => (.ok a, cs)

/-! ### what a value is -/
mutual
inductive Rep (B : Book) (F : Hp) (α : List Addr) : V → T → Prop
  | non : Rep B F α .non .non
  | bl (b : Bool) : Rep B F α (.bl b) (.bl b)
  | int (i : Int) : Rep B F α (.int i) (.int i)
  | str (x : Str) : Rep B F α (.str x) (.str x)
  | lst {a : Addr} {vs : List V} {ts : List T} : F a = some (.lst vs) → RepL B F α vs ts → Rep B F α (.ref a) (.lst ts)
  | ro {a : Addr} {vs : List V} {ts : List T} : SqL B.K F a vs → RepL B F α vs ts → Rep B F α (.ref a) (.ro ts)
  | tup {a : Addr} {vs : List V} {ts : List T} : SqT B.K F a vs → RepL B F α vs ts → Rep B F α (.ref a) (.tup ts)
  | obj {a dx : Addr} {c : Nat} {vs : List V} {ts : List T} : F a = some (.ins (B.at_ c) dx ((B.names c).zip vs)) → (B.names c).length = vs.length → RepL B F α vs ts → Rep B F α (.ref a) (.obj c ts)
  | own {a : Addr} {k : Nat} : α[k]? = some a → Rep B F α (.ref a) (.own k)
  | cls (c : Nat) : Rep B F α (.ref (B.at_ c)) (.cls c)
inductive RepL (B : Book) (F : Hp) (α : List Addr) : List V → List T → Prop
  | nil : RepL B F α [] []
  | cons {v : V} {t : T} {vs : List V} {ts : List T} : Rep B F α v t → RepL B F α vs ts → RepL B F α (v :: vs) (t :: ts)
end
theorem get_pre {α : Type} {xs ys : List α} {k : Nat} {a : α} (h : xs <+: ys) (e : xs[k]? = some a) : ys[k]? = some a := by
  obtain ⟨zs, rfl⟩ := h
  rw [List.getElem?_append_left (List.getElem?_eq_some_iff.mp e).1]
  exact e
mutual
theorem Rep.mono {B : Book} {F F' : Hp} {α α' : List Addr} {v : V} {t : T} (s : Same F F') (p : α <+: α') : Rep B F α v t → Rep B F' α' v t
  | .non => .non
  | .bl b => .bl b
  | .int i => .int i
  | .str x => .str x
  | .lst h r => .lst (s _ _ h) (r.mono s p)
  | .ro h r => .ro (s.seq h) (r.mono s p)
  | .tup h r => .tup (Ts.Same.sqt s h) (r.mono s p)
  | .obj h e r => .obj (s _ _ h) e (r.mono s p)
  | .own h => .own (get_pre p h)
  | .cls c => .cls c
theorem RepL.mono {B : Book} {F F' : Hp} {α α' : List Addr} {vs : List V} {ts : List T} (s : Same F F') (p : α <+: α') : RepL B F α vs ts → RepL B F' α' vs ts
  | .nil => .nil
  | .cons h r => .cons (h.mono s p) (r.mono s p)
end
theorem RepL.length {B : Book} {F : Hp} {α : List Addr} : ∀ {vs : List V} {ts : List T}, RepL B F α vs ts → vs.length = ts.length
  | _, _, .nil => rfl
  | _, _, .cons _ r => congrArg (· + 1) r.length
theorem RepL.append {B : Book} {F : Hp} {α : List Addr} : ∀ {vs ws : List V} {ts us : List T}, RepL B F α vs ts → RepL B F α ws us → RepL B F α (vs ++ ws) (ts ++ us)
  | _, _, _, _, .nil, h => h
  | _, _, _, _, .cons h r, g => .cons h (r.append g)
theorem RepL.get {B : Book} {F : Hp} {α : List Addr} : ∀ {vs : List V} {ts : List T} {i : Nat} {t : T}, RepL B F α vs ts → ts[i]? = some t → ∃ v, vs[i]? = some v ∧ Rep B F α v t
  | _, _, _, _, .nil, e => by simp at e
  | _, _, 0, t, .cons h r, e => by simp at e; subst e; exact ⟨_, rfl, h⟩
  | _, _, i + 1, t, .cons h r, e => by
    obtain ⟨v, h1, h2⟩ := RepL.get (i := i) (t := t) r (by simpa using e)
    exact ⟨v, by simpa using h1, h2⟩
theorem RepL.getV {B : Book} {F : Hp} {α : List Addr} : ∀ {vs : List V} {ts : List T} {i : Nat} {v : V}, RepL B F α vs ts → vs[i]? = some v → ∃ t, ts[i]? = some t ∧ Rep B F α v t
  | _, _, _, _, .nil, e => by simp at e
  | _, _, 0, t, .cons h r, e => by simp at e; subst e; exact ⟨_, rfl, h⟩
  | _, _, i + 1, t, .cons h r, e => by
    obtain ⟨v, h1, h2⟩ := RepL.getV (i := i) (v := t) r (by simpa using e)
    exact ⟨v, by simpa using h1, h2⟩
theorem RepL.set {B : Book} {F : Hp} {α : List Addr} {v : V} {t : T} (h : Rep B F α v t) : ∀ {vs : List V} {ts : List T} (i : Nat), RepL B F α vs ts → RepL B F α (vs.set i v) (ts.set i t)
  | _, _, _, .nil => .nil
  | _, _, 0, .cons _ r => .cons h r
  | _, _, i + 1, .cons g r => .cons g (r.set h i)
theorem RepL.take {B : Book} {F : Hp} {α : List Addr} : ∀ {vs : List V} {ts : List T} (n : Nat), RepL B F α vs ts → RepL B F α (vs.take n) (ts.take n)
  | _, _, 0, _ => .nil
  | _, _, _ + 1, .nil => .nil
  | _, _, n + 1, .cons h r => .cons h (r.take n)
theorem RepL.drop {B : Book} {F : Hp} {α : List Addr} : ∀ {vs : List V} {ts : List T} (n : Nat), RepL B F α vs ts → RepL B F α (vs.drop n) (ts.drop n)
  | _, _, 0, h => h
  | _, _, _ + 1, .nil => .nil
  | _, _, n + 1, .cons _ r => RepL.drop n r
theorem RepL.eraseIdx {B : Book} {F : Hp} {α : List Addr} : ∀ {vs : List V} {ts : List T} (n : Nat), RepL B F α vs ts → RepL B F α (vs.eraseIdx n) (ts.eraseIdx n)
  | _, _, _, .nil => .nil
  | _, _, 0, .cons _ r => r
  | _, _, n + 1, .cons h r => .cons h (r.eraseIdx n)

/-! ### the heap: what is frozen, what is owned -/
def CellOk (B : Book) (F : Hp) (α : List Addr) (H : Hp) (a : Addr) : Cell → Prop
  | .lst ts => ∃ vs, H a = some (.lst vs) ∧ RepL B F α vs ts
  | .obj c ts => ∃ dx vs, H a = some (.ins (B.at_ c) dx (((B.names c).take ts.length).zip vs)) ∧ ts.length ≤ (B.names c).length ∧ RepL B F α vs ts
  | .dead => True
def Cell.live : Cell → Bool
  | .dead => false
  | _ => true
structure Hs (B : Book) (G : Hp) (F H : Hp) (α : List Addr) (cs : Cs) : Prop where
  same : Same F H
  len : α.length = cs.length
  nd : α.Nodup
  some_ : ∀ a ∈ α, ∃ o, H a = some o
  free : ∀ (k : Nat) (a : Addr) (c : Cell), α[k]? = some a → cs[k]? = some c → c.live = true → F a = none
  cell : ∀ (k : Nat) (a : Addr) (c : Cell), α[k]? = some a → cs[k]? = some c → CellOk B F α H a c
  gd : Same G H
  gf : ∀ b o, G b = some o → F b = none ∧ b ∉ α
structure Ext (F : Hp) (α : List Addr) (F' : Hp) (α' : List Addr) : Prop where
  s : Same F F'
  p : α <+: α'
theorem Ext.refl (F : Hp) (α : List Addr) : Ext F α F α := ⟨Same.refl _, List.prefix_refl _⟩
theorem Ext.trans {F F1 F2 : Hp} {α α1 α2 : List Addr} (a : Ext F α F1 α1) (b : Ext F1 α1 F2 α2) : Ext F α F2 α2 := ⟨a.s.trans b.s, a.p.trans b.p⟩
theorem Rep.ext {B : Book} {F F' : Hp} {α α' : List Addr} {v : V} {t : T} (h : Rep B F α v t) (e : Ext F α F' α') : Rep B F' α' v t := h.mono e.s e.p
theorem RepL.ext {B : Book} {F F' : Hp} {α α' : List Addr} {vs : List V} {ts : List T} (h : RepL B F α vs ts) (e : Ext F α F' α') : RepL B F' α' vs ts := h.mono e.s e.p
theorem CellOk.ext {B : Book} {F F' H H' : Hp} {α α' : List Addr} {a : Addr} {c : Cell} (h : CellOk B F α H a c) (e : Ext F α F' α') (k : ∀ o, H a = some o → H' a = some o) : CellOk B F' α' H' a c := by
  cases c with
  | lst ts => obtain ⟨vs, h1, h2⟩ := h; exact ⟨vs, k _ h1, h2.ext e⟩
  | obj c ts => obtain ⟨dx, vs, h1, h2, h3⟩ := h; exact ⟨dx, vs, k _ h1, h2, h3.ext e⟩
  | dead => trivial
section
variable {B : Book} {G : Hp} {F H : Hp} {α : List Addr} {cs : Cs}
/-- a new frozen object -/
theorem Hs.frozen (h : Hs B G F H α cs) {p : Addr} {o : HO} (n : H p = none) : Hs B G (upd F p o) (upd H p o) α cs ∧ Ext F α (upd F p o) α := by
  have nF : F p = none := h.same.free n
  have e : Ext F α (upd F p o) α := ⟨Ts.Same.new (Same.refl _) nF, List.prefix_refl _⟩
  have sH : Same H (upd H p o) := Ts.Same.new (Same.refl _) n
  have ne : ∀ {k : Nat} {a : Addr}, α[k]? = some a → a ≠ p := fun {k a} ha z => by
    obtain ⟨o, ho⟩ := h.some_ a (List.mem_of_getElem? ha)
    rw [z, n] at ho
    cases ho
  refine ⟨⟨fun b u hb => ?_, h.len, h.nd, fun a ha => ?_, fun k a c ha hc hl => ?_, fun k a c ha hc => (h.cell k a c ha hc).ext e fun o ho => sH _ _ ho, h.gd.trans sH, fun b u hb => ⟨by rw [upd_ne (ne_of_none (h.gd b u hb) n)]; exact (h.gf b u hb).1, (h.gf b u hb).2⟩⟩, e⟩
  · by_cases hbp : b = p
    · rw [hbp, upd_same] at hb ⊢
      exact hb
    · rw [upd_ne hbp] at hb ⊢
      exact h.same b u hb
  · obtain ⟨o, ho⟩ := h.some_ a ha
    exact ⟨o, sH _ _ ho⟩
  · rw [upd_ne (ne ha)]
    exact h.free k a c ha hc hl
/-- a new owned object -/
theorem Hs.owned (h : Hs B G F H α cs) {p : Addr} {o : HO} {c : Cell} (n : H p = none) (hc : CellOk B F (α ++ [p]) (upd H p o) p c) : Hs B G F (upd H p o) (α ++ [p]) (cs ++ [c]) ∧ Ext F α F (α ++ [p]) := by
  have nF : F p = none := h.same.free n
  have e : Ext F α F (α ++ [p]) := ⟨Same.refl _, List.prefix_append _ _⟩
  have sH : Same H (upd H p o) := Ts.Same.new (Same.refl _) n
  have np : p ∉ α := fun hp => by
    obtain ⟨o, ho⟩ := h.some_ p hp
    rw [n] at ho
    cases ho
  refine ⟨⟨h.same.trans sH, by rw [List.length_append, List.length_append, h.len]; rfl, ?_, fun a ha => ?_, fun k a c' ha hc' hl => ?_, fun k a c' ha hc' => ?_, h.gd.trans sH, fun b u hb => ⟨(h.gf b u hb).1, fun hm => ?_⟩⟩, e⟩
  · rw [List.nodup_append]
    refine ⟨h.nd, by simp, fun a ha b hb => ?_⟩
    rw [List.mem_singleton.mp hb]
    exact fun z => np (z ▸ ha)
  · rcases List.mem_append.mp ha with ha | ha
    · obtain ⟨o, ho⟩ := h.some_ a ha
      exact ⟨o, sH _ _ ho⟩
    · rw [List.mem_singleton.mp ha]
      exact ⟨_, upd_same⟩
  · by_cases hk : k < α.length
    · rw [List.getElem?_append_left hk] at ha
      rw [List.getElem?_append_left (h.len ▸ hk)] at hc'
      exact h.free k a c' ha hc' hl
    · have hk2 : k = α.length := by
        have := (List.getElem?_eq_some_iff.mp ha).1
        rw [List.length_append, List.length_singleton] at this
        omega
      rw [hk2, List.getElem?_append_right (Nat.le_refl _), Nat.sub_self] at ha
      cases ha
      exact nF
  · by_cases hk : k < α.length
    · rw [List.getElem?_append_left hk] at ha
      rw [List.getElem?_append_left (h.len ▸ hk)] at hc'
      exact (h.cell k a c' ha hc').ext e fun o ho => sH _ _ ho
    · have hk2 : k = α.length := by
        have := (List.getElem?_eq_some_iff.mp ha).1
        rw [List.length_append, List.length_singleton] at this
        omega
      rw [hk2, List.getElem?_append_right (Nat.le_refl _), Nat.sub_self] at ha
      rw [hk2, h.len, List.getElem?_append_right (Nat.le_refl _), Nat.sub_self] at hc'
      cases ha
      cases hc'
      exact hc
  · rcases List.mem_append.mp hm with hm | hm
    · exact (h.gf b u hb).2 hm
    · rw [List.mem_singleton.mp hm] at hb
      have := h.gd p u hb
      rw [n] at this
      cases this
theorem nd_get {xs : List Addr} (h : xs.Nodup) {i j : Nat} {a : Addr} (e : xs[i]? = some a) (g : xs[j]? = some a) : i = j := nd_ix h e g
/-- an owned object is changed -/
theorem Hs.change (h : Hs B G F H α cs) {k : Nat} {p : Addr} {o : HO} {c d : Cell} (hk : α[k]? = some p) (hd : cs[k]? = some d) (hl : d.live = true) (hc : CellOk B F α (upd H p o) p c) : Hs B G F (upd H p o) α (cs.set k c) := by
  have nF : F p = none := h.free k p d hk hd hl
  have pa : p ∈ α := List.mem_of_getElem? hk
  refine ⟨fun b u hb => ?_, by rw [List.length_set]; exact h.len, h.nd, fun a ha => ?_, fun j a c' ha hc' hl' => ?_, fun j a c' ha hc' => ?_, fun b u hb => by rw [upd_ne (fun z : b = p => (h.gf b u hb).2 (by rw [z]; exact pa))]; exact h.gd b u hb, h.gf⟩
  · rw [upd_ne (ne_of_none hb nF)]
    exact h.same b u hb
  · obtain ⟨o', ho⟩ := h.some_ a ha
    by_cases e : a = p
    · rw [e]; exact ⟨_, upd_same⟩
    · exact ⟨o', by rw [upd_ne e]; exact ho⟩
  · by_cases e : j = k
    · rw [e] at ha
      rw [hk] at ha
      cases ha
      exact nF
    · rw [List.getElem?_set_ne (Ne.symm e)] at hc'
      exact h.free j a c' ha hc' hl'
  · by_cases e : j = k
    · subst e
      rw [hk] at ha
      cases ha
      rw [List.getElem?_set_self (List.getElem?_eq_some_iff.mp hd).1] at hc'
      cases hc'
      exact hc
    · rw [List.getElem?_set_ne (Ne.symm e)] at hc'
      have ne : a ≠ p := fun z => e (nd_get h.nd ha (z ▸ hk))
      exact (h.cell j a c' ha hc').ext (Ext.refl _ _) fun o ho => by rw [upd_ne ne]; exact ho
/-- an owned list is frozen -/
theorem Hs.freeze (h : Hs B G F H α cs) {k : Nat} {p : Addr} {ts : List T} (hk : α[k]? = some p) (hd : cs[k]? = some (.lst ts)) : ∃ F', Hs B G F' H α (cs.set k .dead) ∧ Ext F α F' α ∧ Rep B F' α (.ref p) (.lst ts) := by
  have nF : F p = none := h.free k p _ hk hd rfl
  obtain ⟨vs, hv, hr⟩ := h.cell k p _ hk hd
  have e : Ext F α (upd F p (.lst vs)) α := ⟨Ts.Same.new (Same.refl _) nF, List.prefix_refl _⟩
  have pa : p ∈ α := List.mem_of_getElem? hk
  refine ⟨upd F p (.lst vs), ⟨fun b u hb => ?_, by rw [List.length_set]; exact h.len, h.nd, h.some_, fun j a c' ha hc' hl' => ?_, fun j a c' ha hc' => ?_, h.gd, fun b u hb => ⟨by rw [upd_ne (fun z : b = p => (h.gf b u hb).2 (by rw [z]; exact pa))]; exact (h.gf b u hb).1, (h.gf b u hb).2⟩⟩, e, .lst upd_same (hr.ext e)⟩
  · by_cases hbp : b = p
    · rw [hbp, upd_same] at hb
      rw [hbp, ← hb]
      exact hv
    · rw [upd_ne hbp] at hb
      exact h.same b u hb
  · by_cases ej : j = k
    · subst ej
      rw [List.getElem?_set_self (List.getElem?_eq_some_iff.mp hd).1] at hc'
      cases hc'
      cases hl'
    · rw [List.getElem?_set_ne (Ne.symm ej)] at hc'
      have ne : a ≠ p := fun z => ej (nd_get h.nd ha (z ▸ hk))
      rw [upd_ne ne]
      exact h.free j a c' ha hc' hl'
  · by_cases ej : j = k
    · subst ej
      rw [List.getElem?_set_self (List.getElem?_eq_some_iff.mp hd).1] at hc'
      cases hc'
      trivial
    · rw [List.getElem?_set_ne (Ne.symm ej)] at hc'
      exact (h.cell j a c' ha hc').ext e fun o ho => ho
end

/-! ### slots -/
structure EnvOk (B : Book) (F : Hp) (α : List Addr) (σ : L2.St) (env : Env) : Prop where
  len : σ.length = env.length
  at_ : ∀ (i : Nat) (t : T), env[i]? = some (some t) → ∃ v, σ[i]? = some (some v) ∧ Rep B F α v t
theorem EnvOk.ext {B : Book} {F F' : Hp} {α α' : List Addr} {σ : L2.St} {env : Env} (h : EnvOk B F α σ env) (e : Ext F α F' α') : EnvOk B F' α' σ env :=
  ⟨h.len, fun i t ht => let ⟨v, h1, h2⟩ := h.at_ i t ht; ⟨v, h1, h2.ext e⟩⟩
theorem EnvOk.set {B : Book} {F : Hp} {α : List Addr} {σ : L2.St} {env : Env} {v : V} {t : T} (h : EnvOk B F α σ env) (i : Nat) (r : Rep B F α v t) : EnvOk B F α (σ.set i (some v)) (env.set i (some t)) := by
  refine ⟨by rw [List.length_set, List.length_set]; exact h.len, fun j u hj => ?_⟩
  by_cases e : j = i
  · subst e
    have hi : j < env.length := by
      have := (List.getElem?_eq_some_iff.mp hj).1
      rwa [List.length_set] at this
    rw [List.getElem?_set_self hi] at hj
    cases hj
    exact ⟨v, List.getElem?_set_self (h.len ▸ hi), r⟩
  · rw [List.getElem?_set_ne (Ne.symm e)] at hj ⊢
    exact h.at_ j u hj
theorem EnvOk.unset {B : Book} {F : Hp} {α : List Addr} {σ : L2.St} {env : Env} (h : EnvOk B F α σ env) (i : Nat) : EnvOk B F α (σ.set i none) (env.set i none) := by
  refine ⟨by rw [List.length_set, List.length_set]; exact h.len, fun j u hj => ?_⟩
  by_cases e : j = i
  · subst e
    have hi : j < env.length := by
      have := (List.getElem?_eq_some_iff.mp hj).1
      rwa [List.length_set] at this
    rw [List.getElem?_set_self hi] at hj
    cases hj
  · rw [List.getElem?_set_ne (Ne.symm e)] at hj ⊢
    exact h.at_ j u hj
/-- the slots of a block's own names forgotten -/
def wipeE (env : Env) : List Nat → Env
  | [] => env
  | v :: vs => (wipeE env vs).set v none
theorem EnvOk.wipe {B : Book} {F : Hp} {α : List Addr} {σ : L2.St} {env : Env} (h : EnvOk B F α σ env) : ∀ vs : List Nat, EnvOk B F α (wipe σ vs) (wipeE env vs)
  | [] => h
  | v :: vs => (h.wipe vs).unset v
theorem RepL.start {B : Book} {F : Hp} {α : List Addr} {vs : List V} {ts : List T} {N : List Str} (r : RepL B F α vs ts) : EnvOk B F α (start N vs) (ts.map some ++ List.replicate (N.length - ts.length) none) := by
  refine ⟨by simp only [L2.start, List.length_append, List.length_map, List.length_replicate, r.length], fun i t ht => ?_⟩
  have hl := r.length
  by_cases hi : i < ts.length
  · rw [List.getElem?_append_left (by simpa using hi)] at ht
    rw [List.getElem?_map] at ht
    cases e : ts[i]? with
    | none => rw [e] at ht; cases ht
    | some u =>
      rw [e] at ht
      cases ht
      obtain ⟨v, h1, h2⟩ := r.get e
      refine ⟨v, ?_, h2⟩
      unfold L2.start
      rw [List.getElem?_append_left (by simpa [hl] using hi), List.getElem?_map, h1]
      rfl
  · rw [List.getElem?_append_right (by simpa using Nat.le_of_not_lt hi)] at ht
    rw [List.getElem?_replicate] at ht
    split at ht <;> cases ht

/-! ### exceptions -/
/-- how an exception of the book lies in the heap: its class, and its one attribute -/
def ExAt (B : Book) (F : Hp) (α : List Addr) (H : Hp) (c : Nat) : Option T → Option Addr → Prop
  | some t, some d => ∃ f v, B.names c = [f] ∧ H d = some (.xd [(f, v)]) ∧ Rep B F α v t
  | none, none => True
  | _, _ => False

/-! ### ends -/
def PostE (B : Book) (G : Hp) (F : Hp) (α : List Addr) (Q : VK) (W : XK) (o : Out T) (cs : Cs) : Prop :=
  match o with
  | .ok t => ∀ v H' F' α', Ext F α F' α' → Hs B G F' H' α' cs → Rep B F' α' v t → Q v H'
  | .ex c x => ∀ H' F' α' d, Ext F α F' α' → Hs B G F' H' α' cs → ExAt B F' α' H' c x d → W (.ref (B.at_ c)) d H'
def PostA (B : Book) (G : Hp) (F : Hp) (α : List Addr) (Q : List V → Hp → Prop) (W : XK) (o : Out (List T)) (cs : Cs) : Prop :=
  match o with
  | .ok ts => ∀ vs H' F' α', Ext F α F' α' → Hs B G F' H' α' cs → RepL B F' α' vs ts → Q vs H'
  | .ex c x => ∀ H' F' α' d, Ext F α F' α' → Hs B G F' H' α' cs → ExAt B F' α' H' c x d → W (.ref (B.at_ c)) d H'
def PostT (B : Book) (G : Hp) (F : Hp) (α : List Addr) (Q : Bool → Hp → Prop) (W : XK) (o : Out Bool) (cs : Cs) : Prop :=
  match o with
  | .ok b => ∀ H' F' α', Ext F α F' α' → Hs B G F' H' α' cs → Q b H'
  | .ex c x => ∀ H' F' α' d, Ext F α F' α' → Hs B G F' H' α' cs → ExAt B F' α' H' c x d → W (.ref (B.at_ c)) d H'
theorem PostE.ext {B : Book} {G : Hp} {F F' : Hp} {α α' : List Addr} {Q : VK} {W : XK} {o : Out T} {cs : Cs} (h : PostE B G F α Q W o cs) (e : Ext F α F' α') : PostE B G F' α' Q W o cs := by
  cases o with
  | ok t => exact fun v H' F2 α2 e2 => h v H' F2 α2 (e.trans e2)
  | ex c x => exact fun H' F2 α2 d e2 => h H' F2 α2 d (e.trans e2)
theorem PostA.ext {B : Book} {G : Hp} {F F' : Hp} {α α' : List Addr} {Q : List V → Hp → Prop} {W : XK} {o : Out (List T)} {cs : Cs} (h : PostA B G F α Q W o cs) (e : Ext F α F' α') : PostA B G F' α' Q W o cs := by
  cases o with
  | ok t => exact fun v H' F2 α2 e2 => h v H' F2 α2 (e.trans e2)
  | ex c x => exact fun H' F2 α2 d e2 => h H' F2 α2 d (e.trans e2)
theorem PostT.ext {B : Book} {G : Hp} {F F' : Hp} {α α' : List Addr} {Q : Bool → Hp → Prop} {W : XK} {o : Out Bool} {cs : Cs} (h : PostT B G F α Q W o cs) (e : Ext F α F' α') : PostT B G F' α' Q W o cs := by
  cases o with
  | ok t => exact fun H' F2 α2 e2 => h H' F2 α2 (e.trans e2)
  | ex c x => exact fun H' F2 α2 d e2 => h H' F2 α2 d (e.trans e2)

/-! ### all readings at once -/
def uE (X : Cx) (e : Expr) : TE := fun σ H Q => ∃ t, PE X e t ∧ t σ H Q
theorem pe_u (X : Cx) (e : Expr) : PE X e (uE X e) := ⟨fun pins s σ H Q I ⟨_, h, q⟩ => h.run pins s σ H Q I q⟩
def uT (X : Cx) (e : Expr) : TT := fun σ H Q => ∃ t, PT X e t ∧ t σ H Q
theorem pt_u (X : Cx) (e : Expr) : PT X e (uT X e) := ⟨fun pins s σ H Q I ⟨_, h, q⟩ => h.run pins s σ H Q I q⟩
def uW (X : Cx) (e : Expr) : TT := fun σ H Q => ∃ t, PW X e t ∧ t σ H Q
theorem pw_u (X : Cx) (e : Expr) : PW X e (uW X e) := ⟨fun wh pins s σ H Q I ⟨_, h, q⟩ => h.run wh pins s σ H Q I q⟩
def uA (X : Cx) (es : List Expr) : TA := fun σ H Q => ∃ t, PA X es t ∧ t σ H Q
theorem pa_u (X : Cx) (es : List Expr) : PA X es (uA X es) := ⟨fun pos pins s σ H Q I ⟨_, h, q⟩ => h.run pos pins s σ H Q I q⟩
def uS (X : Cx) (st : Stmt) : TS := fun D σ H => ∃ t, PS X st t ∧ t D σ H
theorem ps_u (X : Cx) (st : Stmt) : PS X st (uS X st) := ⟨fun pins s σ H D I ⟨_, h, q⟩ => h.run pins s σ H D I q⟩
def uSs (X : Cx) (st : List Stmt) : TS := fun D σ H => ∃ t, PSs X st t ∧ t D σ H
theorem pss_u (X : Cx) (st : List Stmt) : PSs X st (uSs X st) := ⟨fun pins s σ H D I ⟨_, h, q⟩ => h.run pins s σ H D I q⟩
def uOp (X : Cx) (f : Value → Value → Sem Value) : R2 := fun x y H Q => ∃ r, OpR X f r ∧ r x y H Q
theorem op_u (X : Cx) (f : Value → Value → Sem Value) : OpR X f (uOp X f) := fun pins s σ H x y v u Q I rx ry ⟨_, h, q⟩ => h pins s σ H x y v u Q I rx ry q
def uCl (X : Cx) (f : Value) : List V → Hp → VK → Prop := fun xs H Q => ∃ r, CallR X f r ∧ r xs H Q
theorem cl_u (X : Cx) (f : Value) : CallR X f (uCl X f) := fun pins s σ H xs us Q I rx ⟨_, h, q⟩ => h pins s σ H xs us Q I rx q

/-! ### simulations -/
abbrev ME := Env → M T
def SimE (B : Book) (G : Hp) (X : Cx) (W : XK) (e : Expr) (m : ME) : Prop := ∀ σ H F α env cs o cs', EnvOk B F α σ env → Hs B G F H α cs → m env cs = some (o, cs') → ∀ Q : VK, PostE B G F α Q W o cs' → uE X e σ H Q
def SimA (B : Book) (G : Hp) (X : Cx) (W : XK) (es : List Expr) (m : Env → M (List T)) : Prop := ∀ σ H F α env cs o cs', EnvOk B F α σ env → Hs B G F H α cs → m env cs = some (o, cs') → ∀ Q : List V → Hp → Prop, PostA B G F α Q W o cs' → uA X es σ H Q
def SimT (B : Book) (G : Hp) (X : Cx) (W : XK) (e : Expr) (m : Env → M Bool) : Prop := ∀ σ H F α env cs o cs', EnvOk B F α σ env → Hs B G F H α cs → m env cs = some (o, cs') → ∀ Q : Bool → Hp → Prop, PostT B G F α Q W o cs' → uT X e σ H Q
def SimW (B : Book) (G : Hp) (X : Cx) (W : XK) (e : Expr) (m : Env → M Bool) : Prop := ∀ σ H F α env cs o cs', EnvOk B F α σ env → Hs B G F H α cs → m env cs = some (o, cs') → ∀ Q : Bool → Hp → Prop, PostT B G F α Q W o cs' → uW X e σ H Q
/-- an operation on two values, on some values -/
def SimO (B : Book) (G : Hp) (X : Cx) (W : XK) (f : Value → Value → Sem Value) (m : T → T → M T) : Prop := ∀ H F α cs x y t u o cs', Rep B F α x t → Rep B F α y u → Hs B G F H α cs → m t u cs = some (o, cs') → ∀ Q : VK, PostE B G F α Q W o cs' → uOp X f x y H Q
def SimC (B : Book) (G : Hp) (X : Cx) (W : XK) (f : Value) (m : List T → M T) : Prop := ∀ H F α cs xs ts o cs', RepL B F α xs ts → Hs B G F H α cs → m ts cs = some (o, cs') → ∀ Q : VK, PostE B G F α Q W o cs' → uCl X f xs H Q

theorem bind_some {α β : Type} {m : M α} {f : α → M β} {cs cs' : Cs} {o : Out β} (h : m.bind f cs = some (o, cs')) :
    (∃ a cs1, m cs = some (.ok a, cs1) ∧ f a cs1 = some (o, cs')) ∨ ∃ c x, m cs = some (.ex c x, cs') ∧ o = .ex c x := by
  unfold M.bind at h
  cases e : m cs with
  | none => rw [e] at h; cases h
  | some p =>
    obtain ⟨a, cs1⟩ := p
    rw [e] at h
    cases a with
    | ok a => exact .inl ⟨a, cs1, rfl, h⟩
    | ex c x =>
      cases h
      exact .inr ⟨c, x, rfl, rfl⟩
section
variable {B : Book} {G : Hp} {X : Cx} {W : XK}
/-- what goes on behind an expression -/
theorem SimE.then {e : Expr} {m : ME} (h : SimE B G X W e m) {β : Type} {f : T → M β} {σ : L2.St} {H F : Hp} {α : List Addr} {env : Env} {cs cs' : Cs} {o : Out β} (he : EnvOk B F α σ env) (hs : Hs B G F H α cs)
    (hm : (m env).bind f cs = some (o, cs')) {Q : VK} (hex : ∀ c x, o = .ex c x → ∀ H' F' α' d, Ext F α F' α' → Hs B G F' H' α' cs' → ExAt B F' α' H' c x d → W (.ref (B.at_ c)) d H')
    (hok : ∀ t cs1 v H1 F1 α1, f t cs1 = some (o, cs') → Ext F α F1 α1 → Hs B G F1 H1 α1 cs1 → Rep B F1 α1 v t → Q v H1) : uE X e σ H Q := by
  rcases bind_some hm with ⟨t, cs1, h1, h2⟩ | ⟨c, x, h1, rfl⟩
  · exact h σ H F α env cs _ _ he hs h1 Q fun v H1 F1 α1 e1 s1 r1 => hok t cs1 v H1 F1 α1 h2 e1 s1 r1
  · exact h σ H F α env cs _ _ he hs h1 Q fun H1 F1 α1 d e1 s1 r1 => hex c x rfl H1 F1 α1 d e1 s1 r1
theorem SimT.then {e : Expr} {m : Env → M Bool} (h : SimT B G X W e m) {β : Type} {f : Bool → M β} {σ : L2.St} {H F : Hp} {α : List Addr} {env : Env} {cs cs' : Cs} {o : Out β} (he : EnvOk B F α σ env) (hs : Hs B G F H α cs)
    (hm : (m env).bind f cs = some (o, cs')) {Q : Bool → Hp → Prop} (hex : ∀ c x, o = .ex c x → ∀ H' F' α' d, Ext F α F' α' → Hs B G F' H' α' cs' → ExAt B F' α' H' c x d → W (.ref (B.at_ c)) d H')
    (hok : ∀ b cs1 H1 F1 α1, f b cs1 = some (o, cs') → Ext F α F1 α1 → Hs B G F1 H1 α1 cs1 → Q b H1) : uT X e σ H Q := by
  rcases bind_some hm with ⟨t, cs1, h1, h2⟩ | ⟨c, x, h1, rfl⟩
  · exact h σ H F α env cs _ _ he hs h1 Q fun H1 F1 α1 e1 s1 => hok t cs1 H1 F1 α1 h2 e1 s1
  · exact h σ H F α env cs _ _ he hs h1 Q fun H1 F1 α1 d e1 s1 r1 => hex c x rfl H1 F1 α1 d e1 s1 r1
theorem SimW.then {e : Expr} {m : Env → M Bool} (h : SimW B G X W e m) {β : Type} {f : Bool → M β} {σ : L2.St} {H F : Hp} {α : List Addr} {env : Env} {cs cs' : Cs} {o : Out β} (he : EnvOk B F α σ env) (hs : Hs B G F H α cs)
    (hm : (m env).bind f cs = some (o, cs')) {Q : Bool → Hp → Prop} (hex : ∀ c x, o = .ex c x → ∀ H' F' α' d, Ext F α F' α' → Hs B G F' H' α' cs' → ExAt B F' α' H' c x d → W (.ref (B.at_ c)) d H')
    (hok : ∀ b cs1 H1 F1 α1, f b cs1 = some (o, cs') → Ext F α F1 α1 → Hs B G F1 H1 α1 cs1 → Q b H1) : uW X e σ H Q := by
  rcases bind_some hm with ⟨t, cs1, h1, h2⟩ | ⟨c, x, h1, rfl⟩
  · exact h σ H F α env cs _ _ he hs h1 Q fun H1 F1 α1 e1 s1 => hok t cs1 H1 F1 α1 h2 e1 s1
  · exact h σ H F α env cs _ _ he hs h1 Q fun H1 F1 α1 d e1 s1 r1 => hex c x rfl H1 F1 α1 d e1 s1 r1
theorem SimA.then {es : List Expr} {m : Env → M (List T)} (h : SimA B G X W es m) {β : Type} {f : List T → M β} {σ : L2.St} {H F : Hp} {α : List Addr} {env : Env} {cs cs' : Cs} {o : Out β} (he : EnvOk B F α σ env) (hs : Hs B G F H α cs)
    (hm : (m env).bind f cs = some (o, cs')) {Q : List V → Hp → Prop} (hex : ∀ c x, o = .ex c x → ∀ H' F' α' d, Ext F α F' α' → Hs B G F' H' α' cs' → ExAt B F' α' H' c x d → W (.ref (B.at_ c)) d H')
    (hok : ∀ ts cs1 vs H1 F1 α1, f ts cs1 = some (o, cs') → Ext F α F1 α1 → Hs B G F1 H1 α1 cs1 → RepL B F1 α1 vs ts → Q vs H1) : uA X es σ H Q := by
  rcases bind_some hm with ⟨t, cs1, h1, h2⟩ | ⟨c, x, h1, rfl⟩
  · exact h σ H F α env cs _ _ he hs h1 Q fun v H1 F1 α1 e1 s1 r1 => hok t cs1 v H1 F1 α1 h2 e1 s1 r1
  · exact h σ H F α env cs _ _ he hs h1 Q fun H1 F1 α1 d e1 s1 r1 => hex c x rfl H1 F1 α1 d e1 s1 r1
theorem PostE.exn {F : Hp} {α : List Addr} {Q : VK} {o : Out T} {cs : Cs} (h : PostE B G F α Q W o cs) : ∀ c x, o = .ex c x → ∀ H' F' α' d, Ext F α F' α' → Hs B G F' H' α' cs → ExAt B F' α' H' c x d → W (.ref (B.at_ c)) d H' := fun c x e => by
  subst e
  exact h
theorem PostA.exn {F : Hp} {α : List Addr} {Q : List V → Hp → Prop} {o : Out (List T)} {cs : Cs} (h : PostA B G F α Q W o cs) : ∀ c x, o = .ex c x → ∀ H' F' α' d, Ext F α F' α' → Hs B G F' H' α' cs → ExAt B F' α' H' c x d → W (.ref (B.at_ c)) d H' := fun c x e => by
  subst e
  exact h
theorem PostT.exn {F : Hp} {α : List Addr} {Q : Bool → Hp → Prop} {o : Out Bool} {cs : Cs} (h : PostT B G F α Q W o cs) : ∀ c x, o = .ex c x → ∀ H' F' α' d, Ext F α F' α' → Hs B G F' H' α' cs → ExAt B F' α' H' c x d → W (.ref (B.at_ c)) d H' := fun c x e => by
  subst e
  exact h
/-- a value without a change -/
theorem PostE.here {F H : Hp} {α : List Addr} {Q : VK} {t : T} {cs : Cs} {v : V} (h : PostE B G F α Q W (.ok t) cs) (hs : Hs B G F H α cs) (r : Rep B F α v t) : Q v H := h v H F α (Ext.refl _ _) hs r

/-! ### names, constants -/
def mVar (i : Nat) : ME := fun env cs => match env[i]? with
  | some (some t) => some (.ok t, cs)
  | _ => none
theorem s_var {e : Expr} {i : Nat} (h : PE X e (tVar i)) : SimE B G X W e (mVar i) := by
  intro σ H F α env cs o cs' he hs hm Q q
  unfold mVar at hm
  split at hm
  · rename_i t ht
    cases hm
    obtain ⟨v, h1, h2⟩ := he.at_ _ _ ht
    exact ⟨_, h, v, h1, q.here hs h2⟩
  · cases hm
def mC (t : T) : ME := fun _ cs => some (.ok t, cs)
theorem s_const {e : Expr} {v : V} {t : T} (h : PE X e (tC v)) (r : ∀ F α, Rep B F α v t) : SimE B G X W e (mC t) := by
  intro σ H F α env cs o cs' he hs hm Q q
  cases hm
  exact ⟨_, h, q.here hs (r F α)⟩
theorem s_int {i : Int} {j : Nat} {pos : Pos} : SimE B G X W (.Constant (.int i) j pos) (mC (.int i)) := s_const pe_int fun _ _ => .int i
theorem s_bl {b : Bool} {j : Nat} {pos : Pos} : SimE B G X W (.Constant (.bool b) j pos) (mC (.bl b)) := s_const pe_bl fun _ _ => .bl b
theorem s_non {j : Nat} {pos : Pos} : SimE B G X W (.Constant .none j pos) (mC .non) := s_const pe_non fun _ _ => .non
theorem s_str {x : Str} {j : Nat} {pos : Pos} : SimE B G X W (.Constant (.str x) j pos) (mC (.str x)) := s_const pe_str fun _ _ => .str x

/-! ### two operands -/
def mOp (r : T → T → M T) (a b : ME) : ME := fun env => (a env).bind fun t => (b env).bind fun u => r t u
theorem s_op {op : Operator} {a b : Expr} {pos : Pos} {r : T → T → M T} {ma mb : ME} (ho : SimO B G X W (binaryOp op) r) (ha : SimE B G X W a ma) (hb : SimE B G X W b mb) : SimE B G X W (.BinOp a op b pos) (mOp r ma mb) := by
  intro σ H F α env cs o cs' he hs hm Q q
  refine ⟨_, pe_op (op_u X _) (pe_u X a) (pe_u X b), ?_⟩
  refine ha.then he hs hm q.exn fun t cs1 v H1 F1 α1 h1 e1 s1 r1 => ?_
  refine hb.then (he.ext e1) s1 h1 (q.ext e1).exn fun u cs2 w H2 F2 α2 h2 e2 s2 r2 => ?_
  exact ho H2 F2 α2 cs2 v w t u o cs' (r1.ext e2) r2 s2 h2 Q (q.ext (e1.trans e2))
theorem s_cmp {op : CmpOp} {a b : Expr} {pos : Pos} {r : T → T → M T} {ma mb : ME} (ho : SimO B G X W (compareOp op) r) (ha : SimE B G X W a ma) (hb : SimE B G X W b mb) (hm : behindInMarks op b = false) : SimE B G X W (.Compare a [op] [b] pos) (mOp r ma mb) := by
  intro σ H F α env cs o cs' he hs hm' Q q
  refine ⟨_, pe_cmpR (op_u X _) (pe_u X a) (pe_u X b) hm, ?_⟩
  refine ha.then he hs hm' q.exn fun t cs1 v H1 F1 α1 h1 e1 s1 r1 => ?_
  refine hb.then (he.ext e1) s1 h1 (q.ext e1).exn fun u cs2 w H2 F2 α2 h2 e2 s2 r2 => ?_
  exact ho H2 F2 α2 cs2 v w t u o cs' (r1.ext e2) r2 s2 h2 Q (q.ext (e1.trans e2))
end
end Tv

namespace Tv
open PySem L2
/-! ### statements -/
inductive Fl where
  | nx (e : Env) | rt (t : T) | bk (e : Env) | ct (e : Env) | ex (c : Nat) (x : Option T)
abbrev SM := Env → Cs → Option (Fl × Cs)
def PostS (B : Book) (G : Hp) (F : Hp) (α : List Addr) (D : Ends) (W : XK) (fl : Fl) (cs : Cs) : Prop :=
  match fl with
  | .nx env => ∀ σ H' F' α', Ext F α F' α' → Hs B G F' H' α' cs → EnvOk B F' α' σ env → D.nx σ H'
  | .bk env => ∀ σ H' F' α', Ext F α F' α' → Hs B G F' H' α' cs → EnvOk B F' α' σ env → D.bk σ H'
  | .ct env => ∀ σ H' F' α', Ext F α F' α' → Hs B G F' H' α' cs → EnvOk B F' α' σ env → D.ct σ H'
  | .rt t => ∀ v H' F' α', Ext F α F' α' → Hs B G F' H' α' cs → Rep B F' α' v t → D.rt v H'
  | .ex c x => ∀ H' F' α' d, Ext F α F' α' → Hs B G F' H' α' cs → ExAt B F' α' H' c x d → W (.ref (B.at_ c)) d H'
theorem PostS.ext {B : Book} {G : Hp} {F F' : Hp} {α α' : List Addr} {D : Ends} {W : XK} {fl : Fl} {cs : Cs} (h : PostS B G F α D W fl cs) (e : Ext F α F' α') : PostS B G F' α' D W fl cs := by
  cases fl with
  | nx env => exact fun σ H2 F2 α2 e2 => h σ H2 F2 α2 (e.trans e2)
  | bk env => exact fun σ H2 F2 α2 e2 => h σ H2 F2 α2 (e.trans e2)
  | ct env => exact fun σ H2 F2 α2 e2 => h σ H2 F2 α2 (e.trans e2)
  | rt t => exact fun v H2 F2 α2 e2 => h v H2 F2 α2 (e.trans e2)
  | ex c x => exact fun H2 F2 α2 d e2 => h H2 F2 α2 d (e.trans e2)
def SimS (B : Book) (G : Hp) (X : Cx) (W : XK) (st : Stmt) (m : SM) : Prop := ∀ σ H F α env cs fl cs', EnvOk B F α σ env → Hs B G F H α cs → m env cs = some (fl, cs') → ∀ D : Ends, PostS B G F α D W fl cs' → uS X st D σ H
def SimB (B : Book) (G : Hp) (X : Cx) (W : XK) (sts : List Stmt) (m : SM) : Prop := ∀ σ H F α env cs fl cs', EnvOk B F α σ env → Hs B G F H α cs → m env cs = some (fl, cs') → ∀ D : Ends, PostS B G F α D W fl cs' → uSs X sts D σ H
def M.go {α : Type} (m : M α) (f : α → Cs → Option (Fl × Cs)) : Cs → Option (Fl × Cs) := fun cs => match m cs with
  | some (.ok a, cs') => f a cs'
  | some (.ex c x, cs') => some (.ex c x, cs')
  | none => none
theorem go_some {α : Type} {m : M α} {f : α → Cs → Option (Fl × Cs)} {cs cs' : Cs} {fl : Fl} (h : m.go f cs = some (fl, cs')) :
    (∃ a cs1, m cs = some (.ok a, cs1) ∧ f a cs1 = some (fl, cs')) ∨ ∃ c x, m cs = some (.ex c x, cs') ∧ fl = .ex c x := by
  unfold M.go at h
  cases e : m cs with
  | none => rw [e] at h; cases h
  | some p =>
    obtain ⟨a, cs1⟩ := p
    rw [e] at h
    cases a with
    | ok a => exact .inl ⟨a, cs1, rfl, h⟩
    | ex c x =>
      cases h
      exact .inr ⟨c, x, rfl, rfl⟩
section
variable {B : Book} {G : Hp} {X : Cx} {W : XK}
theorem PostS.exn {F : Hp} {α : List Addr} {D : Ends} {fl : Fl} {cs : Cs} (h : PostS B G F α D W fl cs) : ∀ c x, fl = .ex c x → ∀ H' F' α' d, Ext F α F' α' → Hs B G F' H' α' cs → ExAt B F' α' H' c x d → W (.ref (B.at_ c)) d H' := fun c x e => by
  subst e
  exact h
theorem SimE.go {e : Expr} {m : ME} (h : SimE B G X W e m) {f : T → Cs → Option (Fl × Cs)} {σ : L2.St} {H F : Hp} {α : List Addr} {env : Env} {cs cs' : Cs} {fl : Fl} (he : EnvOk B F α σ env) (hs : Hs B G F H α cs)
    (hm : (m env).go f cs = some (fl, cs')) {Q : VK} (hex : ∀ c x, fl = .ex c x → ∀ H' F' α' d, Ext F α F' α' → Hs B G F' H' α' cs' → ExAt B F' α' H' c x d → W (.ref (B.at_ c)) d H')
    (hok : ∀ t cs1 v H1 F1 α1, f t cs1 = some (fl, cs') → Ext F α F1 α1 → Hs B G F1 H1 α1 cs1 → Rep B F1 α1 v t → Q v H1) : uE X e σ H Q := by
  rcases go_some hm with ⟨t, cs1, h1, h2⟩ | ⟨c, x, h1, rfl⟩
  · exact h σ H F α env cs _ _ he hs h1 Q fun v H1 F1 α1 e1 s1 r1 => hok t cs1 v H1 F1 α1 h2 e1 s1 r1
  · exact h σ H F α env cs _ _ he hs h1 Q fun H1 F1 α1 d e1 s1 r1 => hex c x rfl H1 F1 α1 d e1 s1 r1
theorem SimT.go {e : Expr} {m : Env → M Bool} (h : SimT B G X W e m) {f : Bool → Cs → Option (Fl × Cs)} {σ : L2.St} {H F : Hp} {α : List Addr} {env : Env} {cs cs' : Cs} {fl : Fl} (he : EnvOk B F α σ env) (hs : Hs B G F H α cs)
    (hm : (m env).go f cs = some (fl, cs')) {Q : Bool → Hp → Prop} (hex : ∀ c x, fl = .ex c x → ∀ H' F' α' d, Ext F α F' α' → Hs B G F' H' α' cs' → ExAt B F' α' H' c x d → W (.ref (B.at_ c)) d H')
    (hok : ∀ b cs1 H1 F1 α1, f b cs1 = some (fl, cs') → Ext F α F1 α1 → Hs B G F1 H1 α1 cs1 → Q b H1) : uT X e σ H Q := by
  rcases go_some hm with ⟨t, cs1, h1, h2⟩ | ⟨c, x, h1, rfl⟩
  · exact h σ H F α env cs _ _ he hs h1 Q fun H1 F1 α1 e1 s1 => hok t cs1 H1 F1 α1 h2 e1 s1
  · exact h σ H F α env cs _ _ he hs h1 Q fun H1 F1 α1 d e1 s1 r1 => hex c x rfl H1 F1 α1 d e1 s1 r1
theorem SimA.go {es : List Expr} {m : Env → M (List T)} (h : SimA B G X W es m) {f : List T → Cs → Option (Fl × Cs)} {σ : L2.St} {H F : Hp} {α : List Addr} {env : Env} {cs cs' : Cs} {fl : Fl} (he : EnvOk B F α σ env) (hs : Hs B G F H α cs)
    (hm : (m env).go f cs = some (fl, cs')) {Q : List V → Hp → Prop} (hex : ∀ c x, fl = .ex c x → ∀ H' F' α' d, Ext F α F' α' → Hs B G F' H' α' cs' → ExAt B F' α' H' c x d → W (.ref (B.at_ c)) d H')
    (hok : ∀ ts cs1 vs H1 F1 α1, f ts cs1 = some (fl, cs') → Ext F α F1 α1 → Hs B G F1 H1 α1 cs1 → RepL B F1 α1 vs ts → Q vs H1) : uA X es σ H Q := by
  rcases go_some hm with ⟨t, cs1, h1, h2⟩ | ⟨c, x, h1, rfl⟩
  · exact h σ H F α env cs _ _ he hs h1 Q fun v H1 F1 α1 e1 s1 r1 => hok t cs1 v H1 F1 α1 h2 e1 s1 r1
  · exact h σ H F α env cs _ _ he hs h1 Q fun H1 F1 α1 d e1 s1 r1 => hex c x rfl H1 F1 α1 d e1 s1 r1

/-! ### blocks -/
def bNil : SM := fun env cs => some (.nx env, cs)
def bCons (m n : SM) : SM := fun env cs => match m env cs with
  | some (.nx env', cs') => n env' cs'
  | r => r
theorem b_nil : SimB B G X W [] bNil := by
  intro σ H F α env cs fl cs' he hs hm D q
  cases hm
  exact ⟨_, pss_nil, q σ H F α (Ext.refl _ _) hs he⟩
theorem b_cons {st : Stmt} {rest : List Stmt} {m n : SM} (h1 : SimS B G X W st m) (h2 : SimB B G X W rest n) : SimB B G X W (st :: rest) (bCons m n) := by
  intro σ H F α env cs fl cs' he hs hm D q
  refine ⟨_, pss_cons (ps_u X st) (pss_u X rest), ?_⟩
  show uS X st { D with nx := uSs X rest D } σ H
  unfold bCons at hm
  cases e : m env cs with
  | none => rw [e] at hm; cases hm
  | some p =>
    obtain ⟨f1, cs1⟩ := p
    rw [e] at hm
    refine h1 σ H F α env cs f1 cs1 he hs e _ ?_
    cases f1 with
    | nx env1 => exact fun σ1 H1 F1 α1 e1 s1 k1 => h2 σ1 H1 F1 α1 env1 cs1 fl cs' k1 s1 hm D (q.ext e1)
    | bk env1 => cases hm; exact q
    | ct env1 => cases hm; exact q
    | rt t => cases hm; exact q
    | ex c x => cases hm; exact q
theorem b_one {st : Stmt} {m : SM} (h1 : SimS B G X W st m) : SimB B G X W [st] m := by
  intro σ H F α env cs fl cs' he hs hm D q
  exact ⟨_, pss_one (ps_u X st), h1 σ H F α env cs fl cs' he hs hm D q⟩

/-! ### small statements -/
def sPass : SM := fun env cs => some (.nx env, cs)
theorem t_pass {pos : Pos} : SimS B G X W (.Pass pos) sPass := by
  intro σ H F α env cs fl cs' he hs hm D q
  cases hm
  exact ⟨_, ps_pass, q σ H F α (Ext.refl _ _) hs he⟩
def sBreak : SM := fun env cs => some (.bk env, cs)
theorem t_break {pos : Pos} : SimS B G X W (.Break pos) sBreak := by
  intro σ H F α env cs fl cs' he hs hm D q
  cases hm
  exact ⟨_, ps_break, q σ H F α (Ext.refl _ _) hs he⟩
def sCont : SM := fun env cs => some (.ct env, cs)
theorem t_cont {pos : Pos} : SimS B G X W (.Continue pos) sCont := by
  intro σ H F α env cs fl cs' he hs hm D q
  cases hm
  exact ⟨_, ps_continue, q σ H F α (Ext.refl _ _) hs he⟩
def sSet (i : Nat) (m : ME) : SM := fun env => (m env).go fun t cs => some (.nx (env.set i (some t)), cs)
theorem t_set {st : Stmt} {e : Expr} {i : Nat} {m : ME} (hp : PS X st (tAsg (uE X e) (gName i))) (h : SimE B G X W e m) : SimS B G X W st (sSet i m) := by
  intro σ H F α env cs fl cs' he hs hm D q
  refine ⟨_, hp, ?_⟩
  refine h.go he hs hm q.exn fun t cs1 v H1 F1 α1 h1 e1 s1 r1 => ?_
  cases h1
  exact q _ H1 F1 α1 e1 s1 ((he.ext e1).set i r1)
def sRet (m : ME) : SM := fun env => (m env).go fun t cs => some (.rt t, cs)
theorem t_ret {e : Expr} {pos : Pos} {m : ME} (h : SimE B G X W e m) : SimS B G X W (.Return (some e) pos) (sRet m) := by
  intro σ H F α env cs fl cs' he hs hm D q
  refine ⟨_, ps_ret (pe_u X e), ?_⟩
  refine h.go he hs hm q.exn fun t cs1 v H1 F1 α1 h1 e1 s1 r1 => ?_
  cases h1
  exact q v H1 F1 α1 e1 s1 r1
def sRetN : SM := fun _ cs => some (.rt .non, cs)
theorem t_retN {pos : Pos} : SimS B G X W (.Return none pos) sRetN := by
  intro σ H F α env cs fl cs' he hs hm D q
  cases hm
  exact ⟨_, ps_retN, q _ H F α (Ext.refl _ _) hs .non⟩
def sExpr (m : ME) : SM := fun env => (m env).go fun _ cs => some (.nx env, cs)
theorem t_expr {st : Stmt} {e : Expr} {m : ME} (hp : PS X st (tDrop (uE X e))) (h : SimE B G X W e m) : SimS B G X W st (sExpr m) := by
  intro σ H F α env cs fl cs' he hs hm D q
  refine ⟨_, hp, ?_⟩
  refine h.go he hs hm q.exn fun t cs1 v H1 F1 α1 h1 e1 s1 r1 => ?_
  cases h1
  exact q _ H1 F1 α1 e1 s1 (he.ext e1)
def sIf (t : Env → M Bool) (a b : SM) : SM := fun env => (t env).go fun c cs => if c = true then a env cs else b env cs
theorem t_if {c : Expr} {a b : List Stmt} {pos : Pos} {mt : Env → M Bool} {ma mb : SM} (hc : SimT B G X W c mt) (ha : SimB B G X W a ma) (hb : SimB B G X W b mb) : SimS B G X W (.If c a b pos) (sIf mt ma mb) := by
  intro σ H F α env cs fl cs' he hs hm D q
  refine ⟨_, ps_if (pt_u X c) (pss_u X a) (pss_u X b), ?_⟩
  refine hc.go he hs hm q.exn fun k cs1 H1 F1 α1 h1 e1 s1 => ?_
  cases k with
  | true => exact ha σ H1 F1 α1 env cs1 fl cs' (he.ext e1) s1 h1 D (q.ext e1)
  | false => exact hb σ H1 F1 α1 env cs1 fl cs' (he.ext e1) s1 h1 D (q.ext e1)

/-! ### targets -/
def uG (X : Cx) (tg : Expr) : TG := fun v σ H Q => ∃ t, PG X tg t ∧ t v σ H Q
theorem pg_u (X : Cx) (tg : Expr) : PG X tg (uG X tg) := ⟨fun pins s σ H v u Q I r ⟨_, h, q⟩ => h.run pins s σ H v u Q I r q⟩
def uGs (X : Cx) (tgs : List Expr) : TGs := fun vs σ H Q => ∃ t, PGs X tgs t ∧ t vs σ H Q
theorem pgs_u (X : Cx) (tgs : List Expr) : PGs X tgs (uGs X tgs) := ⟨fun pins s σ H vs us Q I r ⟨_, h, q⟩ => h.run pins s σ H vs us Q I r q⟩
/-- names, tuples of names: own: the slots that it stores -/
def SimG (B : Book) (G : Hp) (X : Cx) (tg : Expr) (own : List Nat) (g : T → Env → Option Env) : Prop := ∀ v t σ H F α env env' cs, Rep B F α v t → EnvOk B F α σ env → Hs B G F H α cs → g t env = some env' →
  ∀ Q : L2.St → Hp → Prop, (∀ σ', EnvOk B F α σ' env' → (∀ vs : List Nat, (∀ i ∈ own, i ∈ vs) → wipe σ' vs = wipe σ vs) → Q σ' H) → uG X tg v σ H Q
def SimGs (B : Book) (G : Hp) (X : Cx) (tgs : List Expr) (own : List Nat) (g : List T → Env → Option Env) : Prop := ∀ ws ts σ H F α env env' cs, RepL B F α ws ts → EnvOk B F α σ env → Hs B G F H α cs → g ts env = some env' →
  ∀ Q : L2.St → Hp → Prop, (∀ σ', EnvOk B F α σ' env' → (∀ vs : List Nat, (∀ i ∈ own, i ∈ vs) → wipe σ' vs = wipe σ vs) → Q σ' H) → uGs X tgs ws σ H Q
theorem set_comm' {σ : L2.St} {i j : Nat} {a b : Option V} (h : i ≠ j) : (σ.set i a).set j b = (σ.set j b).set i a := List.set_comm _ _ h
theorem wipe_set {σ : L2.St} {i : Nat} {o : Option V} : ∀ {vs : List Nat}, i ∈ vs → wipe (σ.set i o) vs = wipe σ vs
  | [], h => absurd h (by simp)
  | v :: vs, h => by
    by_cases hm : i ∈ vs
    · show (wipe (σ.set i o) vs).set v none = (wipe σ vs).set v none
      rw [wipe_set hm]
    · have hv : i = v := by
        rcases List.mem_cons.mp h with h | h
        · exact h
        · exact absurd h hm
      subst hv
      show (wipe (σ.set i o) vs).set i none = (wipe σ vs).set i none
      have key : ∀ {ws : List Nat}, i ∉ ws → wipe (σ.set i o) ws = (wipe σ ws).set i o := by
        intro ws
        induction ws with
        | nil => intro _; rfl
        | cons w ws ih =>
          intro hn
          show (wipe (σ.set i o) ws).set w none = ((wipe σ ws).set w none).set i o
          rw [ih (fun z => hn (List.mem_cons_of_mem _ z))]
          exact List.set_comm _ _ fun e => hn (by rw [e]; exact List.mem_cons_self)
      rw [key hm, List.set_set]
def gSet (i : Nat) : T → Env → Option Env := fun t env => some (env.set i (some t))
theorem g_name {tg : Expr} {i : Nat} (h : PG X tg (gName i)) : SimG B G X tg [i] (gSet i) := by
  intro v t σ H F α env env' cs r he hs hm Q q
  cases hm
  exact ⟨_, h, q _ (he.set i r) fun vs hv => wipe_set (hv i (by simp))⟩
def gTupT (n : Nat) (g : List T → Env → Option Env) : T → Env → Option Env := fun t env => match t with
  | .tup ts => if ts.length = n then g ts env else none
  | _ => none
theorem g_tup {es : List Expr} {k : Nat} {n : Nat} {own : List Nat} {g : List T → Env → Option Env} {pos : Pos} (hK : X.K = B.K) (hc : X.calm = true) (h : SimGs B G X es own g) (hn : (assignEach es X.env).length = n := by rfl) (hst : (assignEach es X.env).findIdx? (·.1) = none := by rfl) :
    SimG B G X (.Tuple es k pos) own (gTupT n g) := by
  intro v t σ H F α env env' cs r he hs hm Q q
  cases r with
  | @tup a vs ts hq hr =>
    refine ⟨_, pg_tup hc (pgs_u X es) hn hst, ?_⟩
    have hm : (if ts.length = n then g ts env else none) = some env' := hm
    have hl : ts.length = n := by
      by_cases e : ts.length = n
      · exact e
      · rw [if_neg e] at hm; cases hm
    have hm' : g ts env = some env' := by rwa [if_pos hl] at hm
    exact ⟨a, vs, rfl, by rw [hK]; exact Ts.Same.sqt hs.same hq, by rw [hr.length]; exact hl, h vs ts σ H F α env env' cs hr he hs hm' Q q⟩
  | _ => cases hm
def gNilC : List T → Env → Option Env := fun ts env => match ts with
  | [] => some env
  | _ :: _ => none
theorem g_nilC : SimGs B G X [] [] gNilC := by
  intro ws ts σ H F α env env' cs r he hs hm Q q
  cases r with
  | nil =>
    cases hm
    exact ⟨_, pgs_nil, rfl, q σ he fun _ _ => rfl⟩
  | cons _ _ => cases hm
def gConsT (g : T → Env → Option Env) (h : List T → Env → Option Env) : List T → Env → Option Env := fun ts env => match ts with
  | [] => none
  | t :: ts => match g t env with
    | some env' => h ts env'
    | none => none
theorem g_cons {e : Expr} {es : List Expr} {own own2 : List Nat} {g : T → Env → Option Env} {h : List T → Env → Option Env} (h1 : SimG B G X e own g) (h2 : SimGs B G X es own2 h)
    (hs : (assignEach (e :: es) X.env).map (·.2) = assign e X.env :: (assignEach es X.env).map (·.2) := by rfl) : SimGs B G X (e :: es) (own ++ own2) (gConsT g h) := by
  intro ws ts σ H F α env env' cs r he hs' hm Q q
  cases r with
  | nil => cases hm
  | @cons v t vs ts r rr =>
    refine ⟨_, pgs_cons (pg_u X e) (pgs_u X es) hs, v, vs, rfl, ?_⟩
    unfold gConsT at hm
    cases e1 : g t env with
    | none => simp only [e1] at hm; cases hm
    | some env1 =>
      simp only [e1] at hm
      refine h1 v t σ H F α env env1 cs r he hs' e1 _ fun σ1 k1 w1 => ?_
      exact h2 vs ts σ1 H F α env1 env' cs rr k1 hs' hm Q fun σ2 k2 w2 => q σ2 k2 fun us hu => (w2 us fun i hi => hu i (List.mem_append_right _ hi)).trans (w1 us fun i hi => hu i (List.mem_append_left _ hi))
def sAsg (g : T → Env → Option Env) (m : ME) : SM := fun env => (m env).go fun t cs => (g t env).map fun env' => (.nx env', cs)
theorem t_asg {st : Stmt} {tg e : Expr} {own : List Nat} {g : T → Env → Option Env} {m : ME} (hp : PS X st (tAsg (uE X e) (uG X tg))) (hg : SimG B G X tg own g) (h : SimE B G X W e m) : SimS B G X W st (sAsg g m) := by
  intro σ H F α env cs fl cs' he hs hm D q
  refine ⟨_, hp, ?_⟩
  refine h.go he hs hm q.exn fun t cs1 v H1 F1 α1 h1 e1 s1 r1 => ?_
  cases e2 : g t env with
  | none => rw [e2] at h1; cases h1
  | some env' =>
    rw [e2] at h1
    cases h1
    exact hg v t σ H1 F1 α1 env env' cs' r1 (he.ext e1) s1 e2 _ fun σ' k' _ => q σ' H1 F1 α1 e1 s1 k'

/-! ### loops -/
def uI (X : Cx) (tg it : Expr) : TI := fun σ H R => ∃ t, PI X tg it t ∧ t σ H R
theorem pi_u (X : Cx) (tg it : Expr) : PI X tg it (uI X tg it) := ⟨fun pins s σ H R I ⟨_, h, q⟩ => h.run pins s σ H R I q⟩
/-- a walk that gives these trees -/
abbrev Seq := List T × (Cs → Bool)
/-- nothing to look after while it is walked -/
abbrev fr (ts : List T) : Seq := (ts, fun _ => true)
structure WalkT (B : Book) (F1 : Hp) (α1 : List Addr) (J : It) (ts : Seq) : Prop where
  ex : ∃ (Gw : Hp → Prop) (Y : Nat → Hp → V → Hp → Prop), Walk J ts.1.length Gw Y ∧ (∀ G H2 F2 α2 cs2, Ext F1 α1 F2 α2 → Hs B G F2 H2 α2 cs2 → ts.2 cs2 = true → Gw H2) ∧
    ∀ G i H x H' F2 α2 cs2 t, Ext F1 α1 F2 α2 → Hs B G F2 H α2 cs2 → ts.2 cs2 = true → Y i H x H' → ts.1[i]? = some t → ∃ F3, Ext F2 α2 F3 α2 ∧ Hs B G F3 H' α2 cs2 ∧ Rep B F3 α2 x t
def PostI (B : Book) (G : Hp) (F : Hp) (α : List Addr) (R : It → Hp → Prop) (W : XK) (o : Out Seq) (cs : Cs) : Prop :=
  match o with
  | .ok ts => ∀ J H' F' α', Ext F α F' α' → Hs B G F' H' α' cs → WalkT B F' α' J ts → R J H'
  | .ex c x => ∀ H' F' α' d, Ext F α F' α' → Hs B G F' H' α' cs → ExAt B F' α' H' c x d → W (.ref (B.at_ c)) d H'
def SimI (B : Book) (G : Hp) (X : Cx) (W : XK) (tg it : Expr) (m : Env → M Seq) : Prop := ∀ σ H F α env cs o cs', EnvOk B F α σ env → Hs B G F H α cs → m env cs = some (o, cs') → ∀ R : It → Hp → Prop, PostI B G F α R W o cs' → uI X tg it σ H R
@[irreducible] def forL (ck : Cs → Bool) (g : T → Env → Option Env) (body : SM) : List T → SM
  | [], env, cs => if ck cs = true then some (.nx env, cs) else none
  | t :: ts, env, cs => if ck cs = true then match g t env with
    | none => none
    | some env1 => match body env1 cs with
      | some (.nx env2, cs2) => forL ck g body ts env2 cs2
      | some (.ct env2, cs2) => forL ck g body ts env2 cs2
      | some (.bk env2, cs2) => some (.nx env2, cs2)
      | some (.rt t, cs2) => some (.rt t, cs2)
      | some (.ex c x, cs2) => some (.ex c x, cs2)
      | none => none
      else none
theorem forL_ck {ck : Cs → Bool} {g : T → Env → Option Env} {body : SM} {ts : List T} {env : Env} {cs : Cs} {r : Fl × Cs} (h : forL ck g body ts env cs = some r) : ck cs = true := by
  by_cases e : ck cs = true
  · exact e
  · cases ts with
    | nil => unfold forL at h; rw [if_neg e] at h; cases h
    | cons t ts => unfold forL at h; rw [if_neg e] at h; cases h
def sFor (mi : Env → M Seq) (g : T → Env → Option Env) (body : SM) : SM := fun env => (mi env).go fun ts cs => forL ts.2 g body ts.1 env cs
theorem t_for {tg it : Expr} {body : List Stmt} {pos : Pos} {own : List Nat} {mi : Env → M Seq} {g : T → Env → Option Env} {mb : SM} (hp : PassesOwn (model X.prog X.w) X.A X.env X.xe) (hc : X.calm = true) (hi : SimI B G X W tg it mi) (hg : SimG B G X tg own g) (hb : SimB B G X W body mb)
    (hf : ∀ x, foldedSetIterable it X.env x = pure x := by intro _; rfl) : SimS B G X W (.For tg it body [] pos) (sFor mi g mb) := by
  intro σ H F α env cs fl cs' he hs hm D q
  refine ⟨_, ps_for hp hc (pi_u X tg it) (pg_u X tg) (pss_u X body) hf, ?_⟩
  show uI X tg it σ H _
  rcases go_some hm with ⟨⟨ts, ck⟩, cs1, h1, h2⟩ | ⟨c, x, h1, rfl⟩
  · refine hi σ H F α env cs _ _ he hs h1 _ fun J H1 F1 α1 e1 s1 w1 => ?_
    obtain ⟨Gw, Y, w, hG, hY⟩ := w1.ex
    refine for_it w (fun i σ2 H2 => ∃ F2 α2 env2 cs2, Ext F1 α1 F2 α2 ∧ Hs B G F2 H2 α2 cs2 ∧ EnvOk B F2 α2 σ2 env2 ∧ forL ck g mb (ts.drop i) env2 cs2 = some (fl, cs'))
      ⟨F1, α1, env, cs1, Ext.refl _ _, s1, he.ext e1, by rw [List.drop_zero]; exact h2⟩ (fun i σ2 H2 _ ⟨F2, α2, env2, cs2, e2, s2, _, l2⟩ => hG G H2 F2 α2 cs2 e2 s2 (forL_ck l2)) ?_ ?_
    · rintro i x σ2 H2 H3 hi ⟨F2, α2, env2, cs2, e2, s2, k2, l2⟩ y
      have ht : ts[i]? = some ts[i] := List.getElem?_eq_getElem hi
      obtain ⟨F3, e3, s3, r3⟩ := hY G i H2 x H3 F2 α2 cs2 ts[i] e2 s2 (forL_ck l2) y ht
      rw [List.drop_eq_getElem_cons hi] at l2
      have hck := forL_ck l2
      unfold forL at l2
      rw [if_pos hck] at l2
      cases g3 : g ts[i] env2 with
      | none => simp only [g3] at l2; cases l2
      | some env3 =>
        simp only [g3] at l2
        refine hg x ts[i] σ2 H3 F3 α2 env2 env3 cs2 r3 (k2.ext e3) s3 g3 _ fun σ4 k4 _ => ?_
        cases b4 : mb env3 cs2 with
        | none => simp only [b4] at l2; cases l2
        | some p =>
          obtain ⟨f4, cs4⟩ := p
          simp only [b4] at l2
          refine hb σ4 H3 F3 α2 env3 cs2 f4 cs4 k4 s3 b4 _ ?_
          cases f4 with
          | nx env5 => exact fun σ5 H5 F5 α5 e5 s5 k5 => ⟨F5, α5, env5, cs4, (e2.trans e3).trans e5, s5, k5, l2⟩
          | ct env5 => exact fun σ5 H5 F5 α5 e5 s5 k5 => ⟨F5, α5, env5, cs4, (e2.trans e3).trans e5, s5, k5, l2⟩
          | bk env5 =>
            cases l2
            exact fun σ5 H5 F5 α5 e5 s5 k5 => q σ5 H5 F5 α5 (((e1.trans e2).trans e3).trans e5) s5 k5
          | rt t =>
            cases l2
            exact fun v H5 F5 α5 e5 s5 r5 => q v H5 F5 α5 (((e1.trans e2).trans e3).trans e5) s5 r5
          | ex c x =>
            cases l2
            exact fun H5 F5 α5 d e5 s5 r5 => q H5 F5 α5 d (((e1.trans e2).trans e3).trans e5) s5 r5
    · rintro σ2 H2 ⟨F2, α2, env2, cs2, e2, s2, k2, l2⟩
      rw [List.drop_length] at l2
      have hck := forL_ck l2
      unfold forL at l2
      rw [if_pos hck] at l2
      cases l2
      exact q σ2 H2 F2 α2 (e1.trans e2) s2 k2
  · exact hi σ H F α env cs _ _ he hs h1 _ fun H1 F1 α1 d e1 s1 r1 => q H1 F1 α1 d e1 s1 r1
@[irreducible] def whileL (mt : Env → M Bool) (body : SM) : Nat → SM
  | 0, _, _ => none
  | n + 1, env, cs => match mt env cs with
    | none => none
    | some (.ex c x, cs1) => some (.ex c x, cs1)
    | some (.ok false, cs1) => some (.nx env, cs1)
    | some (.ok true, cs1) => match body env cs1 with
      | some (.nx env2, cs2) => whileL mt body n env2 cs2
      | some (.ct env2, cs2) => whileL mt body n env2 cs2
      | some (.bk env2, cs2) => some (.nx env2, cs2)
      | some (.rt t, cs2) => some (.rt t, cs2)
      | some (.ex c x, cs2) => some (.ex c x, cs2)
      | none => none
theorem t_while {c : Expr} {body : List Stmt} {pos : Pos} {mt : Env → M Bool} {mb : SM} {n : Nat} (hp : PassesOwn (model X.prog X.w) X.A X.env X.xe) (hc : SimT B G X W c mt) (hb : SimB B G X W body mb) : SimS B G X W (.While c body [] pos) (whileL mt mb n) := by
  intro σ H F α env cs fl cs' he hs hm D q
  refine ⟨_, ps_while hp (pt_u X c) (pss_u X body), ?_⟩
  refine ⟨fun m σ2 H2 => ∃ F2 α2 env2 cs2, Ext F α F2 α2 ∧ Hs B G F2 H2 α2 cs2 ∧ EnvOk B F2 α2 σ2 env2 ∧ whileL mt mb m env2 cs2 = some (fl, cs'), ⟨n, F, α, env, cs, Ext.refl _ _, hs, he, hm⟩, ?_⟩
  rintro m σ2 H2 ⟨F2, α2, env2, cs2, e2, s2, k2, l2⟩
  cases m with
  | zero => unfold whileL at l2; cases l2
  | succ m =>
    unfold whileL at l2
    cases e3 : mt env2 cs2 with
    | none => simp only [e3] at l2; cases l2
    | some p =>
      obtain ⟨o3, cs3⟩ := p
      simp only [e3] at l2
      refine hc σ2 H2 F2 α2 env2 cs2 o3 cs3 k2 s2 e3 _ ?_
      cases o3 with
      | ex c x =>
        cases l2
        exact fun H4 F4 α4 d e4 s4 r4 => q H4 F4 α4 d (e2.trans e4) s4 r4
      | ok b =>
        intro H4 F4 α4 e4 s4
        cases b with
        | false =>
          cases l2
          exact q σ2 H4 F4 α4 (e2.trans e4) s4 (k2.ext e4)
        | true =>
          rw [if_pos rfl]
          refine ⟨fun σ5 H5 => ∃ F5 α5 env5 cs5, Ext F α F5 α5 ∧ Hs B G F5 H5 α5 cs5 ∧ EnvOk B F5 α5 σ5 env5 ∧ whileL mt mb m env5 cs5 = some (fl, cs'), fun σ5 H5 h5 => ⟨m, Nat.lt_succ_self m, h5⟩, ?_⟩
          cases b4 : mb env2 cs3 with
          | none => simp only [b4] at l2; cases l2
          | some p =>
            obtain ⟨f4, cs4⟩ := p
            simp only [b4] at l2
            refine hb σ2 H4 F4 α4 env2 cs3 f4 cs4 (k2.ext e4) s4 b4 _ ?_
            cases f4 with
            | nx env5 => exact fun σ5 H5 F5 α5 e5 s5 k5 => ⟨F5, α5, env5, cs4, (e2.trans e4).trans e5, s5, k5, l2⟩
            | ct env5 => exact fun σ5 H5 F5 α5 e5 s5 k5 => ⟨F5, α5, env5, cs4, (e2.trans e4).trans e5, s5, k5, l2⟩
            | bk env5 =>
              cases l2
              exact fun σ5 H5 F5 α5 e5 s5 k5 => q σ5 H5 F5 α5 ((e2.trans e4).trans e5) s5 k5
            | rt t =>
              cases l2
              exact fun v H5 F5 α5 e5 s5 r5 => q v H5 F5 α5 ((e2.trans e4).trans e5) s5 r5
            | ex c x =>
              cases l2
              exact fun H5 F5 α5 d e5 s5 r5 => q H5 F5 α5 d ((e2.trans e4).trans e5) s5 r5

/-! ### tests -/
def mTst (m : ME) : Env → M Bool := fun env => (m env).bind fun t => fun cs => match t with
  | .bl b => some (.ok b, cs)
  | _ => none
/-- a test whose value is a bool -/
theorem w_bool {e : Expr} {m : ME} (h : SimE B G X W e m) (hp : PT X e (tTest (uE X e))) : SimT B G X W e (mTst m) := by
  intro σ H F α env cs o cs' he hs hm Q q
  refine ⟨_, hp, ?_⟩
  refine h.then he hs hm q.exn fun t cs1 v H1 F1 α1 h1 e1 s1 r1 => ?_
  cases r1 with
  | bl b =>
    cases h1
    exact ⟨b, rfl, q H1 F1 α1 e1 s1⟩
  | _ => cases h1
theorem w_cmp {op : CmpOp} {a b : Expr} {pos : Pos} {r : T → T → M T} {ma mb : ME} (ho : SimO B G X W (compareOp op) r) (ha : SimE B G X W a ma) (hb : SimE B G X W b mb) (hm : behindInMarks op b = false) : SimT B G X W (.Compare a [op] [b] pos) (mTst (mOp r ma mb)) := by
  intro σ H F α env cs o cs' he hs hm' Q q
  refine ⟨_, pt_cmpR (op_u X _) (pe_u X a) (pe_u X b) hm, ?_⟩
  show uE X a σ H fun x H1 => uE X b σ H1 fun y H2 => uOp X _ x y H2 fun z H' => ∃ k, z = .bl k ∧ Q k H'
  have key : ∀ {o1 : Out T} {cs1 : Cs}, mOp r ma mb env cs = some (o1, cs1) → PostE B G F α (fun z H' => ∃ k, z = .bl k ∧ Q k H') W o1 cs1 → uE X a σ H fun x H1 => uE X b σ H1 fun y H2 => uOp X (compareOp op) x y H2 fun z H' => ∃ k, z = .bl k ∧ Q k H' := by
    intro o1 cs1 h1 q1
    refine ha.then he hs h1 q1.exn fun t cs2 v H1 F1 α1 h2 e1 s1 r1 => ?_
    refine hb.then (he.ext e1) s1 h2 (q1.ext e1).exn fun u cs3 w H2 F2 α2 h3 e2 s2 r2 => ?_
    exact ho H2 F2 α2 cs3 v w t u o1 cs1 (r1.ext e2) r2 s2 h3 _ (q1.ext (e1.trans e2))
  rcases bind_some hm' with ⟨t, cs1, h1, h2⟩ | ⟨c, x, h1, rfl⟩
  · refine key h1 fun v H1 F1 α1 e1 s1 r1 => ?_
    cases r1 with
    | bl b =>
      cases h2
      exact ⟨b, rfl, q H1 F1 α1 e1 s1⟩
    | _ => cases h2
  · exact key h1 fun H1 F1 α1 d e1 s1 r1 => q H1 F1 α1 d e1 s1 r1
def mNotT (m : Env → M Bool) : Env → M Bool := fun env => (m env).bind fun b => M.ret (!b)
theorem w_not {a : Expr} {pos : Pos} {m : Env → M Bool} (h : SimT B G X W a m) : SimT B G X W (.UnaryOp .Not a pos) (mNotT m) := by
  intro σ H F α env cs o cs' he hs hm Q q
  refine ⟨_, pt_not (pt_u X a), ?_⟩
  refine h.then he hs hm q.exn fun b cs1 H1 F1 α1 h1 e1 s1 => ?_
  cases h1
  exact q H1 F1 α1 e1 s1
theorem w_one {op} {a : Expr} {pos : Pos} {m : Env → M Bool} (h : SimT B G X W a m) (hp : PW X (.BoolOp op [a] pos) (uT X a)) : SimW B G X W (.BoolOp op [a] pos) m := by
  intro σ H F α env cs o cs' he hs hm Q q
  exact ⟨_, hp, h σ H F α env cs o cs' he hs hm Q q⟩
theorem w_and1 {a : Expr} {pos : Pos} {m : Env → M Bool} (h : SimT B G X W a m) : SimW B G X W (.BoolOp .And [a] pos) m := w_one h (pw_and1 (pt_u X a))
theorem w_or1 {a : Expr} {pos : Pos} {m : Env → M Bool} (h : SimT B G X W a m) : SimW B G X W (.BoolOp .Or [a] pos) m := w_one h (pw_or1 (pt_u X a))
def mAndT (a b : Env → M Bool) : Env → M Bool := fun env => (a env).bind fun c => if c = true then b env else M.ret false
def mOrT (a b : Env → M Bool) : Env → M Bool := fun env => (a env).bind fun c => if c = true then M.ret true else b env
theorem w_and {a b : Expr} {rest : List Expr} {pos : Pos} {ma mb : Env → M Bool} (ha : SimT B G X W a ma) (hb : SimW B G X W (.BoolOp .And (b :: rest) pos) mb) : SimW B G X W (.BoolOp .And (a :: b :: rest) pos) (mAndT ma mb) := by
  intro σ H F α env cs o cs' he hs hm Q q
  refine ⟨_, pw_and (pt_u X a) (pw_u X _), ?_⟩
  refine ha.then he hs hm q.exn fun c cs1 H1 F1 α1 h1 e1 s1 => ?_
  cases c with
  | true => exact hb σ H1 F1 α1 env cs1 o cs' (he.ext e1) s1 h1 Q (q.ext e1)
  | false =>
    cases h1
    exact q H1 F1 α1 e1 s1
theorem w_or {a b : Expr} {rest : List Expr} {pos : Pos} {ma mb : Env → M Bool} (ha : SimT B G X W a ma) (hb : SimW B G X W (.BoolOp .Or (b :: rest) pos) mb) : SimW B G X W (.BoolOp .Or (a :: b :: rest) pos) (mOrT ma mb) := by
  intro σ H F α env cs o cs' he hs hm Q q
  refine ⟨_, pw_or (pt_u X a) (pw_u X _), ?_⟩
  refine ha.then he hs hm q.exn fun c cs1 H1 F1 α1 h1 e1 s1 => ?_
  cases c with
  | true =>
    cases h1
    exact q H1 F1 α1 e1 s1
  | false => exact hb σ H1 F1 α1 env cs1 o cs' (he.ext e1) s1 h1 Q (q.ext e1)
theorem w_pt {e : Expr} {m : Env → M Bool} (h : SimW B G X W e m) : SimT B G X W e m := by
  intro σ H F α env cs o cs' he hs hm Q q
  exact ⟨_, (pw_u X e).pt, h σ H F α env cs o cs' he hs hm Q q⟩
/-- truth of a value -/
def truT (cs : Cs) : T → Option Bool
  | .non => some false
  | .bl b => some b
  | .int i => some (i != 0)
  | .str x => if x.length ≤ sizeLine then some ((x.length : Int) != 0) else none
  | .lst ts => some (!ts.isEmpty)
  | .tup ts => some (!ts.isEmpty)
  | .ro ts => some (!ts.isEmpty)
  | .own k => match cs[k]? with
    | some (.lst ts) => some (!ts.isEmpty)
    | _ => none
  | .obj _ _ => none
  | .cls _ => none
theorem RepL.isEmpty {F : Hp} {α : List Addr} {vs : List V} {ts : List T} (r : RepL B F α vs ts) : ts.isEmpty = vs.isEmpty := by
  cases r <;> rfl
theorem tru_of {F H : Hp} {α : List Addr} {cs : Cs} {v : V} {t : T} {b : Bool} (r : Rep B F α v t) (hs : Hs B G F H α cs) (h : truT cs t = some b) : TruV B.K v H b := by
  cases r with
  | non => exact (Option.some.inj h).symm
  | bl c => exact (Option.some.inj h).symm
  | int i => exact (Option.some.inj h).symm
  | str x =>
    have h : (if x.length ≤ sizeLine then some ((x.length : Int) != 0) else none) = some b := h
    by_cases hx : x.length ≤ sizeLine
    · rw [if_pos hx] at h
      exact ⟨hx, (Option.some.inj h).symm⟩
    · rw [if_neg hx] at h
      cases h
  | lst hq hr => exact .inl ⟨_, SqL.of (hs.same _ _ hq), by rw [← hr.isEmpty]; exact (Option.some.inj h).symm⟩
  | ro hq hr => exact .inl ⟨_, hs.same.seq hq, by rw [← hr.isEmpty]; exact (Option.some.inj h).symm⟩
  | tup hq hr => exact .inr (.inl ⟨_, Ts.Same.sqt hs.same hq, by rw [← hr.isEmpty]; exact (Option.some.inj h).symm⟩)
  | obj _ _ _ => cases h
  | cls c => cases h
  | @own a k hk =>
    unfold truT at h
    cases hc : cs[k]? with
    | none => simp only [hc] at h; cases h
    | some c =>
      simp only [hc] at h
      cases c with
      | lst ts =>
        obtain ⟨vs, h1, h2⟩ := hs.cell k a _ hk hc
        exact .inl ⟨vs, SqL.of h1, by rw [← h2.isEmpty]; exact (Option.some.inj h).symm⟩
      | _ => cases h
def mTru (m : ME) : Env → M Bool := fun env => (m env).bind fun t => fun cs => (truT cs t).map fun b => (.ok b, cs)
theorem w_tru {e : Expr} {m : ME} (hK : X.K = B.K) (h : SimE B G X W e m) (hp : ∀ whole, isTrue e X.env whole = (do let v ← whole; standAt e.pos; holding [v] (truthy v)) := by intro _; rfl) : SimT B G X W e (mTru m) := by
  intro σ H F α env cs o cs' he hs hm Q q
  refine ⟨_, pt_truth (pe_u X e) hp, ?_⟩
  refine h.then he hs hm q.exn fun t cs1 v H1 F1 α1 h1 e1 s1 r1 => ?_
  cases e2 : truT cs1 t with
  | none => rw [e2] at h1; cases h1
  | some b =>
    rw [e2] at h1
    cases h1
    exact ⟨b, by rw [hK]; exact tru_of r1 s1 e2, q H1 F1 α1 e1 s1⟩
/-! ### values by tests -/
def mIfE (t : Env → M Bool) (a b : ME) : ME := fun env => (t env).bind fun c => if c = true then a env else b env
theorem s_ifE {c a b : Expr} {pos : Pos} {mt : Env → M Bool} {ma mb : ME} (hc : SimT B G X W c mt) (ha : SimE B G X W a ma) (hb : SimE B G X W b mb) : SimE B G X W (.IfExp c a b pos) (mIfE mt ma mb) := by
  intro σ H F α env cs o cs' he hs hm Q q
  refine ⟨_, pe_ifExp (pt_u X c) (pe_u X a) (pe_u X b), ?_⟩
  refine hc.then he hs hm q.exn fun k cs1 H1 F1 α1 h1 e1 s1 => ?_
  cases k with
  | true => exact ha σ H1 F1 α1 env cs1 o cs' (he.ext e1) s1 h1 Q (q.ext e1)
  | false => exact hb σ H1 F1 α1 env cs1 o cs' (he.ext e1) s1 h1 Q (q.ext e1)
end
end Tv

namespace Tv
open PySem L2
/-! ### data -/
mutual
def dat0 : T → Option PyData
  | .non => some .none
  | .bl b => some (.bool b)
  | .int i => some (.int i)
  | .str x => some (.str x)
  | .lst ts => (datL0 ts).map .list
  | .ro ts => (datL0 ts).map .list
  | .tup ts => (datL0 ts).map .tuple
  | .obj _ _ => none
  | .own _ => none
  | .cls _ => none
def datL0 : List T → Option (List PyData)
  | [] => some []
  | t :: ts => match dat0 t, datL0 ts with
    | some d, some ds => some (d :: ds)
    | _, _ => none
end
def dat (cs : Cs) : T → Option PyData
  | .own k => match cs[k]? with
    | some (.lst ts) => (datL0 ts).map .list
    | _ => none
  | t => dat0 t
mutual
theorem dp_of {B : Book} {F H : Hp} {α : List Addr} (s : Same F H) {v : V} {t : T} {d : PyData} : Rep B F α v t → dat0 t = some d → Dp B.K H v d
  | .non, h => by cases h; exact .non
  | .bl b, h => by cases h; exact .bl b
  | .int i, h => by cases h; exact .int i
  | .str x, h => by cases h; exact .str x
  | .lst (ts := ts) hq hr, h => by
    have h : (datL0 ts).map PyData.list = some d := h
    cases e : datL0 ts with
    | none => rw [e] at h; cases h
    | some ds => rw [e] at h; cases h; exact .lst (SqL.of (s _ _ hq)) (dpl_of s hr e)
  | .ro (ts := ts) hq hr, h => by
    have h : (datL0 ts).map PyData.list = some d := h
    cases e : datL0 ts with
    | none => rw [e] at h; cases h
    | some ds => rw [e] at h; cases h; exact .lst (s.seq hq) (dpl_of s hr e)
  | .tup (ts := ts) hq hr, h => by
    have h : (datL0 ts).map PyData.tuple = some d := h
    cases e : datL0 ts with
    | none => rw [e] at h; cases h
    | some ds => rw [e] at h; cases h; exact .tup (Ts.Same.sqt s hq) (dpl_of s hr e)
  | .obj _ _ _, h => by cases h
  | .own _, h => by cases h
  | .cls _, h => by cases h
theorem dpl_of {B : Book} {F H : Hp} {α : List Addr} (s : Same F H) {vs : List V} {ts : List T} {ds : List PyData} : RepL B F α vs ts → datL0 ts = some ds → DpAll B.K H vs ds
  | .nil, h => by cases h; exact .nil
  | .cons (t := t) (ts := ts) r rr, h => by
    have h : (match dat0 t, datL0 ts with | some d, some ds => some (d :: ds) | _, _ => none) = some ds := h
    cases e1 : dat0 t with
    | none => rw [e1] at h; cases h
    | some d =>
      cases e2 : datL0 ts with
      | none => rw [e1, e2] at h; cases h
      | some ds' =>
        rw [e1, e2] at h
        cases h
        exact .cons (dp_of s r e1) (dpl_of s rr e2)
end
theorem dp_at {B : Book} {G : Hp} {F H : Hp} {α : List Addr} {cs : Cs} {v : V} {t : T} {d : PyData} (r : Rep B F α v t) (hs : Hs B G F H α cs) (h : dat cs t = some d) : Dp B.K H v d := by
  have r0 := r
  cases r with
  | @own a k hk =>
    have h : (match cs[k]? with | some (.lst ts) => (datL0 ts).map PyData.list | _ => none) = some d := h
    cases hc : cs[k]? with
    | none => rw [hc] at h; cases h
    | some c =>
      rw [hc] at h
      cases c with
      | lst ts =>
        obtain ⟨vs, h1, h2⟩ := hs.cell k a _ hk hc
        have h : (datL0 ts).map PyData.list = some d := h
        cases e : datL0 ts with
        | none => rw [e] at h; cases h
        | some ds =>
          rw [e] at h
          cases h
          exact .lst (SqL.of h1) (dpl_of hs.same h2 e)
      | _ => cases h
  | _ => exact dp_of hs.same r0 h
/-- the list that a value is, wherever it stands -/
def lstOf (cs : Cs) : T → Option (List T)
  | .lst ts => some ts
  | .ro ts => some ts
  | .own k => match cs[k]? with
    | some (.lst ts) => some ts
    | _ => none
  | _ => none
theorem lst_at {B : Book} {G : Hp} {F H : Hp} {α : List Addr} {cs : Cs} {v : V} {t : T} {ts : List T} (r : Rep B F α v t) (hs : Hs B G F H α cs) (h : lstOf cs t = some ts) : ∃ a vs, v = .ref a ∧ SqL B.K H a vs ∧ RepL B F α vs ts := by
  cases r with
  | lst hq hr => cases h; exact ⟨_, _, rfl, SqL.of (hs.same _ _ hq), hr⟩
  | ro hq hr => cases h; exact ⟨_, _, rfl, hs.same.seq hq, hr⟩
  | @own a k hk =>
    have h : (match cs[k]? with | some (.lst ts) => some ts | _ => none) = some ts := h
    cases hc : cs[k]? with
    | none => rw [hc] at h; cases h
    | some c =>
      rw [hc] at h
      cases c with
      | lst us =>
        cases h
        obtain ⟨vs, h1, h2⟩ := hs.cell k a _ hk hc
        exact ⟨a, vs, rfl, SqL.of h1, h2⟩
      | _ => cases h
  | _ => cases h
/-- a list that is tracked -/
def lstTr (cs : Cs) : T → Option (List T)
  | .lst ts => some ts
  | .own k => match cs[k]? with
    | some (.lst ts) => some ts
    | _ => none
  | _ => none
theorem lstTr_at {B : Book} {G : Hp} {F H : Hp} {α : List Addr} {cs : Cs} {v : V} {t : T} {ts : List T} (r : Rep B F α v t) (hs : Hs B G F H α cs) (h : lstTr cs t = some ts) : ∃ a vs, v = .ref a ∧ H a = some (.lst vs) ∧ RepL B F α vs ts := by
  cases r with
  | lst hq hr => cases h; exact ⟨_, _, rfl, hs.same _ _ hq, hr⟩
  | @own a k hk =>
    have h : (match cs[k]? with | some (.lst ts) => some ts | _ => none) = some ts := h
    cases hc : cs[k]? with
    | none => rw [hc] at h; cases h
    | some c =>
      rw [hc] at h
      cases c with
      | lst us =>
        cases h
        obtain ⟨vs, h1, h2⟩ := hs.cell k a _ hk hc
        exact ⟨a, vs, rfl, h1, h2⟩
      | _ => cases h
  | _ => cases h
/-- the items of a list or a tuple -/
def seqOf (cs : Cs) : T → Option (List T)
  | .tup ts => some ts
  | t => lstOf cs t
theorem seq_at {B : Book} {G : Hp} {F H : Hp} {α : List Addr} {cs : Cs} {v : V} {t : T} {ts : List T} (r : Rep B F α v t) (hs : Hs B G F H α cs) (h : seqOf cs t = some ts) : ∃ a vs, v = .ref a ∧ (SqL B.K H a vs ∨ SqT B.K H a vs) ∧ RepL B F α vs ts := by
  cases r with
  | tup hq hr => cases h; exact ⟨_, _, rfl, .inr (Ts.Same.sqt hs.same hq), hr⟩
  | lst a b => obtain ⟨a', vs, h1, h2, h3⟩ := lst_at (.lst a b) hs h; exact ⟨a', vs, h1, .inl h2, h3⟩
  | ro a b => obtain ⟨a', vs, h1, h2, h3⟩ := lst_at (.ro a b) hs h; exact ⟨a', vs, h1, .inl h2, h3⟩
  | own a => obtain ⟨a', vs, h1, h2, h3⟩ := lst_at (.own a) hs h; exact ⟨a', vs, h1, .inl h2, h3⟩
  | _ => cases h
def flatT : T → Bool
  | .non => true
  | .bl _ => true
  | .int _ => true
  | .str _ => true
  | _ => false
def atomV : T → V
  | .bl b => .bl b
  | .int i => .int i
  | .str x => .str x
  | _ => .non
theorem flat_at {B : Book} {F : Hp} {α : List Addr} {v : V} {t : T} (r : Rep B F α v t) (h : flatT t = true) : v = atomV t ∧ flatV v = true := by
  cases r <;> first | exact ⟨rfl, rfl⟩ | cases h
theorem flats_at {B : Book} {F : Hp} {α : List Addr} {vs : List V} {ts : List T} (r : RepL B F α vs ts) (h : ts.all flatT = true) : vs = ts.map atomV ∧ vs.all flatV = true := by
  induction ts generalizing vs with
  | nil => cases r; exact ⟨rfl, rfl⟩
  | cons t ts ih =>
    cases r with
    | cons r rr =>
      rw [List.all_cons, Bool.and_eq_true] at h
      obtain ⟨e1, e2⟩ := flat_at r h.1
      obtain ⟨e3, e4⟩ := ih rr h.2
      exact ⟨by rw [e1, e3]; rfl, by rw [List.all_cons, e2, e4]; rfl⟩

section
variable {B : Book} {G : Hp} {X : Cx} {W : XK}
/-! ### arithmetic -/
def addT (t u : T) : M T := fun cs => match t, u with
  | .int i, .int j => some (.ok (.int (i + j)), cs)
  | .str a, .str b => if a.length + b.length ≤ sizeLine then some (.ok (.str (a ++ b)), cs) else none
  | .tup xs, .tup ys => if xs.length + ys.length ≤ sizeLine then some (.ok (.tup (xs ++ ys)), cs) else none
  | t, u => match lstTr cs t, lstTr cs u with
    | some xs, some ys => if xs.length + ys.length ≤ sizeLine then some (.ok (.lst (xs ++ ys)), cs) else none
    | _, _ => none
theorem o_addL {H F : Hp} {α : List Addr} {cs cs' : Cs} {x y : V} {t u : T} {o : Out T} (rx : Rep B F α x t) (ry : Rep B F α y u) (hs : Hs B G F H α cs)
    (hm : (match lstTr cs t, lstTr cs u with | some xs, some ys => if xs.length + ys.length ≤ sizeLine then some (Out.ok (T.lst (xs ++ ys)), cs) else none | _, _ => none) = some (o, cs')) {Q : VK} (q : PostE B G F α Q W o cs') : uOp X (binaryOp .Add) x y H Q := by
  cases e1 : lstTr cs t with
  | none => rw [e1] at hm; cases hm
  | some xs =>
    cases e2 : lstTr cs u with
    | none => rw [e1, e2] at hm; cases hm
    | some ys =>
      rw [e1, e2] at hm
      have hm : (if xs.length + ys.length ≤ sizeLine then some (Out.ok (T.lst (xs ++ ys)), cs) else none) = some (o, cs') := hm
      by_cases hz : xs.length + ys.length ≤ sizeLine
      · rw [if_pos hz] at hm
        cases hm
        obtain ⟨a, vs, rfl, h1, r1⟩ := lstTr_at rx hs e1
        obtain ⟨b, ws, rfl, h2, r2⟩ := lstTr_at ry hs e2
        refine ⟨_, op_cat, a, b, vs, ws, rfl, rfl, h1, h2, by rw [r1.length, r2.length]; exact hz, fun p np => ?_⟩
        obtain ⟨s1, x1⟩ := hs.frozen (o := .lst (vs ++ ws)) np
        exact q _ _ _ _ x1 s1 (.lst upd_same ((r1.append r2).ext x1))
      · rw [if_neg hz] at hm; cases hm
theorem RepL.nil_iff {F : Hp} {α : List Addr} {vs : List V} {ts : List T} (r : RepL B F α vs ts) : vs = [] ↔ ts = [] := by
  cases r <;> simp
theorem o_add (hK : X.K = B.K) : SimO B G X W (binaryOp .Add) addT := by
  intro H F α cs x y t u o cs' rx ry hs hm Q q
  have rx0 := rx
  have ry0 := ry
  cases rx with
  | int i =>
    cases ry with
    | int j =>
      cases hm
      exact ⟨_, op_add, i, j, rfl, rfl, q.here hs (.int _)⟩
    | _ => exact o_addL rx0 ry0 hs hm q
  | str a =>
    cases ry with
    | str b =>
      have hm : (if a.length + b.length ≤ sizeLine then some (Out.ok (T.str (a ++ b)), cs) else none) = some (o, cs') := hm
      by_cases hz : a.length + b.length ≤ sizeLine
      · rw [if_pos hz] at hm
        cases hm
        exact ⟨_, op_add_str, a, b, rfl, rfl, hz, q.here hs (.str _)⟩
      · rw [if_neg hz] at hm; cases hm
    | _ => exact o_addL rx0 ry0 hs hm q
  | @tup a vs xs hq hr =>
    cases ry with
    | @tup b ws ys hq2 hr2 =>
      have hm : (if xs.length + ys.length ≤ sizeLine then some (Out.ok (T.tup (xs ++ ys)), cs) else none) = some (o, cs') := hm
      by_cases hz : xs.length + ys.length ≤ sizeLine
      · rw [if_pos hz] at hm
        cases hm
        have h1 := Ts.Same.sqt hs.same hq
        have h2 := Ts.Same.sqt hs.same hq2
        rw [← hK] at h1 h2
        refine ⟨_, op_catA, a, b, vs, ws, rfl, rfl, h1, h2, by rw [hr.length, hr2.length]; exact hz, fun e => ?_, fun _ e => ?_, fun _ _ p np => ?_⟩
        · rw [hr.nil_iff.mp e, List.nil_append] at q
          exact q.here hs (.tup hq2 hr2)
        · rw [hr2.nil_iff.mp e, List.append_nil] at q
          exact q.here hs (.tup hq hr)
        · obtain ⟨s1, x1⟩ := hs.frozen (o := .tup (vs ++ ws)) np
          exact q _ _ _ _ x1 s1 (.tup (SqT.of upd_same) ((hr.append hr2).ext x1))
      · rw [if_neg hz] at hm; cases hm
    | _ => exact o_addL rx0 ry0 hs hm q
  | _ => exact o_addL rx0 ry0 hs hm q
def intT (c : Int → Int → Bool) (f : Int → Int → T) (t u : T) : M T := fun cs => match t, u with
  | .int i, .int j => if c i j = true then some (.ok (f i j), cs) else none
  | _, _ => none
theorem o_int {f : Value → Value → Sem Value} {C : Int → Int → Prop} {c : Int → Int → Bool} {g : Int → Int → V} {k : Int → Int → T} (h : OpR X f (rI C g)) (hc : ∀ i j, c i j = true → C i j) (hr : ∀ i j F α, Rep B F α (g i j) (k i j)) : SimO B G X W f (intT c k) := by
  intro H F α cs x y t u o cs' rx ry hs hm Q q
  cases rx with
  | int i =>
    cases ry with
    | int j =>
      have hm : (if c i j = true then some (Out.ok (k i j), cs) else none) = some (o, cs') := hm
      by_cases e : c i j = true
      · rw [if_pos e] at hm
        cases hm
        exact ⟨_, h, i, j, rfl, rfl, hc i j e, q.here hs (hr i j F α)⟩
      · rw [if_neg e] at hm; cases hm
    | _ => cases hm
  | _ => cases hm
def intT0 (f : Int → Int → T) (t u : T) : M T := fun cs => match t, u with
  | .int i, .int j => some (.ok (f i j), cs)
  | _, _ => none
theorem o_int0 {f : Value → Value → Sem Value} {g : Int → Int → V} {k : Int → Int → T} (h : OpR X f (rI0 g)) (hr : ∀ i j F α, Rep B F α (g i j) (k i j)) : SimO B G X W f (intT0 k) := by
  intro H F α cs x y t u o cs' rx ry hs hm Q q
  cases rx with
  | int i =>
    cases ry with
    | int j =>
      cases hm
      exact ⟨_, h, i, j, rfl, rfl, q.here hs (hr i j F α)⟩
    | _ => cases hm
  | _ => cases hm
abbrev subT := intT0 fun i j => .int (i - j)
theorem o_sub : SimO B G X W (binaryOp .Sub) subT := o_int0 op_sub fun _ _ _ _ => .int _
def small (i : Int) : Bool := decide (-(2 ^ 64) < i ∧ i < 2 ^ 64)
def mulT (t u : T) : M T := fun cs => match t, u with
  | .int i, .int j => if (small i || small j) = true then some (.ok (.int (i * j)), cs) else none
  | .tup xs, .int k => if xs ≠ [] ∧ 2 ≤ k ∧ k ≤ 1000 ∧ xs.length ≤ 1000 then some (.ok (.tup (List.replicate k.toNat xs).flatten), cs) else none
  | _, _ => none
theorem RepL.repl {F : Hp} {α : List Addr} {vs : List V} {ts : List T} (r : RepL B F α vs ts) : ∀ n : Nat, RepL B F α (List.replicate n vs).flatten (List.replicate n ts).flatten
  | 0 => .nil
  | n + 1 => by
    rw [List.replicate_succ, List.flatten_cons, List.replicate_succ, List.flatten_cons]
    exact r.append (r.repl n)
theorem o_mul (hK : X.K = B.K) : SimO B G X W (binaryOp .Mult) mulT := by
  intro H F α cs x y t u o cs' rx ry hs hm Q q
  cases rx with
  | int i =>
    cases ry with
    | int j =>
      have hm : (if (small i || small j) = true then some (Out.ok (T.int (i * j)), cs) else none) = some (o, cs') := hm
      by_cases e : (small i || small j) = true
      · rw [if_pos e] at hm
        cases hm
        refine ⟨_, op_mul, i, j, rfl, rfl, ?_, q.here hs (.int _)⟩
        rcases Bool.or_eq_true_iff.mp e with e | e
        · exact .inl (of_decide_eq_true e)
        · exact .inr (of_decide_eq_true e)
      · rw [if_neg e] at hm; cases hm
    | _ => cases hm
  | @tup a vs xs hq hr =>
    cases ry with
    | int k =>
      have hm : (if xs ≠ [] ∧ 2 ≤ k ∧ k ≤ 1000 ∧ xs.length ≤ 1000 then some (Out.ok (T.tup (List.replicate k.toNat xs).flatten), cs) else none) = some (o, cs') := hm
      by_cases e : xs ≠ [] ∧ 2 ≤ k ∧ k ≤ 1000 ∧ xs.length ≤ 1000
      · rw [if_pos e] at hm
        cases hm
        have h1 := Ts.Same.sqt hs.same hq
        rw [← hK] at h1
        refine ⟨_, op_repT, a, k, vs, rfl, rfl, h1, fun z => e.1 (hr.nil_iff.mp z), e.2.1, e.2.2.1, by rw [hr.length]; exact e.2.2.2, fun p np => ?_⟩
        obtain ⟨s1, x1⟩ := hs.frozen (o := .tup (List.replicate k.toNat vs).flatten) np
        exact q _ _ _ _ x1 s1 (.tup (SqT.of upd_same) ((hr.repl _).ext x1))
      · rw [if_neg e] at hm; cases hm
    | _ => cases hm
  | _ => cases hm
abbrev modT := intT (fun _ j => decide (0 < j)) fun i j => .int (i % j)
theorem o_mod : SimO B G X W (binaryOp .Mod) modT := o_int op_mod (fun _ _ e => of_decide_eq_true e) fun _ _ _ _ => .int _
abbrev divT := intT (fun _ j => decide (0 < j) && small j) fun i j => .int (i / j)
theorem o_div : SimO B G X W (binaryOp .FloorDiv) divT := o_int op_fdivW (fun i j e => by
  obtain ⟨e1, e2⟩ := Bool.and_eq_true_iff.mp e
  have h1 := of_decide_eq_true e1
  have h2 := of_decide_eq_true e2
  exact wide_div (b := 64) h1 (by omega) (by decide) (by decide)) fun _ _ _ _ => .int _
abbrev powT := intT (fun i j => decide (0 ≤ j ∧ j ≤ 1000000 ∧ i.natAbs < 2 ^ 64)) fun i j => .int (i ^ j.toNat)
theorem o_pow : SimO B G X W (binaryOp .Pow) powT := o_int op_pow (fun i j e => (of_decide_eq_true e : 0 ≤ j ∧ j ≤ 1000000 ∧ i.natAbs < 2 ^ 64)) fun _ _ _ _ => .int _
def mNeg (m : ME) : ME := fun env => (m env).bind fun t => fun cs => match t with
  | .int i => some (.ok (.int (-i)), cs)
  | _ => none
theorem s_neg {a : Expr} {pos : Pos} {m : ME} (h : SimE B G X W a m) : SimE B G X W (.UnaryOp .USub a pos) (mNeg m) := by
  intro σ H F α env cs o cs' he hs hm Q q
  refine ⟨_, pe_un un_neg (pe_u X a), ?_⟩
  refine h.then he hs hm q.exn fun t cs1 v H1 F1 α1 h1 e1 s1 r1 => ?_
  cases r1 with
  | int i =>
    cases h1
    exact ⟨i, rfl, (q.ext e1).here s1 (.int _)⟩
  | _ => cases h1
/-! ### comparisons -/
abbrev ltT := intT0 fun i j => .bl (decide (i < j))
abbrev leT := intT0 fun i j => .bl (decide (i ≤ j))
abbrev gtT := intT0 fun i j => .bl (decide (j < i))
abbrev geT := intT0 fun i j => .bl (decide (j ≤ i))
theorem o_lt : SimO B G X W (compareOp .Lt) ltT := o_int0 op_lt fun _ _ _ _ => .bl _
theorem o_le : SimO B G X W (compareOp .LtE) leT := o_int0 op_le fun _ _ _ _ => .bl _
theorem o_gt : SimO B G X W (compareOp .Gt) gtT := o_int0 op_gt fun _ _ _ _ => .bl _
theorem o_ge : SimO B G X W (compareOp .GtE) geT := o_int0 op_ge fun _ _ _ _ => .bl _
def eqvD (cs : Cs) (t u : T) : Option Bool := match dat cs t, dat cs u with
  | some d, some e => if (SeqAt.shaped d && SeqAt.shaped e) = true then some (PyData.eqv d e) else none
  | _, _ => none
theorem eqvD_some {cs : Cs} {t u : T} {b : Bool} (h : eqvD cs t u = some b) : ∃ d e, dat cs t = some d ∧ dat cs u = some e ∧ SeqAt.shaped d = true ∧ SeqAt.shaped e = true ∧ b = PyData.eqv d e := by
  unfold eqvD at h
  cases e1 : dat cs t with
  | none => rw [e1] at h; cases h
  | some d =>
    cases e2 : dat cs u with
    | none => rw [e1, e2] at h; cases h
    | some e =>
      rw [e1, e2] at h
      have h : (if (SeqAt.shaped d && SeqAt.shaped e) = true then some (PyData.eqv d e) else none) = some b := h
      by_cases hc : (SeqAt.shaped d && SeqAt.shaped e) = true
      · rw [if_pos hc] at h
        cases h
        obtain ⟨h1, h2⟩ := Bool.and_eq_true_iff.mp hc
        exact ⟨d, e, rfl, rfl, h1, h2, rfl⟩
      · rw [if_neg hc] at h; cases h
/-- two texts are asked as they are; all else as data -/
def eqvT (cs : Cs) (t u : T) : Option Bool := match t, u with
  | .str a, .str b => some (a == b)
  | t, u => eqvD cs t u
theorem eqvT_cases {cs : Cs} {t u : T} {r : Bool} (h : eqvT cs t u = some r) : (∃ a b, t = .str a ∧ u = .str b ∧ r = (a == b)) ∨ eqvD cs t u = some r := by
  unfold eqvT at h
  split at h
  · exact .inl ⟨_, _, rfl, rfl, (Option.some.inj h).symm⟩
  · exact .inr h
theorem eqvT_D {cs : Cs} {t u : T} (h : ∀ a, t ≠ .str a) : eqvT cs t u = eqvD cs t u := by
  cases t with
  | str a => exact absurd rfl (h a)
  | _ => rfl
theorem dec_strV {a b : Str} : decide (V.str a = V.str b) = (a == b) := by
  rw [Bool.eq_iff_iff]
  simp
@[irreducible] def eqT (t u : T) : M T := fun cs => (eqvT cs t u).map fun b => (.ok (.bl b), cs)
@[irreducible] def neT (t u : T) : M T := fun cs => (eqvT cs t u).map fun b => (.ok (.bl (!b)), cs)
theorem o_eq (hK : X.K = B.K) (hu : X.A.units + 64 < cLine) : SimO B G X W (compareOp .Eq) eqT := by
  intro H F α cs x y t u o cs' rx ry hs hm Q q
  unfold eqT at hm
  cases e : eqvT cs t u with
  | none => rw [e] at hm; cases hm
  | some b =>
    rw [e] at hm
    cases hm
    rcases eqvT_cases e with ⟨a, b2, rfl, rfl, rfl⟩ | e
    · cases rx with
      | str =>
        cases ry with
        | str => exact ⟨_, op_eq, rfl, by rw [dec_strV]; exact q.here hs (.bl _)⟩
    · obtain ⟨d, d2, h1, h2, h3, h4, rfl⟩ := eqvD_some e
      refine ⟨_, op_eqD hu, d, d2, ?_, ?_, h3, h4, q.here hs (.bl _)⟩
      · rw [hK]; exact dp_at rx hs h1
      · rw [hK]; exact dp_at ry hs h2
theorem o_ne (hK : X.K = B.K) (hu : X.A.units + 64 < cLine) : SimO B G X W (compareOp .NotEq) neT := by
  intro H F α cs x y t u o cs' rx ry hs hm Q q
  unfold neT at hm
  cases e : eqvT cs t u with
  | none => rw [e] at hm; cases hm
  | some b =>
    rw [e] at hm
    cases hm
    rcases eqvT_cases e with ⟨a, b2, rfl, rfl, rfl⟩ | e
    · cases rx with
      | str =>
        cases ry with
        | str => exact ⟨_, op_ne, rfl, by rw [dec_strV]; exact q.here hs (.bl _)⟩
    · obtain ⟨d, d2, h1, h2, h3, h4, rfl⟩ := eqvD_some e
      refine ⟨_, op_neD hu, d, d2, ?_, ?_, h3, h4, q.here hs (.bl _)⟩
      · rw [hK]; exact dp_at rx hs h1
      · rw [hK]; exact dp_at ry hs h2
def isNon : T → Bool
  | .non => true
  | _ => false
theorem isNon_at {F : Hp} {α : List Addr} {v : V} {t : T} (r : Rep B F α v t) : decide (v = .non) = isNon t := by
  cases r <;> simp [isNon]
/-- is: None, or two bools -/
def isT (t u : T) : M T := fun cs => match u with
  | .non => some (.ok (.bl (isNon t)), cs)
  | .bl b => match t with
    | .bl a => some (.ok (.bl (decide (a = b))), cs)
    | _ => none
  | _ => none
def isntT (t u : T) : M T := fun cs => match u with
  | .non => some (.ok (.bl (!isNon t)), cs)
  | .bl b => match t with
    | .bl a => some (.ok (.bl (!decide (a = b))), cs)
    | _ => none
  | _ => none
theorem o_is : SimO B G X W (compareOp .Is) isT := by
  intro H F α cs x y t u o cs' rx ry hs hm Q q
  cases ry with
  | non =>
    cases hm
    exact ⟨_, op_isN, rfl, by rw [isNon_at rx]; exact q.here hs (.bl _)⟩
  | bl b =>
    cases rx with
    | bl a =>
      cases hm
      exact ⟨_, op_isBl, a, b, rfl, rfl, q.here hs (.bl _)⟩
    | _ => cases hm
  | _ => cases hm
theorem o_isnt : SimO B G X W (compareOp .IsNot) isntT := by
  intro H F α cs x y t u o cs' rx ry hs hm Q q
  cases ry with
  | non =>
    cases hm
    exact ⟨_, op_notN, rfl, by rw [isNon_at rx]; exact q.here hs (.bl _)⟩
  | bl b =>
    cases rx with
    | bl a =>
      cases hm
      exact ⟨_, op_notBl, a, b, rfl, rfl, q.here hs (.bl _)⟩
    | _ => cases hm
  | _ => cases hm
/-- in a list or a tuple of atoms; one sign in a text -/
def sign? (x : Str) : Option Nat := match x.cps.toList with
  | [c] => some c
  | _ => none
theorem sign_of {x : Str} {c : Nat} (h : sign? x = some c) : x = ⟨#[c]⟩ := by
  unfold sign? at h
  split at h
  · rename_i c' e
    cases h
    obtain ⟨a⟩ := x
    have : a.toList = [c] := e
    have : a = #[c] := by rw [← Array.toList_inj]; exact this
    rw [this]
  · cases h
def inB (cs : Cs) (t u : T) : Option Bool := match u with
  | .str z => match t with
    | .str x => match sign? x with
      | some c => some (decide (c ∈ z.cps.toList))
      | none => none
    | _ => none
  | u => match seqOf cs u with
    | some ts => if (flatT t && ts.all flatT) = true then some (inV (atomV t) (ts.map atomV)) else none
    | none => none
theorem in_seq {H F : Hp} {α : List Addr} {cs : Cs} {x y : V} {t u : T} {b : Bool} (rx : Rep B F α x t) (ry : Rep B F α y u) (hs : Hs B G F H α cs)
    (hm : (match seqOf cs u with | some ts => if (flatT t && ts.all flatT) = true then some (inV (atomV t) (ts.map atomV)) else none | none => none) = some b) :
    ∃ p xs, y = .ref p ∧ (SqL B.K H p xs ∨ SqT B.K H p xs) ∧ flatV x = true ∧ xs.all flatV = true ∧ inV x xs = b := by
  cases e : seqOf cs u with
  | none => rw [e] at hm; cases hm
  | some ts =>
    rw [e] at hm
    have hm : (if (flatT t && ts.all flatT) = true then some (inV (atomV t) (ts.map atomV)) else none) = some b := hm
    by_cases hc : (flatT t && ts.all flatT) = true
    · rw [if_pos hc] at hm
      cases hm
      obtain ⟨h1, h2⟩ := Bool.and_eq_true_iff.mp hc
      obtain ⟨p, vs, rfl, hq, hr⟩ := seq_at ry hs e
      obtain ⟨g1, g2⟩ := flat_at rx h1
      obtain ⟨g3, g4⟩ := flats_at hr h2
      exact ⟨p, vs, rfl, hq, g2, g4, by rw [g1, g3]⟩
    · rw [if_neg hc] at hm; cases hm
def inT (t u : T) : M T := fun cs => (inB cs t u).map fun b => (.ok (.bl b), cs)
def ninT (t u : T) : M T := fun cs => (inB cs t u).map fun b => (.ok (.bl (!b)), cs)
theorem inB_some {H F : Hp} {α : List Addr} {cs : Cs} {x y : V} {t u : T} {b : Bool} (rx : Rep B F α x t) (ry : Rep B F α y u) (hs : Hs B G F H α cs) (h : inB cs t u = some b) :
    (∃ c z, x = .str ⟨#[c]⟩ ∧ y = .str z ∧ b = decide (c ∈ z.cps.toList)) ∨ ∃ p xs, y = .ref p ∧ (SqL B.K H p xs ∨ SqT B.K H p xs) ∧ flatV x = true ∧ xs.all flatV = true ∧ inV x xs = b := by
  have ry0 := ry
  cases ry with
  | str z =>
    cases rx with
    | str x =>
      have h : (match sign? x with | some c => some (decide (c ∈ z.cps.toList)) | none => none) = some b := h
      cases e : sign? x with
      | none => rw [e] at h; cases h
      | some c =>
        rw [e] at h
        cases h
        rw [sign_of e]
        exact .inl ⟨c, z, rfl, rfl, rfl⟩
    | _ => cases h
  | _ => exact .inr (in_seq rx ry0 hs h)
theorem o_in (hK : X.K = B.K) : SimO B G X W (compareOp .In) inT := by
  intro H F α cs x y t u o cs' rx ry hs hm Q q
  unfold inT at hm
  cases e : inB cs t u with
  | none => rw [e] at hm; cases hm
  | some b =>
    rw [e] at hm
    cases hm
    rcases inB_some rx ry hs e with ⟨c, z, rfl, rfl, rfl⟩ | ⟨p, xs, rfl, h1, h2, h3, rfl⟩
    · exact ⟨_, op_in_sign, c, z, rfl, rfl, q.here hs (.bl _)⟩
    · rw [← hK] at h1
      exact ⟨_, op_in_seq, p, xs, rfl, h1, h2, h3, q.here hs (.bl _)⟩
theorem o_nin (hK : X.K = B.K) : SimO B G X W (compareOp .NotIn) ninT := by
  intro H F α cs x y t u o cs' rx ry hs hm Q q
  unfold ninT at hm
  cases e : inB cs t u with
  | none => rw [e] at hm; cases hm
  | some b =>
    rw [e] at hm
    cases hm
    rcases inB_some rx ry hs e with ⟨c, z, rfl, rfl, rfl⟩ | ⟨p, xs, rfl, h1, h2, h3, rfl⟩
    · exact ⟨_, op_notIn_sign, c, z, rfl, rfl, q.here hs (.bl _)⟩
    · rw [← hK] at h1
      exact ⟨_, op_notIn_seq, p, xs, rfl, h1, h2, h3, q.here hs (.bl _)⟩
/-! ### a < b <= c -/
def mChain (r r' : T → T → M T) (a b c : ME) : ME := fun env => (a env).bind fun t => (b env).bind fun u => (r t u).bind fun z => match z with
  | .bl true => (c env).bind fun w => r' u w
  | .bl false => M.ret (.bl false)
  | _ => M.fail
end
end Tv

namespace Tv
open PySem L2
section
variable {B : Book} {G : Hp} {X : Cx} {W : XK}
/-! ### chains -/
theorem chain_go {a b c : Expr} {op op' : CmpOp} {r r' : T → T → M T} {ma mb mc : ME} (ho : SimO B G X W (compareOp op) r) (ho' : SimO B G X W (compareOp op') r') (ha : SimE B G X W a ma) (hb : SimE B G X W b mb) (hc : SimE B G X W c mc)
    {σ : L2.St} {H F : Hp} {α : List Addr} {env : Env} {cs cs' : Cs} {o : Out T} (he : EnvOk B F α σ env) (hs : Hs B G F H α cs) (hm : mChain r r' ma mb mc env cs = some (o, cs')) {Q : VK} (q : PostE B G F α Q W o cs') : tChain (uOp X (compareOp op)) (uOp X (compareOp op')) (uE X a) (uE X b) (uE X c) σ H Q := by
  refine ha.then he hs hm q.exn fun t cs1 v H1 F1 α1 h1 e1 s1 r1 => ?_
  refine hb.then (he.ext e1) s1 h1 (q.ext e1).exn fun u cs2 w H2 F2 α2 h2 e2 s2 r2 => ?_
  rcases bind_some h2 with ⟨z, cs3, h3, h4⟩ | ⟨c', x, h3, rfl⟩
  · refine ho H2 F2 α2 cs2 v w t u _ _ (r1.ext e2) r2 s2 h3 _ fun zv H3 F3 α3 e3 s3 r3 => ?_
    cases r3 with
    | bl k =>
      refine ⟨k, rfl, ?_⟩
      cases k with
      | true =>
        rw [if_pos rfl]
        refine hc.then (((he.ext e1).ext e2).ext e3) s3 h4 (((q.ext e1).ext e2).ext e3).exn fun y cs4 yv H4 F4 α4 h5 e4 s4 r4 => ?_
        exact ho' H4 F4 α4 cs4 w yv u y o cs' ((r2.ext e3).ext e4) r4 s4 h5 Q ((((q.ext e1).ext e2).ext e3).ext e4)
      | false =>
        rw [if_neg Bool.false_ne_true]
        cases h4
        exact (((q.ext e1).ext e2).ext e3).here s3 (.bl false)
    | _ => cases h4
  · exact ho H2 F2 α2 cs2 v w t u _ _ (r1.ext e2) r2 s2 h3 _ ((q.ext e1).ext e2)
theorem s_chain {a b c : Expr} {op op' : CmpOp} {pos : Pos} {r r' : T → T → M T} {ma mb mc : ME} (ho : SimO B G X W (compareOp op) r) (ho' : SimO B G X W (compareOp op') r') (ha : SimE B G X W a ma) (hb : SimE B G X W b mb) (hc : SimE B G X W c mc)
    (hk : lastMarks [op, op'] [b, c] = false := by with_unfolding_all rfl) : SimE B G X W (.Compare a [op, op'] [b, c] pos) (mChain r r' ma mb mc) := by
  intro σ H F α env cs o cs' he hs hm Q q
  exact ⟨_, pe_chain (op_u X _) (op_u X _) (pe_u X a) (pe_u X b) (pe_u X c) hk, chain_go ho ho' ha hb hc he hs hm q⟩
theorem mTst_post {F : Hp} {α : List Addr} {o : Out Bool} {cs' : Cs} {Q : Bool → Hp → Prop} (q : PostT B G F α Q W o cs') {m : ME} {env : Env} {cs : Cs} (h : mTst m env cs = some (o, cs')) :
    ∃ o1 cs1, m env cs = some (o1, cs1) ∧ PostE B G F α (fun z H' => ∃ k, z = .bl k ∧ Q k H') W o1 cs1 := by
  rcases bind_some h with ⟨t, cs1, h1, h2⟩ | ⟨c, x, h1, rfl⟩
  · refine ⟨_, _, h1, fun v H1 F1 α1 e1 s1 r1 => ?_⟩
    cases r1 with
    | bl b =>
      cases h2
      exact ⟨b, rfl, q H1 F1 α1 e1 s1⟩
    | _ => cases h2
  · exact ⟨_, _, h1, fun H1 F1 α1 d e1 s1 r1 => q H1 F1 α1 d e1 s1 r1⟩
theorem w_chain {a b c : Expr} {op op' : CmpOp} {pos : Pos} {r r' : T → T → M T} {ma mb mc : ME} (ho : SimO B G X W (compareOp op) r) (ho' : SimO B G X W (compareOp op') r') (ha : SimE B G X W a ma) (hb : SimE B G X W b mb) (hc : SimE B G X W c mc)
    (hk : lastMarks [op, op'] [b, c] = false := by with_unfolding_all rfl) : SimT B G X W (.Compare a [op, op'] [b, c] pos) (mTst (mChain r r' ma mb mc)) := by
  intro σ H F α env cs o cs' he hs hm Q q
  obtain ⟨o1, cs1, h1, q1⟩ := mTst_post q hm
  exact ⟨_, pt_chain (op_u X _) (op_u X _) (pe_u X a) (pe_u X b) (pe_u X c) hk, chain_go ho ho' ha hb hc he hs h1 q1⟩
/-! ### bool values by and, or, not -/
def mAndV (a b : ME) : ME := fun env => (a env).bind fun t => match t with
  | .bl true => b env
  | .bl false => M.ret (.bl false)
  | _ => M.fail
def mOrV (a b : ME) : ME := fun env => (a env).bind fun t => match t with
  | .bl true => M.ret (.bl true)
  | .bl false => b env
  | _ => M.fail
theorem s_one {op} {a : Expr} {pos : Pos} {m : ME} (h : SimE B G X W a m) : SimE B G X W (.BoolOp op [a] pos) m := by
  intro σ H F α env cs o cs' he hs hm Q q
  exact ⟨_, pe_one (pe_u X a), h σ H F α env cs o cs' he hs hm Q q⟩
theorem s_and {a b : Expr} {rest : List Expr} {pos : Pos} {ma mb : ME} (ha : SimE B G X W a ma) (hb : SimE B G X W (.BoolOp .And (b :: rest) pos) mb) : SimE B G X W (.BoolOp .And (a :: b :: rest) pos) (mAndV ma mb) := by
  intro σ H F α env cs o cs' he hs hm Q q
  refine ⟨_, pe_and (pe_u X a) (pe_u X _), ?_⟩
  refine ha.then he hs hm q.exn fun t cs1 v H1 F1 α1 h1 e1 s1 r1 => ?_
  cases r1 with
  | bl k =>
    refine ⟨k, rfl, ?_⟩
    cases k with
    | true =>
      rw [if_pos rfl]
      exact hb σ H1 F1 α1 env cs1 o cs' (he.ext e1) s1 h1 Q (q.ext e1)
    | false =>
      rw [if_neg Bool.false_ne_true]
      cases h1
      exact (q.ext e1).here s1 (.bl false)
  | _ => cases h1
theorem s_or {a b : Expr} {rest : List Expr} {pos : Pos} {ma mb : ME} (ha : SimE B G X W a ma) (hb : SimE B G X W (.BoolOp .Or (b :: rest) pos) mb) : SimE B G X W (.BoolOp .Or (a :: b :: rest) pos) (mOrV ma mb) := by
  intro σ H F α env cs o cs' he hs hm Q q
  refine ⟨_, pe_or (pe_u X a) (pe_u X _), ?_⟩
  refine ha.then he hs hm q.exn fun t cs1 v H1 F1 α1 h1 e1 s1 r1 => ?_
  cases r1 with
  | bl k =>
    refine ⟨k, rfl, ?_⟩
    cases k with
    | true =>
      rw [if_pos rfl]
      cases h1
      exact (q.ext e1).here s1 (.bl true)
    | false =>
      rw [if_neg Bool.false_ne_true]
      exact hb σ H1 F1 α1 env cs1 o cs' (he.ext e1) s1 h1 Q (q.ext e1)
  | _ => cases h1
def mNotV (m : ME) : ME := fun env => (m env).bind fun t => match t with
  | .bl b => M.ret (.bl (!b))
  | _ => M.fail
theorem s_not {a : Expr} {pos : Pos} {m : ME} (h : SimE B G X W a m) : SimE B G X W (.UnaryOp .Not a pos) (mNotV m) := by
  intro σ H F α env cs o cs' he hs hm Q q
  refine ⟨_, pe_not (pe_u X a), ?_⟩
  refine h.then he hs hm q.exn fun t cs1 v H1 F1 α1 h1 e1 s1 r1 => ?_
  cases r1 with
  | bl k =>
    cases h1
    exact ⟨k, rfl, (q.ext e1).here s1 (.bl _)⟩
  | _ => cases h1
/-- a test whose value is a bool, of a call, a name, .. -/
theorem w_val {e : Expr} {m : ME} (h : SimE B G X W e m) (hp : ∀ whole, isTrue e X.env whole = (do let v ← whole; standAt e.pos; holding [v] (truthy v)) := by intro _; rfl) : SimT B G X W e (mTst m) := by
  intro σ H F α env cs o cs' he hs hm Q q
  obtain ⟨o1, cs1, h1, q1⟩ := mTst_post q hm
  exact ⟨_, pt_val (pe_u X e) hp, h σ H F α env cs o1 cs1 he hs h1 _ q1⟩
/-! ### items -/
def uIx (X : Cx) : R2 := fun x y H Q => ∃ r, IxR X r ∧ r x y H Q
theorem ix_u (X : Cx) : IxR X (uIx X) := fun value slice pins s σ H x y v u Q I rx ry ⟨_, h, q⟩ hs => h value slice pins s σ H x y v u Q I rx ry q hs
def ixT (t u : T) : M T := fun cs => match u with
  | .int i => match t with
    | .str z => if z.length ≤ sizeLine then (atI z.cps.toList i).map fun c => (.ok (.str ⟨#[c]⟩), cs) else none
    | t => match seqOf cs t with
      | some ts => (atI ts i).map fun w => (.ok w, cs)
      | none => none
  | _ => none
theorem RepL.atI {F : Hp} {α : List Addr} {vs : List V} {ts : List T} {i : Int} {t : T} (r : RepL B F α vs ts) (h : L2.atI ts i = some t) : ∃ v, L2.atI vs i = some v ∧ Rep B F α v t := by
  unfold L2.atI at h ⊢
  rw [r.length]
  cases e : ixN ts.length i with
  | none => rw [e] at h; cases h
  | some j =>
    rw [e] at h
    exact r.get h
theorem ix_seq (hK : X.K = B.K) {H F : Hp} {α : List Addr} {cs cs' : Cs} {x : V} {t : T} {i : Int} {o : Out T} (rx : Rep B F α x t) (hs : Hs B G F H α cs)
    (hm : (match seqOf cs t with | some ts => (L2.atI ts i).map fun w => (Out.ok w, cs) | none => none) = some (o, cs')) {Q : VK} (q : PostE B G F α Q W o cs') : uIx X x (.int i) H Q := by
  cases e : seqOf cs t with
  | none => rw [e] at hm; cases hm
  | some ts =>
    rw [e] at hm
    have hm : ((L2.atI ts i).map fun w => (Out.ok w, cs)) = some (o, cs') := hm
    cases e2 : L2.atI ts i with
    | none => rw [e2] at hm; cases hm
    | some w =>
      rw [e2] at hm
      cases hm
      obtain ⟨a, vs, rfl, hq, hr⟩ := seq_at rx hs e
      obtain ⟨v, h1, h2⟩ := hr.atI e2
      rw [← hK] at hq
      rcases hq with hq | hq
      · exact ⟨_, ix_list, a, vs, i, v, rfl, rfl, hq, h1, q.here hs h2⟩
      · exact ⟨_, ix_tup, a, vs, i, v, rfl, rfl, hq, h1, q.here hs h2⟩
theorem ix_go (hK : X.K = B.K) {H F : Hp} {α : List Addr} {cs cs' : Cs} {x y : V} {t u : T} {o : Out T} (rx : Rep B F α x t) (ry : Rep B F α y u) (hs : Hs B G F H α cs) (hm : ixT t u cs = some (o, cs')) {Q : VK} (q : PostE B G F α Q W o cs') : uIx X x y H Q := by
  cases ry with
  | int i =>
    have rx0 := rx
    cases rx with
    | str z =>
      have hm : (if z.length ≤ sizeLine then (L2.atI z.cps.toList i).map fun c => (Out.ok (T.str ⟨#[c]⟩), cs) else none) = some (o, cs') := hm
      by_cases hz : z.length ≤ sizeLine
      · rw [if_pos hz] at hm
        cases e2 : L2.atI z.cps.toList i with
        | none => rw [e2] at hm; cases hm
        | some c =>
          rw [e2] at hm
          cases hm
          exact ⟨_, ix_str, z, i, c, rfl, rfl, hz, e2, q.here hs (.str _)⟩
      · rw [if_neg hz] at hm; cases hm
    | _ => exact ix_seq hK rx0 hs hm q
  | _ => cases hm
theorem s_ix {a b : Expr} {pos : Pos} {ma mb : ME} (hK : X.K = B.K) (ha : SimE B G X W a ma) (hb : SimE B G X W b mb) (hp : PlainIx b := by exact fun _ _ => rfl) : SimE B G X W (.Subscript a b pos) (mOp ixT ma mb) := by
  intro σ H F α env cs o cs' he hs hm Q q
  refine ⟨_, pe_ix (ix_u X) (pe_u X a) (pe_u X b) hp, ?_⟩
  refine ha.then he hs hm q.exn fun t cs1 v H1 F1 α1 h1 e1 s1 r1 => ?_
  refine hb.then (he.ext e1) s1 h1 (q.ext e1).exn fun u cs2 w H2 F2 α2 h2 e2 s2 r2 => ?_
  exact ix_go hK (r1.ext e2) r2 s2 h2 ((q.ext e1).ext e2)
/-! ### slices -/
abbrev MO := Env → M (Option Int)
def uSl (X : Cx) : V → Option Int → Option Int → Hp → VK → Prop := fun x l u H Q => ∃ r, SlR X r ∧ r x l u H Q
def PostO (B : Book) (G : Hp) (F : Hp) (α : List Addr) (Q : Option Int → Hp → Prop) (W : XK) (o : Out (Option Int)) (cs : Cs) : Prop :=
  match o with
  | .ok i => ∀ H' F' α', Ext F α F' α' → Hs B G F' H' α' cs → Q i H'
  | .ex c x => ∀ H' F' α' d, Ext F α F' α' → Hs B G F' H' α' cs → ExAt B F' α' H' c x d → W (.ref (B.at_ c)) d H'
def uO (X : Cx) (e : Option Expr) : TO := fun σ H Q => ∃ t, PO X e t ∧ t σ H Q
theorem po_u (X : Cx) (e : Option Expr) : PO X e (uO X e) := ⟨fun pins s σ H Q I ⟨_, h, q⟩ => h.run pins s σ H Q I q⟩
def SimP (B : Book) (G : Hp) (X : Cx) (W : XK) (e : Option Expr) (m : MO) : Prop := ∀ σ H F α env cs o cs', EnvOk B F α σ env → Hs B G F H α cs → m env cs = some (o, cs') → ∀ Q : Option Int → Hp → Prop, PostO B G F α Q W o cs' → uO X e σ H Q
def oNone : MO := fun _ cs => some (.ok none, cs)
theorem p_none : SimP B G X W none oNone := by
  intro σ H F α env cs o cs' he hs hm Q q
  cases hm
  exact ⟨_, po_none, q H F α (Ext.refl _ _) hs⟩
def oSome (m : ME) : MO := fun env => (m env).bind fun t => fun cs => match t with
  | .int i => some (.ok (some i), cs)
  | _ => none
theorem p_some {e : Expr} {m : ME} (h : SimE B G X W e m) : SimP B G X W (some e) (oSome m) := by
  intro σ H F α env cs o cs' he hs hm Q q
  refine ⟨_, po_some (pe_u X e), ?_⟩
  have qx : ∀ c x, o = .ex c x → ∀ H' F' α' d, Ext F α F' α' → Hs B G F' H' α' cs' → ExAt B F' α' H' c x d → W (.ref (B.at_ c)) d H' := fun c x e => by subst e; exact q
  refine h.then he hs hm qx fun t cs1 v H1 F1 α1 h1 e1 s1 r1 => ?_
  cases r1 with
  | int i =>
    cases h1
    exact ⟨i, rfl, q H1 F1 α1 e1 s1⟩
  | _ => cases h1
def cutT (ts : List T) (lo hi : Option Int) : List T := (ts.drop (HT.sIx ts.length 0 lo)).take (HT.sIx ts.length ts.length hi - HT.sIx ts.length 0 lo)
theorem RepL.cut {F : Hp} {α : List Addr} {vs : List V} {ts : List T} (r : RepL B F α vs ts) (lo hi : Option Int) : RepL B F α (cutV vs lo hi) (cutT ts lo hi) := by
  unfold cutV cutT
  rw [r.length]
  exact (r.drop _).take _
def slT (t : T) (lo hi : Option Int) : M T := fun cs => match t with
  | .str z => if z.length ≤ sizeLine then some (.ok (.str (cutS z lo hi)), cs) else none
  | .tup ts => some (.ok (.tup (cutT ts lo hi)), cs)
  | t => match lstOf cs t with
    | some ts => some (.ok (.lst (cutT ts lo hi)), cs)
    | none => none
def mSl (a : ME) (lo hi : MO) : ME := fun env => (a env).bind fun t => (lo env).bind fun l => (hi env).bind fun u => slT t l u
theorem RepL.whole {F : Hp} {α : List Addr} {vs : List V} {ts : List T} {lo hi : Option Int} (r : RepL B F α vs ts) (h : HT.sIx vs.length 0 lo = 0 ∧ HT.sIx vs.length vs.length hi = vs.length) : cutT ts lo hi = ts := by
  unfold cutT
  rw [← r.length, h.1, h.2, List.drop_zero, Nat.sub_zero, r.length, List.take_length]
theorem sl_go (hK : X.K = B.K) {H F : Hp} {α : List Addr} {cs cs' : Cs} {x : V} {t : T} {lo hi : Option Int} {o : Out T} (rx : Rep B F α x t) (hs : Hs B G F H α cs) (hm : slT t lo hi cs = some (o, cs')) {Q : VK} (q : PostE B G F α Q W o cs') : uSl X x lo hi H Q := by
  have key : ∀ {t' : T}, Rep B F α x t' → (match lstOf cs t' with | some ts => some (Out.ok (T.lst (cutT ts lo hi)), cs) | none => none) = some (o, cs') → uSl X x lo hi H Q := fun {t'} r hm => by
    cases e : lstOf cs t' with
    | none => rw [e] at hm; cases hm
    | some ts =>
      rw [e] at hm
      cases hm
      obtain ⟨a, vs, rfl, hq, hr⟩ := lst_at r hs e
      rw [← hK] at hq
      refine ⟨_, sl_list, a, vs, rfl, hq, fun p np => ?_⟩
      obtain ⟨s1, x1⟩ := hs.frozen (o := .lst (cutV vs lo hi)) np
      exact q _ _ _ _ x1 s1 (.lst upd_same ((hr.cut lo hi).ext x1))
  have rx0 := rx
  cases rx with
  | str z =>
    have hm : (if z.length ≤ sizeLine then some (Out.ok (T.str (cutS z lo hi)), cs) else none) = some (o, cs') := hm
    by_cases hz : z.length ≤ sizeLine
    · rw [if_pos hz] at hm
      cases hm
      exact ⟨_, sl_str, z, rfl, hz, q.here hs (.str _)⟩
    · rw [if_neg hz] at hm; cases hm
  | @tup a vs ts hq hr =>
    cases hm
    have h1 := Ts.Same.sqt hs.same hq
    rw [← hK] at h1
    refine ⟨_, sl_tupA, a, vs, rfl, h1, fun e => ?_, fun _ p np => ?_⟩
    · rw [hr.whole e] at q
      exact q.here hs (.tup hq hr)
    · obtain ⟨s1, x1⟩ := hs.frozen (o := .tup (cutV vs lo hi)) np
      exact q _ _ _ _ x1 s1 (.tup (SqT.of upd_same) ((hr.cut lo hi).ext x1))
  | _ => exact key rx0 hm
theorem sl_u (X : Cx) : SlR X (uSl X) := fun pins s σ H x v vl vu lo hi sl Q I rx hs pl pu ⟨_, h, q⟩ => h pins s σ H x v vl vu lo hi sl Q I rx hs pl pu q
theorem s_sl {a : Expr} {lo hi : Option Expr} {p2 pos : Pos} {ma : ME} {ml mh : MO} (hK : X.K = B.K) (ha : SimE B G X W a ma) (hl : SimP B G X W lo ml) (hh : SimP B G X W hi mh) : SimE B G X W (.Subscript a (.Slice lo hi none p2) pos) (mSl ma ml mh) := by
  intro σ H F α env cs o cs' he hs hm Q q
  refine ⟨_, pe_slice (sl_u X) (pe_u X a) (po_u X lo) (po_u X hi), ?_⟩
  refine ha.then he hs hm q.exn fun t cs1 v H1 F1 α1 h1 e1 s1 r1 => ?_
  rcases bind_some h1 with ⟨l, cs2, h2, h3⟩ | ⟨c, x, h2, rfl⟩
  · refine hl σ H1 F1 α1 env cs1 _ _ (he.ext e1) s1 h2 _ fun H2 F2 α2 e2 s2 => ?_
    rcases bind_some h3 with ⟨u, cs3, h4, h5⟩ | ⟨c, x, h4, rfl⟩
    · refine hh σ H2 F2 α2 env cs2 _ _ ((he.ext e1).ext e2) s2 h4 _ fun H3 F3 α3 e3 s3 => ?_
      exact sl_go hK ((r1.ext e2).ext e3) s3 h5 (((q.ext e1).ext e2).ext e3)
    · exact hh σ H2 F2 α2 env cs2 _ _ ((he.ext e1).ext e2) s2 h4 _ ((q.ext e1).ext e2)
  · exact hl σ H1 F1 α1 env cs1 _ _ (he.ext e1) s1 h2 _ (q.ext e1)
/-! ### arguments, displays -/
abbrev MA := Env → M (List T)
def aNil : MA := fun _ cs => some (.ok [], cs)
theorem a_nil : SimA B G X W [] aNil := by
  intro σ H F α env cs o cs' he hs hm Q q
  cases hm
  exact ⟨_, pa_nil, q [] H F α (Ext.refl _ _) hs .nil⟩
def aCons (m : ME) (r : MA) : MA := fun env => (m env).bind fun t => (r env).bind fun ts => M.ret (t :: ts)
theorem a_cons {e : Expr} {es : List Expr} {m : ME} {r : MA} (h : SimE B G X W e m) (hr : SimA B G X W es r) (hs' : starEach (e :: es) X.env = (false, eval e X.env) :: starEach es X.env := by rfl) : SimA B G X W (e :: es) (aCons m r) := by
  intro σ H F α env cs o cs' he hs hm Q q
  refine ⟨_, pa_cons (pe_u X e) (pa_u X es) hs', ?_⟩
  refine h.then he hs hm q.exn fun t cs1 v H1 F1 α1 h1 e1 s1 r1 => ?_
  refine hr.then (he.ext e1) s1 h1 (q.ext e1).exn fun ts cs2 vs H2 F2 α2 h2 e2 s2 r2 => ?_
  cases h2
  exact q (v :: vs) H2 F2 α2 (e1.trans e2) s2 (.cons (r1.ext e2) r2)
def aStar (m : ME) (r : MA) : MA := fun env => (m env).bind fun t => (r env).bind fun ts => fun cs => match seqOf cs t with
  | some us => some (.ok (us ++ ts), cs)
  | none => none
theorem tStar_def (K : PySem.W.Frag) (te : TE) (t : TA) : L2.tNil = L2.tNil := rfl
def mTup (a : MA) : ME := fun env => (a env).bind fun ts => fun cs => if ts.length ≤ sizeLine then some (.ok (.tup ts), cs) else none
theorem s_tup {es : List Expr} {x1} {pos : Pos} {a : MA} (h : SimA B G X W es a) : SimE B G X W (.Tuple es x1 pos) (mTup a) := by
  intro σ H F α env cs o cs' he hs hm Q q
  refine ⟨_, pe_tup (pa_u X es), ?_⟩
  refine h.then he hs hm q.exn fun ts cs1 vs H1 F1 α1 h1 e1 s1 r1 => ?_
  by_cases hz : ts.length ≤ sizeLine
  · rw [if_pos hz] at h1
    cases h1
    refine ⟨by rw [r1.length]; exact hz, fun p np => ?_⟩
    obtain ⟨s2, x2⟩ := s1.frozen (o := .tup vs) np
    exact q _ _ _ _ (e1.trans x2) s2 (.tup (SqT.of upd_same) (r1.ext x2))
  · rw [if_neg hz] at h1; cases h1
def mLst (a : MA) : ME := fun env => (a env).bind fun ts => fun cs => if ts.length ≤ sizeLine then some (.ok (.lst ts), cs) else none
theorem s_lst {es : List Expr} {pos : Pos} {a : MA} (h : SimA B G X W es a) : SimE B G X W (.List es pos) (mLst a) := by
  intro σ H F α env cs o cs' he hs hm Q q
  refine ⟨_, pe_lst (pa_u X es), ?_⟩
  refine h.then he hs hm q.exn fun ts cs1 vs H1 F1 α1 h1 e1 s1 r1 => ?_
  by_cases hz : ts.length ≤ sizeLine
  · rw [if_pos hz] at h1
    cases h1
    refine ⟨by rw [r1.length]; exact hz, fun p np => ?_⟩
    obtain ⟨s2, x2⟩ := s1.frozen (o := .lst vs) np
    exact q _ _ _ _ (e1.trans x2) s2 (.lst upd_same (r1.ext x2))
  · rw [if_neg hz] at h1; cases h1
/-- .. that will be changed -/
def mLstO (a : MA) : ME := fun env => (a env).bind fun ts => fun cs => if ts.length ≤ sizeLine then some (.ok (.own cs.length), cs ++ [.lst ts]) else none
theorem s_lstO {es : List Expr} {pos : Pos} {a : MA} (h : SimA B G X W es a) : SimE B G X W (.List es pos) (mLstO a) := by
  intro σ H F α env cs o cs' he hs hm Q q
  refine ⟨_, pe_lst (pa_u X es), ?_⟩
  refine h.then he hs hm q.exn fun ts cs1 vs H1 F1 α1 h1 e1 s1 r1 => ?_
  by_cases hz : ts.length ≤ sizeLine
  · rw [if_pos hz] at h1
    cases h1
    refine ⟨by rw [r1.length]; exact hz, fun p np => ?_⟩
    obtain ⟨s2, x2⟩ := s1.owned (o := .lst vs) (c := .lst ts) np ⟨vs, upd_same, r1.mono (Same.refl _) (List.prefix_append _ _)⟩
    refine q _ _ _ _ (e1.trans x2) s2 (.own ?_)
    rw [← s1.len, List.getElem?_append_right (Nat.le_refl _), Nat.sub_self]
    rfl
  · rw [if_neg hz] at h1; cases h1
/-! ### built-ins by name -/
def mCall (r : List T → M T) (a : MA) : ME := fun env => (a env).bind r
theorem s_callB {id : String} {x : Str} {e : Expr} {es : List Expr} {p pos : Pos} {r : List T → M T} {a : MA} (hc : SimC B G X W (.builtin id) r) (hg : Gl X x) (hm : X.mg x = none) (hv : bootBuiltins x = some (.builtin id)) (ha : SimA B G X W (e :: es) a)
    (hp : PE X (.Call (.Name x p) (e :: es) [] pos) (tCB (uCl X (.builtin id)) (uA X (e :: es)))) : SimE B G X W (.Call (.Name x p) (e :: es) [] pos) (mCall r a) := by
  intro σ H F α env cs o cs' he hs hm' Q q
  refine ⟨_, hp, ?_⟩
  refine ha.then he hs hm' q.exn fun ts cs1 vs H1 F1 α1 h1 e1 s1 r1 => ?_
  exact hc H1 F1 α1 cs1 vs ts o cs' r1 s1 h1 Q (q.ext e1)
theorem s_call {f : Value} {st : Expr} {es : List Expr} {r : List T → M T} {a : MA} (hc : SimC B G X W f r) (ha : SimA B G X W es a) (hp : PE X st (tCB (uCl X f) (uA X es))) : SimE B G X W st (mCall r a) := by
  intro σ H F α env cs o cs' he hs hm' Q q
  refine ⟨_, hp, ?_⟩
  refine ha.then he hs hm' q.exn fun ts cs1 vs H1 F1 α1 h1 e1 s1 r1 => ?_
  exact hc H1 F1 α1 cs1 vs ts o cs' r1 s1 h1 Q (q.ext e1)
def lenC (ts : List T) : M T := fun cs => match ts with
  | [.str z] => if z.length ≤ sizeLine then some (.ok (.int z.length), cs) else none
  | [t] => match seqOf cs t with
    | some us => some (.ok (.int us.length), cs)
    | none => none
  | _ => none
theorem RepL.one {F : Hp} {α : List Addr} {vs : List V} {t : T} (r : RepL B F α vs [t]) : ∃ v, vs = [v] ∧ Rep B F α v t := by
  cases r with
  | cons h r => cases r; exact ⟨_, rfl, h⟩
theorem RepL.two {F : Hp} {α : List Addr} {vs : List V} {t u : T} (r : RepL B F α vs [t, u]) : ∃ v w, vs = [v, w] ∧ Rep B F α v t ∧ Rep B F α w u := by
  cases r with
  | cons h r =>
    obtain ⟨w, rfl, hw⟩ := r.one
    exact ⟨_, w, rfl, h, hw⟩
theorem c_len (hK : X.K = B.K) : SimC B G X W (.builtin "len") lenC := by
  intro H F α cs xs ts o cs' r hs hm Q q
  match ts, r, hm with
  | [], r, hm => cases hm
  | [t], r, hm =>
    obtain ⟨v, rfl, rt⟩ := r.one
    have key : ∀ {t' : T}, Rep B F α v t' → (match seqOf cs t' with | some us => some (Out.ok (T.int us.length), cs) | none => none) = some (o, cs') → uCl X (.builtin "len") [v] H Q := fun {t'} r hm => by
      cases e : seqOf cs t' with
      | none => rw [e] at hm; cases hm
      | some us =>
        rw [e] at hm
        cases hm
        obtain ⟨a, vs, rfl, hq, hr⟩ := seq_at r hs e
        rw [← hK] at hq
        exact ⟨_, call_len_seq, a, vs, rfl, hq, by rw [hr.length]; exact q.here hs (.int _)⟩
    have rt0 := rt
    cases rt with
    | str z =>
      have hm : (if z.length ≤ sizeLine then some (Out.ok (T.int z.length), cs) else none) = some (o, cs') := hm
      by_cases hz : z.length ≤ sizeLine
      · rw [if_pos hz] at hm
        cases hm
        exact ⟨_, call_len_str, z, rfl, hz, q.here hs (.int _)⟩
      · rw [if_neg hz] at hm; cases hm
    | _ => exact key rt0 hm
  | t :: u :: ts, r, hm => cases t <;> cases hm
def absC (ts : List T) : M T := fun cs => match ts with
  | [.int i] => some (.ok (.int (if i < 0 then -i else i)), cs)
  | _ => none
theorem c_abs : SimC B G X W (.builtin "abs") absC := by
  intro H F α cs xs ts o cs' r hs hm Q q
  unfold absC at hm
  split at hm
  · cases hm
    obtain ⟨v, rfl, rt⟩ := r.one
    cases rt
    exact ⟨_, call_abs, _, rfl, q.here hs (.int _)⟩
  · cases hm
def maxC (ts : List T) : M T := fun cs => match ts with
  | [.int i, .int j] => some (.ok (.int (if j > i then j else i)), cs)
  | _ => none
theorem c_max2 (hc : X.calm = true) : SimC B G X W (.builtin "max") maxC := by
  intro H F α cs xs ts o cs' r hs hm Q q
  unfold maxC at hm
  split at hm
  · cases hm
    obtain ⟨v, w, rfl, r1, r2⟩ := r.two
    cases r1
    cases r2
    exact ⟨_, call_max2 hc, _, _, rfl, q.here hs (.int _)⟩
  · cases hm
def minC (ts : List T) : M T := fun cs => match ts with
  | [.int i, .int j] => some (.ok (.int (if j < i then j else i)), cs)
  | _ => none
theorem c_min2 (hc : X.calm = true) : SimC B G X W (.builtin "min") minC := by
  intro H F α cs xs ts o cs' r hs hm Q q
  unfold minC at hm
  split at hm
  · cases hm
    obtain ⟨v, w, rfl, r1, r2⟩ := r.two
    cases r1
    cases r2
    exact ⟨_, call_min2 hc, _, _, rfl, q.here hs (.int _)⟩
  · cases hm
/-- int of an int, of a text of digits -/
def intC (ts : List T) : M T := fun cs => match ts with
  | [.int i] => some (.ok (.int i), cs)
  | [.str x] => if x.length ≤ 640 then (PySem.intText? x).map fun n => (.ok (.int n), cs) else none
  | [.bl k] => some (.ok (.int (if k = true then 1 else 0)), cs)
  | _ => none
theorem c_int : SimC B G X W (.type "int") intC := by
  intro H F α cs xs ts o cs' r hs hm Q q
  unfold intC at hm
  split at hm
  · cases hm
    obtain ⟨v, rfl, rt⟩ := r.one
    cases rt
    exact ⟨_, call_int1, .inl ⟨_, rfl, q.here hs (.int _)⟩⟩
  · rename_i x
    obtain ⟨v, rfl, rt⟩ := r.one
    cases rt
    by_cases hx : x.length ≤ 640
    · rw [if_pos hx] at hm
      cases e : PySem.intText? x with
      | none => rw [e] at hm; cases hm
      | some n =>
        rw [e] at hm
        cases hm
        exact ⟨_, call_int_str, x, n, rfl, e, hx, q.here hs (.int _)⟩
    · rw [if_neg hx] at hm; cases hm
  · cases hm
    obtain ⟨v, rfl, rt⟩ := r.one
    cases rt
    exact ⟨_, call_int1, .inr ⟨_, rfl, q.here hs (.int _)⟩⟩
  · cases hm
def strC (ts : List T) : M T := fun cs => match ts with
  | [.int i] => if i.natAbs.log2 < 1920 then some (.ok (.str (toString i)), cs) else none
  | [.str x] => some (.ok (.str x), cs)
  | _ => none
theorem c_str : SimC B G X W (.type "str") strC := by
  intro H F α cs xs ts o cs' r hs hm Q q
  unfold strC at hm
  split at hm
  · rename_i i
    obtain ⟨v, rfl, rt⟩ := r.one
    cases rt
    by_cases hi : i.natAbs.log2 < 1920
    · rw [if_pos hi] at hm
      cases hm
      exact ⟨_, call_str_int, i, rfl, hi, q.here hs (.str _)⟩
    · rw [if_neg hi] at hm; cases hm
  · rename_i x
    cases hm
    obtain ⟨v, rfl, rt⟩ := r.one
    cases rt
    exact ⟨_, Ts.call_strIS, .inr ⟨x, rfl, q.here hs (.str _)⟩⟩
  · cases hm
def listC (ts : List T) : M T := fun cs => match ts with
  | [t] => match seqOf cs t with
    | some us => some (.ok (.lst us), cs)
    | none => none
  | _ => none
theorem c_list (hK : X.K = B.K) : SimC B G X W (.type "list") listC := by
  intro H F α cs xs ts o cs' r hs hm Q q
  unfold listC at hm
  split at hm
  · rename_i t
    obtain ⟨v, rfl, rt⟩ := r.one
    cases e : seqOf cs t with
    | none => rw [e] at hm; cases hm
    | some us =>
      rw [e] at hm
      cases hm
      obtain ⟨a, vs, rfl, hq, hr⟩ := seq_at rt hs e
      rw [← hK] at hq
      refine ⟨_, call_list_of, a, vs, rfl, hq, fun p np => ?_⟩
      obtain ⟨s1, x1⟩ := hs.frozen (o := .lst vs) np
      exact q _ _ _ _ x1 s1 (.lst upd_same (hr.ext x1))
  · cases hm
/-- .. that will be changed -/
def listOC (ts : List T) : M T := fun cs => match ts with
  | [t] => match seqOf cs t with
    | some us => some (.ok (.own cs.length), cs ++ [.lst us])
    | none => none
  | _ => none
theorem c_listO (hK : X.K = B.K) : SimC B G X W (.type "list") listOC := by
  intro H F α cs xs ts o cs' r hs hm Q q
  unfold listOC at hm
  split at hm
  · rename_i t
    obtain ⟨v, rfl, rt⟩ := r.one
    cases e : seqOf cs t with
    | none => rw [e] at hm; cases hm
    | some us =>
      rw [e] at hm
      cases hm
      obtain ⟨a, vs, rfl, hq, hr⟩ := seq_at rt hs e
      rw [← hK] at hq
      refine ⟨_, call_list_of, a, vs, rfl, hq, fun p np => ?_⟩
      obtain ⟨s1, x1⟩ := hs.owned (o := .lst vs) (c := .lst us) np ⟨vs, upd_same, hr.mono (Same.refl _) (List.prefix_append _ _)⟩
      refine q _ _ _ _ x1 s1 (.own ?_)
      rw [← hs.len, List.getElem?_append_right (Nat.le_refl _), Nat.sub_self]
      rfl
  · cases hm
def tupC (ts : List T) : M T := fun cs => match ts with
  | [t] => match seqOf cs t with
    | some us => some (.ok (.tup us), cs)
    | none => none
  | _ => none
theorem c_tup (hK : X.K = B.K) : SimC B G X W (.type "tuple") tupC := by
  intro H F α cs xs ts o cs' r hs hm Q q
  unfold tupC at hm
  split at hm
  · rename_i t
    obtain ⟨v, rfl, rt⟩ := r.one
    cases e : seqOf cs t with
    | none => rw [e] at hm; cases hm
    | some us =>
      rw [e] at hm
      cases hm
      have key : ∀ {t' : T}, Rep B F α v t' → lstOf cs t' = some us → uCl X (.type "tuple") [v] H Q := fun {t'} rt0 e => by
        obtain ⟨a, vs, rfl, hq, hr⟩ := lst_at rt0 hs e
        rw [← hK] at hq
        refine ⟨_, call_tuple_of, _, vs, rfl, .inl ⟨hq, fun p np => ?_⟩⟩
        obtain ⟨s1, x1⟩ := hs.frozen (o := .tup vs) np
        exact q _ _ _ _ x1 s1 (.tup (SqT.of upd_same) (hr.ext x1))
      have rt0 := rt
      cases rt with
      | tup hq hr =>
        cases e
        have h1 := Ts.Same.sqt hs.same hq
        rw [← hK] at h1
        exact ⟨_, call_tuple_of, _, _, rfl, .inr ⟨h1, q.here hs (.tup hq hr)⟩⟩
      | _ => first | (cases e; done) | exact key rt0 (show lstOf cs _ = some us from e)
  · cases hm
/-- all, any of bools -/
def blT : T → Option Bool
  | .bl b => some b
  | _ => none
def blsT : List T → Option (List Bool)
  | [] => some []
  | t :: ts => match blT t, blsT ts with
    | some b, some bs => some (b :: bs)
    | _, _ => none
theorem bls_at {F : Hp} {α : List Addr} {vs : List V} {ts : List T} {bs : List Bool} (r : RepL B F α vs ts) (h : blsT ts = some bs) : vs = bs.map V.bl := by
  induction ts generalizing vs bs with
  | nil => cases h; cases r; rfl
  | cons t ts ih =>
    cases r with
    | cons rt rr =>
      cases rt with
      | bl b =>
        have h : (match blsT ts with | some bs => some (b :: bs) | none => none) = some bs := by
          unfold blsT at h
          cases e : blsT ts with
          | none => rw [e] at h; cases h
          | some l => rw [e] at h; exact h
        cases e : blsT ts with
        | none => rw [e] at h; cases h
        | some l =>
          rw [e] at h
          cases h
          rw [ih rr e]
          rfl
      | _ => cases h
def quC (f : List Bool → Bool) (ts : List T) : M T := fun cs => match ts with
  | [t] => match lstOf cs t with
    | some us => (blsT us).map fun bs => (.ok (.bl (f bs)), cs)
    | none => none
  | _ => none
abbrev allC := quC fun bs => bs.all id
abbrev anyC := quC fun bs => bs.any id
theorem qu_at {H F : Hp} {α : List Addr} {cs cs' : Cs} {xs : List V} {ts : List T} {o : Out T} {f : List Bool → Bool} (r : RepL B F α xs ts) (hs : Hs B G F H α cs) (hm : quC f ts cs = some (o, cs')) : ∃ (a : Addr) (bs : List Bool), xs = [.ref a] ∧ SqL B.K H a (bs.map V.bl) ∧ o = .ok (.bl (f bs)) ∧ cs' = cs := by
  unfold quC at hm
  split at hm
  · rename_i t
    obtain ⟨v, rfl, rt⟩ := r.one
    cases e : lstOf cs t with
    | none => rw [e] at hm; cases hm
    | some us =>
      rw [e] at hm
      have hm : ((blsT us).map fun bs => (Out.ok (T.bl (f bs)), cs)) = some (o, cs') := hm
      cases e2 : blsT us with
      | none => rw [e2] at hm; cases hm
      | some bs =>
        rw [e2] at hm
        cases hm
        obtain ⟨a, vs, rfl, hq, hr⟩ := lst_at rt hs e
        rw [bls_at hr e2] at hq
        exact ⟨a, bs, rfl, hq, rfl, rfl⟩
  · cases hm
theorem c_all (hK : X.K = B.K) (hc : X.calm = true) : SimC B G X W (.builtin "all") allC := by
  intro H F α cs xs ts o cs' r hs hm Q q
  obtain ⟨a, bs, rfl, hq, rfl, rfl⟩ := qu_at r hs hm
  rw [← hK] at hq
  exact ⟨_, cr_all hc, a, bs, rfl, hq, q.here hs (.bl _)⟩
theorem c_any (hK : X.K = B.K) (hc : X.calm = true) : SimC B G X W (.builtin "any") anyC := by
  intro H F α cs xs ts o cs' r hs hm Q q
  obtain ⟨a, bs, rfl, hq, rfl, rfl⟩ := qu_at r hs hm
  rw [← hK] at hq
  exact ⟨_, cr_any hc, a, bs, rfl, hq, q.here hs (.bl _)⟩
end
end Tv

namespace Tv
open PySem L2
/-! ### defs -/
/-- what a def promises: it does as its meaning says -/
def spM (B : Book) (m : List T → M T) : Sp := fun vs H Q E => ∃ G F α cs ts o cs', Hs B G F H α cs ∧ RepL B F α vs ts ∧ m ts cs = some (o, cs') ∧ PostE B G F α Q E o cs'
/-- the meaning of a def with np parameters and n names: that of its body -/
def mDef (np n : Nat) (mb : SM) (ts : List T) : M T := fun cs => if ts.length = np then match mb (ts.map some ++ List.replicate (n - ts.length) none) cs with
  | some (.nx _, cs') => some (.ok .non, cs')
  | some (.rt t, cs') => some (.ok t, cs')
  | some (.ex c x, cs') => some (.ex c x, cs')
  | _ => none
  else none
theorem mDef_len {np n : Nat} {mb : SM} {ts : List T} {cs : Cs} {r} (h : mDef np n mb ts cs = some r) : ts.length = np := by
  unfold mDef at h
  by_cases e : ts.length = np
  · exact e
  · rw [if_neg e] at h; cases h
section
variable {P : Program} {w : World} {K : PySem.W.Frag} {mg : Str → Option Value} {base : Heap} {B : Book} {G : Hp}
theorem body_ok {X : Cx} {E : XK} {body : List Stmt} {np n : Nat} {mb : SM} {N : List Str} (hN : N.length = n) (hb : ∀ G, SimB B G X E body mb) {vs : List V} {H : Hp} {Q : VK} (h : spM B (mDef np n mb) vs H Q E) :
    uSs X body { nx := fun _ H' => Q .non H', rt := Q } (start N vs) H := by
  obtain ⟨G, F, α, cs, ts, o, cs', hs, hr, hm, q⟩ := h
  have hl := mDef_len hm
  unfold mDef at hm
  rw [if_pos hl] at hm
  have he : EnvOk B F α (start N vs) (ts.map some ++ List.replicate (n - ts.length) none) := by
    rw [← hN]
    exact hr.start
  cases e : mb (ts.map some ++ List.replicate (n - ts.length) none) cs with
  | none => rw [e] at hm; cases hm
  | some p =>
    obtain ⟨fl, cs1⟩ := p
    rw [e] at hm
    cases fl with
    | nx env =>
      cases hm
      exact hb G _ H F α _ cs _ _ he hs e _ fun σ' H' F' α' e1 s1 k1 => q .non H' F' α' e1 s1 .non
    | rt t =>
      cases hm
      exact hb G _ H F α _ cs _ _ he hs e _ fun v H' F' α' e1 s1 k1 => q v H' F' α' e1 s1 k1
    | ex c x =>
      cases hm
      exact hb G _ H F α _ cs _ _ he hs e _ q
    | bk env => cases hm
    | ct env => cases hm
/-- a def, by its body -/
theorem fn_M {x qual : Str} {st : Stmt} {f : Addr} {fd : FuncData} {N ps : List Str} {k : Nat} {mb : SM} (F : C8.Fun K x qual st f fd) (S : FnScope N ps (C8.fnScope st))
    (hb : ∀ (cdv : Value) (A : Around) (outer : List PySem.Env) (s : Shared) (H : Hp) (E : XK) (G : Hp), Room k (A.deeper (PyProof.Rows.envOfC qual (C8.fnScope st) s.heap.objs.size f cdv)) →
      SimB B G (cxOf (L2.CX P w) P w K mg base N qual (C8.fnScope st) f cdv A outer s H E) E (C8.fnBody st) mb) : FnOk P w K mg base (L2.CX P w) (k + 1) f fd ps (spM B (mDef ps.length N.length mb)) := by
  refine Ts.fnX F S (fun vs H Q E h => ?_) fun cdv A outer s H vs Q E hr h => ?_
  · obtain ⟨G, F, α, cs, ts, o, cs', hs, hr, hm, q⟩ := h
    rw [hr.length, mDef_len hm]
  · exact ⟨_, pss_u _ _, body_ok rfl (fun G => hb cdv A outer s H E G hr) h⟩
/-- the meaning in another form -/
theorem fn_as {f : Addr} {fd : FuncData} {ps : List Str} {k : Nat} {m m' : List T → M T} {CX : CXT} (F : FnOk P w K mg base CX k f fd ps (spM B m)) (h : ∀ ts cs r, m' ts cs = some r → m ts cs = some r) : FnOk P w K mg base CX k f fd ps (spM B m') :=
  F.imp fun vs H Q E ⟨G, F, α, cs, ts, o, cs', hs, hr, hm, q⟩ => ⟨G, F, α, cs, ts, o, cs', hs, hr, h ts cs _ hm, q⟩
end
/-! ### calls of defs -/
section
variable {B : Book} {G : Hp} {X : Cx} {W : XK} {k j : Nat} {x : Str} {m : List T → M T} {dvs : List V} {dts : List T} {e : Expr} {es : List Expr} {p pos : Pos} {a : MA}
def mCal (m : List T → M T) (dts : List T) (a : MA) : ME := fun env => (a env).bind fun ts => m (ts ++ dts)
theorem spM_of {F H : Hp} {α : List Addr} {cs cs' : Cs} {vs : List V} {ts : List T} {o : Out T} {Q : VK} (hs : Hs B G F H α cs) (r : RepL B F α vs ts) (h : m ts cs = some (o, cs')) (q : PostE B G F α Q W o cs') : spM B m vs H Q W := ⟨G, F, α, cs, ts, o, cs', hs, r, h, q⟩
theorem s_cal (c : Ts.CalX X.prog X.w X.K X.mg X.base k x (spM B m) dvs) (hd : ∀ F α, RepL B F α dvs dts) (hr : Room j X.A) (hk : k ≤ j) (hx : Passes (L2.CX X.prog X.w) X W) (hg : Gl X x) (ha : SimA B G X W (e :: es) a)
    (hdb : (x == ("__debug__" : Str)) = false := by decide) (he : starEach (e :: es) X.env = (false, eval e X.env) :: starEach es X.env := by rfl) (hpl : (backTo pos (starEach es X.env)).any (·.1) = false := by rfl) :
    SimE B G X W (.Call (.Name x p) (e :: es) [] pos) (mCal m dts a) := by
  intro σ H F α env cs o cs' hE hs hm Q q
  refine ⟨_, Ts.pe_cX c hr hk hx hg (pa_u X _) hdb he hpl, ?_⟩
  refine ha.then hE hs hm q.exn fun ts cs1 vs H1 F1 α1 h1 e1 s1 r1 => ?_
  exact spM_of s1 (r1.append (hd F1 α1)) h1 (q.ext e1)
theorem s_cal0 (c : Ts.CalX X.prog X.w X.K X.mg X.base k x (spM B m) dvs) (hd : ∀ F α, RepL B F α dvs dts) (hr : Room j X.A) (hk : k ≤ j) (hx : Passes (L2.CX X.prog X.w) X W) (hg : Gl X x)
    (hdb : (x == ("__debug__" : Str)) = false := by decide) : SimE B G X W (.Call (.Name x p) [] [] pos) (fun _ => m dts) := by
  intro σ H F α env cs o cs' hE hs hm Q q
  obtain ⟨f, fd, ps, ds, Fn, hmg, kp, b, d⟩ := c.ex
  exact ⟨_, pe_call0 Fn (hr.mono hk) hg hmg kp b d hx hdb, spM_of hs (hd F α) hm q⟩
end
/-! ### classes -/
structure ClsOk (B : Book) (c : Nat) : Prop where
  cl : Cls B.K (B.at_ c)
  nd : (B.names c).Nodup
  no : ∀ f ∈ B.names c, NoAttr B.K (B.at_ c) f
  few : (B.names c).length < 100
section
variable {B : Book} {G : Hp} {F H : Hp} {α : List Addr} {cs : Cs}
theorem lookup_zip {ns : List Str} {vs : List V} {i : Nat} {f : Str} {v : V} (nd : ns.Nodup) (hf : ns[i]? = some f) (hv : vs[i]? = some v) : (ns.zip vs).lookup f = some v := by
  induction ns generalizing vs i with
  | nil => simp at hf
  | cons n ns ih =>
    cases vs with
    | nil => simp at hv
    | cons u vs =>
      rw [List.nodup_cons] at nd
      cases i with
      | zero =>
        simp at hf hv
        subst hf hv
        simp [List.zip_cons_cons, List.lookup_cons]
      | succ i =>
        have hf' : ns[i]? = some f := by simpa using hf
        have hv' : vs[i]? = some v := by simpa using hv
        have ne : (f == n) = false := beq_eq_false_iff_ne.mpr fun e => nd.1 (e ▸ List.mem_of_getElem? hf')
        rw [List.zip_cons_cons, List.lookup_cons, ne]
        exact ih nd.2 hf' hv'
theorem lookup_zip_none {ns : List Str} {vs : List V} {f : Str} (h : f ∉ ns) : (ns.zip vs).lookup f = none := by
  induction ns generalizing vs with
  | nil => simp
  | cons n ns ih =>
    cases vs with
    | nil => simp
    | cons u vs =>
      have ne : (f == n) = false := beq_eq_false_iff_ne.mpr fun e => h (e ▸ List.mem_cons_self)
      rw [List.zip_cons_cons, List.lookup_cons, ne]
      exact ih fun z => h (List.mem_cons_of_mem _ z)
theorem putF_new {ns : List Str} {vs : List V} {f : Str} {v : V} (h : f ∉ ns) : putF f v (ns.zip vs) = ns.zip vs ++ [(f, v)] := by
  induction ns generalizing vs with
  | nil => rfl
  | cons n ns ih =>
    cases vs with
    | nil => rfl
    | cons u vs =>
      rw [List.zip_cons_cons]
      show (if n = f then _ else (n, u) :: putF f v (ns.zip vs)) = _
      rw [if_neg (fun e => h (by rw [e]; exact List.mem_cons_self)), ih fun z => h (List.mem_cons_of_mem _ z)]
      rfl
theorem putF_set {ns : List Str} {vs : List V} {f : Str} {v : V} {i : Nat} (nd : ns.Nodup) (hf : ns[i]? = some f) (hi : i < vs.length) : putF f v (ns.zip vs) = ns.zip (vs.set i v) := by
  induction ns generalizing vs i with
  | nil => simp at hf
  | cons n ns ih =>
    cases vs with
    | nil => simp at hi
    | cons u vs =>
      rw [List.nodup_cons] at nd
      cases i with
      | zero =>
        simp at hf
        subst hf
        rw [List.zip_cons_cons]
        show (if n = n then (n, v) :: ns.zip vs else _) = _
        rw [if_pos rfl]
        rfl
      | succ i =>
        have hf' : ns[i]? = some f := by simpa using hf
        rw [List.zip_cons_cons]
        show (if n = f then _ else (n, u) :: putF f v (ns.zip vs)) = _
        rw [if_neg (fun e => nd.1 (by rw [e]; exact List.mem_of_getElem? hf')), ih nd.2 hf' (by simpa using hi)]
        rfl
/-- the class and the attributes of an instance -/
def objOf (cs : Cs) : T → Option (Nat × List T)
  | .obj c fs => some (c, fs)
  | .own k => match cs[k]? with
    | some (.obj c fs) => some (c, fs)
    | _ => none
  | _ => none
theorem obj_at {x : V} {t : T} {c : Nat} {ts : List T} (r : Rep B F α x t) (hs : Hs B G F H α cs) (h : objOf cs t = some (c, ts)) :
    ∃ a dx vs, x = .ref a ∧ H a = some (.ins (B.at_ c) dx (((B.names c).take ts.length).zip vs)) ∧ ts.length ≤ (B.names c).length ∧ RepL B F α vs ts := by
  cases r with
  | @obj a dx c' vs ts' h1 h2 h3 =>
    cases h
    refine ⟨a, dx, vs, rfl, ?_, by rw [← h3.length, ← h2]; exact Nat.le_refl _, h3⟩
    rw [hs.same _ _ h1, ← h3.length, ← h2, List.take_length]
  | @own a k hk =>
    have h : (match cs[k]? with | some (.obj c fs) => some (c, fs) | _ => none) = some (c, ts) := h
    cases hc : cs[k]? with
    | none => rw [hc] at h; cases h
    | some cc =>
      rw [hc] at h
      cases cc with
      | obj c' ts' =>
        cases h
        obtain ⟨dx, vs, h1, h2, h3⟩ := hs.cell k a _ hk hc
        exact ⟨a, dx, vs, rfl, h1, h2, h3⟩
      | _ => cases h
  | _ => cases h
end
section
variable {B : Book} {G : Hp} {X : Cx} {W : XK}
/-! ### attributes -/
/-- o.f: at which place of each class it stands -/
def mFld (ix : List (Nat × Nat)) (m : ME) : ME := fun env => (m env).bind fun t => fun cs => match objOf cs t with
  | some (c, fs) => match ix.lookup c with
    | some i => fs[i]?.map fun u => (.ok u, cs)
    | none => none
  | none => none
theorem mem_lookup' {α β : Type} [BEq α] [LawfulBEq α] {l : List (α × β)} {a : α} {b : β} (h : l.lookup a = some b) : (a, b) ∈ l := by
  induction l with
  | nil => cases h
  | cons p l ih =>
    obtain ⟨a', b'⟩ := p
    rw [List.lookup_cons] at h
    cases e : a == a' with
    | true =>
      rw [e] at h
      cases h
      rw [beq_iff_eq.mp e]
      exact List.mem_cons_self
    | false =>
      rw [e] at h
      exact List.mem_cons_of_mem _ (ih h)
theorem s_fld {e : Expr} {f : Str} {pos : Pos} {ix : List (Nat × Nat)} {m : ME} (hK : X.K = B.K) (h : SimE B G X W e m) (hix : ∀ q ∈ ix, ClsOk B q.1 ∧ (B.names q.1)[q.2]? = some f) (hb : attributeBase e f X.env (eval e X.env) = eval e X.env := by rfl) :
    SimE B G X W (.Attribute e f pos) (mFld ix m) := by
  intro σ H F α env cs o cs' he hs hm Q q
  refine ⟨_, pe_fld (pe_u X e) hb, ?_⟩
  refine h.then he hs hm q.exn fun t cs1 v H1 F1 α1 h1 e1 s1 r1 => ?_
  cases e2 : objOf cs1 t with
  | none => simp only [e2] at h1; cases h1
  | some p =>
    obtain ⟨c, fs⟩ := p
    simp only [e2] at h1
    cases e3 : ix.lookup c with
    | none => simp only [e3] at h1; cases h1
    | some i =>
      simp only [e3] at h1
      cases e4 : fs[i]? with
      | none => rw [e4] at h1; cases h1
      | some u =>
        rw [e4] at h1
        cases h1
        obtain ⟨a, dx, vs, rfl, g1, g2, g3⟩ := obj_at r1 s1 e2
        obtain ⟨ok, hf⟩ := hix _ (mem_lookup' e3)
        obtain ⟨w, hw, rw'⟩ := g3.get e4
        have hi : i < fs.length := (List.getElem?_eq_some_iff.mp e4).1
        refine ⟨a, _, dx, _, w, rfl, g1, by rw [hK]; exact ok.cl, by rw [hK]; exact ok.no f (List.mem_of_getElem? hf), ?_, (q.ext e1).here s1 rw'⟩
        exact lookup_zip (ok.nd.sublist (List.take_sublist _ _)) (by rw [List.getElem?_take_of_lt hi]; exact hf) hw
/-- o.f = e of an object that is owned -/
def sFldT (ix : List (Nat × Nat)) (mo mv : ME) : SM := fun env => (mv env).go fun v cs => (mo env).go (fun t cs => match t with
  | .own k => match cs[k]? with
    | some (.obj c fs) => match ix.lookup c with
      | some i => if i < fs.length then some (.nx env, cs.set k (.obj c (fs.set i v))) else if i = fs.length then some (.nx env, cs.set k (.obj c (fs ++ [v]))) else none
      | none => none
    | _ => none
  | _ => none) cs
theorem t_fld {o value : Expr} {f : Str} {pos pos' : Pos} {ix : List (Nat × Nat)} {mo mv : ME} (hK : X.K = B.K) (ho : SimE B G X W o mo) (hv : SimE B G X W value mv) (hix : ∀ q ∈ ix, ClsOk B q.1 ∧ (B.names q.1)[q.2]? = some f)
    (hs' : swapsWith value (some (.Attribute o f pos')) pos.line X.env = pure false) : SimS B G X W (.Assign [.Attribute o f pos'] value pos) (sFldT ix mo mv) := by
  intro σ H F α env cs fl cs' he hs hm D q
  refine ⟨_, ps_fld (pe_u X o) (pe_u X value) hs', ?_⟩
  refine hv.go he hs hm q.exn fun v cs1 y H1 F1 α1 h1 e1 s1 r1 => ?_
  refine ho.go (he.ext e1) s1 h1 (q.ext e1).exn fun t cs2 x H2 F2 α2 h2 e2 s2 r2 => ?_
  cases r2 with
  | @own a k hk =>
    have h2 : (match cs2[k]? with
      | some (.obj c fs) => match ix.lookup c with
        | some i => if i < fs.length then some (Fl.nx env, cs2.set k (.obj c (fs.set i v))) else if i = fs.length then some (Fl.nx env, cs2.set k (.obj c (fs ++ [v]))) else none
        | none => none
      | _ => none) = some (fl, cs') := h2
    cases hc : cs2[k]? with
    | none => simp only [hc] at h2; cases h2
    | some cc =>
      simp only [hc] at h2
      cases cc with
      | obj c fs =>
        simp only at h2
        cases e3 : ix.lookup c with
        | none => simp only [e3] at h2; cases h2
        | some i =>
          simp only [e3] at h2
          obtain ⟨ok, hf⟩ := hix _ (mem_lookup' e3)
          obtain ⟨dx, vs, g1, g2, g3⟩ := s2.cell k a _ hk hc
          have r1' := r1.ext e2
          have nd' : ((B.names c).take fs.length).Nodup := ok.nd.sublist (List.take_sublist _ _)
          have few : (B.names c).length < 100 := ok.few
          refine ⟨a, _, dx, _, rfl, g1, by rw [hK]; exact ok.cl, by rw [hK]; exact ok.no f (List.mem_of_getElem? hf), ?_, ?_⟩
          · rw [List.length_zip, List.length_take]
            omega
          by_cases hlt : i < fs.length
          · rw [if_pos hlt] at h2
            cases h2
            rw [putF_set nd' (by rw [List.getElem?_take_of_lt hlt]; exact hf) (by rw [g3.length]; exact hlt)]
            refine q _ _ _ _ (e1.trans e2) (s2.change (c := .obj c (fs.set i v)) hk hc rfl ⟨dx, vs.set i y, ?_, ?_, g3.set r1' i⟩) ((he.ext e1).ext e2)
            · rw [upd_same, List.length_set]
            · rw [List.length_set]; exact g2
          · rw [if_neg hlt] at h2
            by_cases heq : i = fs.length
            · rw [if_pos heq] at h2
              cases h2
              have hn : (B.names c)[fs.length]? = some f := heq ▸ hf
              have hlt2 : fs.length < (B.names c).length := (List.getElem?_eq_some_iff.mp hn).1
              have hnot : f ∉ (B.names c).take fs.length := fun hmem => by
                obtain ⟨j, hj⟩ := List.mem_iff_getElem?.mp hmem
                have hjl : j < fs.length := by
                  have := (List.getElem?_eq_some_iff.mp hj).1
                  rw [List.length_take] at this
                  omega
                rw [List.getElem?_take_of_lt hjl] at hj
                exact absurd (nd_ix ok.nd hj hn) (by omega)
              rw [putF_new hnot]
              refine q _ _ _ _ (e1.trans e2) (s2.change (c := .obj c (fs ++ [v])) hk hc rfl ⟨dx, vs ++ [y], ?_, ?_, g3.append (.cons r1' .nil)⟩) ((he.ext e1).ext e2)
              · rw [upd_same, List.length_append, List.length_singleton, List.take_add_one, hn]
                rw [List.zip_append (by rw [List.length_take, g3.length]; omega)]
                rfl
              · rw [List.length_append, List.length_singleton]; exact hlt2
            · rw [if_neg heq] at h2; cases h2
      | _ => cases h2
  | _ => cases h2
/-! ### making -/
theorem Hs.freezeObj {F H : Hp} {α : List Addr} {cs : Cs} (h : Hs B G F H α cs) {k : Nat} {p : Addr} {c : Nat} {ts : List T} (hk : α[k]? = some p) (hd : cs[k]? = some (.obj c ts)) (hl : ts.length = (B.names c).length) :
    ∃ F', Hs B G F' H α (cs.set k .dead) ∧ Ext F α F' α ∧ Rep B F' α (.ref p) (.obj c ts) := by
  have nF : F p = none := h.free k p _ hk hd rfl
  obtain ⟨dx, vs, hv, hle, hr⟩ := h.cell k p _ hk hd
  rw [hl, List.take_length] at hv
  have e : Ext F α (upd F p (.ins (B.at_ c) dx ((B.names c).zip vs))) α := ⟨Ts.Same.new (Same.refl _) nF, List.prefix_refl _⟩
  have pa : p ∈ α := List.mem_of_getElem? hk
  refine ⟨_, ⟨fun b u hb => ?_, by rw [List.length_set]; exact h.len, h.nd, h.some_, fun j a c' ha hc' hl' => ?_, fun j a c' ha hc' => ?_, h.gd, fun b u hb => ⟨by rw [upd_ne (fun z : b = p => (h.gf b u hb).2 (by rw [z]; exact pa))]; exact (h.gf b u hb).1, (h.gf b u hb).2⟩⟩, e, .obj upd_same (by rw [hr.length, hl]) (hr.ext e)⟩
  · by_cases hbp : b = p
    · rw [hbp, upd_same] at hb
      rw [hbp, ← hb]
      exact hv
    · rw [upd_ne hbp] at hb
      exact h.same b u hb
  · by_cases ej : j = k
    · subst ej
      rw [List.getElem?_set_self (List.getElem?_eq_some_iff.mp hd).1] at hc'
      cases hc'
      cases hl'
    · rw [List.getElem?_set_ne (Ne.symm ej)] at hc'
      have ne : a ≠ p := fun z => ej (nd_get h.nd ha (z ▸ hk))
      rw [upd_ne ne]
      exact h.free j a c' ha hc' hl'
  · by_cases ej : j = k
    · subst ej
      rw [List.getElem?_set_self (List.getElem?_eq_some_iff.mp hd).1] at hc'
      cases hc'
      trivial
    · rw [List.getElem?_set_ne (Ne.symm ej)] at hc'
      exact (h.cell j a c' ha hc').ext e fun o ho => ho
/-- C(..) of a class whose instances never change; nf: how many attributes there are -/
def mMake (c nf : Nat) (mi : List T → M T) (ts : List T) : M T := fun cs => match mi (.own cs.length :: ts) (cs ++ [.obj c []]) with
  | some (.ok .non, cs') => match cs'[cs.length]? with
    | some (.obj c' fs) => if c' = c ∧ fs.length = nf then some (.ok (.obj c fs), cs'.set cs.length .dead) else none
    | _ => none
  | some (.ex d x, cs') => some (.ex d x, cs')
  | _ => none
/-- .. of a class whose instances change -/
def mMakeO (c : Nat) (mi : List T → M T) (ts : List T) : M T := fun cs => match mi (.own cs.length :: ts) (cs ++ [.obj c []]) with
  | some (.ok .non, cs') => some (.ok (.own cs.length), cs')
  | some (.ex d x, cs') => some (.ex d x, cs')
  | _ => none
theorem Hs.newObj {F H : Hp} {α : List Addr} {cs : Cs} (hs : Hs B G F H α cs) (c : Nat) {x dx : Addr} (nx : H x = none) (nd : H dx = none) (ne : dx ≠ x) :
    ∃ F', Hs B G F' (upd (upd H dx (.own x)) x (.ins (B.at_ c) dx [])) (α ++ [x]) (cs ++ [.obj c []]) ∧ Ext F α F' (α ++ [x]) := by
  obtain ⟨s1, e1⟩ := hs.frozen (o := .own x) nd
  have nx' : (upd H dx (.own x)) x = none := by rw [upd_ne (Ne.symm ne)]; exact nx
  obtain ⟨s2, e2⟩ := s1.owned (o := .ins (B.at_ c) dx []) (c := .obj c []) nx' ⟨dx, [], by rw [upd_same]; rfl, Nat.zero_le _, .nil⟩
  exact ⟨_, s2, e1.trans e2⟩
theorem make_go {c nf : Nat} {mi : List T → M T} {F H : Hp} {α : List Addr} {cs cs' : Cs} {vs : List V} {ts : List T} {o : Out T} (hn : (B.names c).length = nf) (hs : Hs B G F H α cs) (r : RepL B F α vs ts) (hm : mMake c nf mi ts cs = some (o, cs')) {Q : VK} (q : PostE B G F α Q W o cs')
    {x dx : Addr} (nx : H x = none) (nd : H dx = none) (ne : dx ≠ x) : spM B mi (.ref x :: vs) (upd (upd H dx (.own x)) x (.ins (B.at_ c) dx [])) (fun v H2 => v = .non ∧ Q (.ref x) H2) W := by
  obtain ⟨F1, s1, e1⟩ := hs.newObj c nx nd ne
  unfold mMake at hm
  have hx : (α ++ [x])[cs.length]? = some x := by rw [← hs.len, List.getElem?_append_right (Nat.le_refl _), Nat.sub_self]; rfl
  cases e : mi (.own cs.length :: ts) (cs ++ [.obj c []]) with
  | none => rw [e] at hm; cases hm
  | some pr =>
    obtain ⟨o1, cs1⟩ := pr
    rw [e] at hm
    refine ⟨G, F1, _, _, _, o1, cs1, s1, .cons (.own hx) (r.ext e1), e, ?_⟩
    cases o1 with
    | ex d y =>
      cases hm
      exact q.ext e1
    | ok t =>
      intro v H2 F2 α2 e2 s2 r2
      cases t with
      | non =>
        cases r2
        refine ⟨rfl, ?_⟩
        cases hc : cs1[cs.length]? with
        | none => simp only [hc] at hm; cases hm
        | some cc =>
          simp only [hc] at hm
          cases cc with
          | obj c' fs =>
            simp only at hm
            by_cases hh : c' = c ∧ fs.length = nf
            · rw [if_pos hh] at hm
              cases hm
              obtain ⟨rfl, hl⟩ := hh
              obtain ⟨F3, s3, e3, r3⟩ := s2.freezeObj (get_pre e2.p hx) hc (by rw [hl, hn])
              exact q _ _ _ _ ((e1.trans e2).trans e3) s3 r3
            · rw [if_neg hh] at hm; cases hm
          | _ => cases hm
      | _ => cases hm
theorem makeO_go {c : Nat} {mi : List T → M T} {F H : Hp} {α : List Addr} {cs cs' : Cs} {vs : List V} {ts : List T} {o : Out T} (hs : Hs B G F H α cs) (r : RepL B F α vs ts) (hm : mMakeO c mi ts cs = some (o, cs')) {Q : VK} (q : PostE B G F α Q W o cs')
    {x dx : Addr} (nx : H x = none) (nd : H dx = none) (ne : dx ≠ x) : spM B mi (.ref x :: vs) (upd (upd H dx (.own x)) x (.ins (B.at_ c) dx [])) (fun v H2 => v = .non ∧ Q (.ref x) H2) W := by
  obtain ⟨F1, s1, e1⟩ := hs.newObj c nx nd ne
  unfold mMakeO at hm
  have hx : (α ++ [x])[cs.length]? = some x := by rw [← hs.len, List.getElem?_append_right (Nat.le_refl _), Nat.sub_self]; rfl
  cases e : mi (.own cs.length :: ts) (cs ++ [.obj c []]) with
  | none => rw [e] at hm; cases hm
  | some pr =>
    obtain ⟨o1, cs1⟩ := pr
    rw [e] at hm
    refine ⟨G, F1, _, _, _, o1, cs1, s1, .cons (.own hx) (r.ext e1), e, ?_⟩
    cases o1 with
    | ex d y =>
      cases hm
      exact q.ext e1
    | ok t =>
      intro v H2 F2 α2 e2 s2 r2
      cases t with
      | non =>
        cases r2
        cases hm
        exact ⟨rfl, q _ _ _ _ (e1.trans e2) s2 (.own (get_pre e2.p hx))⟩
      | _ => cases hm
section
variable {k j : Nat} {x : Str} {c nf : Nat} {mi : List T → M T} {dvs : List V} {dts : List T} {e : Expr} {es : List Expr} {p pos : Pos} {a : MA}
theorem s_make (cm : Ts.MakX X.prog X.w X.K X.mg X.base k x (B.at_ c) (spM B mi) dvs) (hn : (B.names c).length = nf) (hd : ∀ F α, RepL B F α dvs dts) (hr : Room j X.A) (hk : k + 1 ≤ j) (hx : Passes (L2.CX X.prog X.w) X W) (hg : Gl X x) (ha : SimA B G X W (e :: es) a)
    (hdb : (x == ("__debug__" : Str)) = false := by decide) (he : starEach (e :: es) X.env = (false, eval e X.env) :: starEach es X.env := by rfl) (hpl : (backTo pos (starEach es X.env)).any (·.1) = false := by rfl) :
    SimE B G X W (.Call (.Name x p) (e :: es) [] pos) (mCal (mMake c nf mi) dts a) := by
  intro σ H F α env cs o cs' hE hs hm Q q
  refine ⟨_, Ts.pe_mkX cm hr hk hx hg (pa_u X _) hdb he hpl, ?_⟩
  refine ha.then hE hs hm q.exn fun ts cs1 vs H1 F1 α1 h1 e1 s1 r1 => ?_
  exact fun y dy ny ndy ne => make_go hn s1 (r1.append (hd F1 α1)) h1 (q.ext e1) ny ndy ne
theorem s_make0 (cm : Ts.MakX X.prog X.w X.K X.mg X.base k x (B.at_ c) (spM B mi) dvs) (hn : (B.names c).length = nf) (hd : ∀ F α, RepL B F α dvs dts) (hr : Room j X.A) (hk : k + 1 ≤ j) (hx : Passes (L2.CX X.prog X.w) X W) (hg : Gl X x)
    (hdb : (x == ("__debug__" : Str)) = false := by decide) : SimE B G X W (.Call (.Name x p) [] [] pos) (fun _ => mMake c nf mi dts) := by
  intro σ H F α env cs o cs' hE hs hm Q q
  obtain ⟨f, fd, ps, ds, M, Fn, hmg, b, d⟩ := cm.ex
  exact ⟨_, pe_make0 M Fn (hr.mono hk) hg hmg b d hx hdb, fun y dy ny ndy ne => make_go hn hs (hd F α) hm q ny ndy ne⟩
end
/-! ### methods -/
/-- a method of the c-th class: its name, its promise -/
structure MetM (B : Book) (P : Program) (w : World) (K : PySem.W.Frag) (mg : Str → Option Value) (base : Heap) (k : Nat) (c : Nat) (n : Str) (m : List T → M T) (dts : List T) : Prop where
  ok : ClsOk B c
  no : n ∉ B.names c
  ex : ∃ dvs, Ts.MetX P w K mg base k (B.at_ c) n (spM B m) dvs ∧ ∀ F α, RepL B F α dvs dts
/-- o.m(..), by the class of o -/
def mMet (tbl : List (Nat × (List T → M T) × List T)) (mo : ME) (a : MA) : ME := fun env => (mo env).bind fun t => fun cs => match objOf cs t with
  | some (c, _) => match tbl.lookup c with
    | some (m, dts) => (a env).bind (fun ts => m (t :: (ts ++ dts))) cs
    | none => none
  | none => none
theorem met_at {F H : Hp} {α : List Addr} {cs : Cs} {v : V} {t : T} {c : Nat} {fs : List T} {n : Str} (r : Rep B F α v t) (hs : Hs B G F H α cs) (h : objOf cs t = some (c, fs)) (no : n ∉ B.names c) : ∃ a dx gs, v = .ref a ∧ H a = some (.ins (B.at_ c) dx gs) ∧ gs.lookup n = none := by
  obtain ⟨a, dx, vs, rfl, g1, _, _⟩ := obj_at r hs h
  exact ⟨a, dx, _, rfl, g1, lookup_zip_none fun z => no (List.mem_of_mem_take z)⟩
/-- the method's call as one reading, by the class that the object will have -/
theorem pe_or_all {X : Cx} {e : Expr} {ι : Type} {t : ι → TE} (h : ∀ i, PE X e (t i)) : PE X e (fun σ H Q => ∃ i, t i σ H Q) := ⟨fun pins s σ H Q I ⟨i, q⟩ => (h i).run pins s σ H Q I q⟩
/-- o.m(..) as its object tells: P: which promise goes with which class -/
def tMethU (B : Book) (ta : TE) (n : Str) (S : Nat → Sp → List V → Prop) (E : XK) (t : TA) : TE := fun σ H Q => ta σ H fun x H1 => ∃ a c dx fs sp dvs, x = .ref a ∧ S c sp dvs ∧ H1 a = some (.ins (B.at_ c) dx fs) ∧ fs.lookup n = none ∧
  t σ H1 fun vs H2 => sp (x :: (vs ++ dvs)) H2 Q E
theorem pe_methU {S : Nat → Sp → List V → Prop} {k j : Nat} {o e : Expr} {es : List Expr} {n : Str} {apos pos : Pos} {ta : TE} {t : TA} {E : XK} {pl : Sem Bool} (he : PE X o ta) (hM : ∀ c sp dvs, S c sp dvs → Ts.MetX X.prog X.w X.K X.mg X.base k (B.at_ c) n sp dvs) (hr : Room j X.A) (hk : k ≤ j) (hx : Passes (L2.CX X.prog X.w) X E) (ha : PA X (e :: es) t)
    (hst : starEach (e :: es) X.env = (false, eval e X.env) :: starEach es X.env := by rfl) (hpl : (backTo pos (starEach es X.env)).any (·.1) = false := by rfl)
    (ht : eval (.Call (.Attribute o n apos) (e :: es) [] pos) X.env = (do
      let ov ← eval o X.env
      standAt apos.atName
      let (f, first) ← holding [ov] (getMethod ov n pl)
      callWith pos f first (backTo pos (starEach (e :: es) X.env)) (backToKw pos (keywordEach [] X.env))) := by rfl) :
    PE X (.Call (.Attribute o n apos) (e :: es) [] pos) (tMethU B ta n S E t) := by
  refine ⟨fun pins s σ H Q I h => ?_⟩
  refine PySem.W.methodCall_KW (pl := pl) (thn (he.run pins s σ H _ I h) fun u s1 ⟨x, H1, I1, rx, a, c, dx, fs, sp, dvs, ex, hS, ea, l, q⟩ => ?_) ht
  subst ex
  obtain rfl : u = Value.ref a := rx
  obtain ⟨f, fd, ps, ds, cl, hm, F, hb, hd⟩ := (hM c sp dvs hS).ex
  refine getmeth_ok I1 ea cl hm l ?_
  refine PySem.W.callWith_K (first := [.ref a]) (h₀ := X.base) I.ok.mod.kin hm.kp (thn (ha.run pos pins s1 σ H1 _ I1 q) fun us s2 ⟨vs, H2, I2, r, q2⟩ => ⟨I2.kIn, ?_⟩) hst hpl
  exact run_fn (us := .ref a :: us) (vs := .ref a :: vs) F (hr.mono hk) hb hd hx I2 (.cons rfl r) q2
theorem pe_methU0 {S : Nat → Sp → List V → Prop} {k j : Nat} {o : Expr} {n : Str} {apos pos : Pos} {ta : TE} {E : XK} {pl : Sem Bool} (he : PE X o ta) (hM : ∀ c sp dvs, S c sp dvs → Ts.MetX X.prog X.w X.K X.mg X.base k (B.at_ c) n sp dvs) (hr : Room j X.A) (hk : k ≤ j) (hx : Passes (L2.CX X.prog X.w) X E)
    (ht : eval (.Call (.Attribute o n apos) [] [] pos) X.env = (do
      let ov ← eval o X.env
      standAt apos.atName
      let (f, first) ← holding [ov] (getMethod ov n pl)
      callWith pos f first (backTo pos (starEach [] X.env)) (backToKw pos (keywordEach [] X.env))) := by rfl) :
    PE X (.Call (.Attribute o n apos) [] [] pos) (tMethU B ta n S E tNil) := by
  refine ⟨fun pins s σ H Q I h => ?_⟩
  refine PySem.W.methodCall_KW (pl := pl) (thn (he.run pins s σ H _ I h) fun u s1 ⟨x, H1, I1, rx, a, c, dx, fs, sp, dvs, ex, hS, ea, l, q⟩ => ?_) ht
  subst ex
  obtain rfl : u = Value.ref a := rx
  obtain ⟨f, fd, ps, ds, cl, hm, F, hb, hd⟩ := (hM c sp dvs hS).ex
  refine getmeth_ok I1 ea cl hm l ?_
  exact PySem.W.callWith_K0 (first := [.ref a]) I1.kIn hm.kp (run_fn (us := [.ref a]) (vs := [.ref a]) F (hr.mono hk) hb hd hx I1 (.cons rfl .nil) q)
theorem met_go {tbl : List (Nat × (List T → M T) × List T)} {k : Nat} {o : Expr} {es : List Expr} {n : Str} {mo : ME} {a : MA} (ho : SimE B G X W o mo) (ha : SimA B G X W es a)
    (hM : ∀ q ∈ tbl, MetM B X.prog X.w X.K X.mg X.base k q.1 n q.2.1 q.2.2) {σ : L2.St} {H F : Hp} {α : List Addr} {env : Env} {cs cs' : Cs} {ot : Out T} (hE : EnvOk B F α σ env) (hs : Hs B G F H α cs) (hm : mMet tbl mo a env cs = some (ot, cs')) {Q : VK} (q : PostE B G F α Q W ot cs') :
    tMethU B (uE X o) n (fun c sp dvs => Ts.MetX X.prog X.w X.K X.mg X.base k (B.at_ c) n sp dvs) W (uA X es) σ H Q := by
  refine ho.then hE hs hm q.exn fun t cs1 v H1 F1 α1 h1 e1 s1 r1 => ?_
  cases e2 : objOf cs1 t with
  | none => simp only [e2] at h1; cases h1
  | some pr =>
    obtain ⟨c, fs⟩ := pr
    simp only [e2] at h1
    cases e3 : tbl.lookup c with
    | none => simp only [e3] at h1; cases h1
    | some pr =>
      obtain ⟨m, dts⟩ := pr
      simp only [e3] at h1
      obtain ⟨ok, no, dvs, mx, hd⟩ := hM _ (mem_lookup' e3)
      obtain ⟨ad, dx, gs, rfl, g1, g2⟩ := met_at r1 s1 e2 no
      refine ⟨ad, c, dx, gs, _, dvs, rfl, mx, g1, g2, ?_⟩
      refine ha.then (hE.ext e1) s1 h1 (q.ext e1).exn fun ts cs2 vs H2 F2 α2 h2 e3 s2 r2 => ?_
      exact spM_of s2 (.cons (r1.ext e3) (r2.append (hd F2 α2))) h2 ((q.ext e1).ext e3)
theorem s_met {tbl : List (Nat × (List T → M T) × List T)} {k j : Nat} {o e : Expr} {es : List Expr} {n : Str} {apos pos : Pos} {mo : ME} {a : MA} {pl : Sem Bool} (ho : SimE B G X W o mo) (ha : SimA B G X W (e :: es) a)
    (hM : ∀ q ∈ tbl, MetM B X.prog X.w X.K X.mg X.base k q.1 n q.2.1 q.2.2) (hr : Room j X.A) (hk : k ≤ j) (hx : Passes (L2.CX X.prog X.w) X W)
    (hst : starEach (e :: es) X.env = (false, eval e X.env) :: starEach es X.env := by rfl) (hpl : (backTo pos (starEach es X.env)).any (·.1) = false := by rfl)
    (ht : eval (.Call (.Attribute o n apos) (e :: es) [] pos) X.env = (do
      let ov ← eval o X.env
      standAt apos.atName
      let (f, first) ← holding [ov] (getMethod ov n pl)
      callWith pos f first (backTo pos (starEach (e :: es) X.env)) (backToKw pos (keywordEach [] X.env))) := by rfl) :
    SimE B G X W (.Call (.Attribute o n apos) (e :: es) [] pos) (mMet tbl mo a) := by
  intro σ H F α env cs ot cs' hE hs hm Q q
  exact ⟨_, pe_methU (pl := pl) (pe_u X o) (fun c sp dvs h => h) hr hk hx (pa_u X _) hst hpl ht, met_go ho ha hM hE hs hm q⟩
theorem s_met0 {tbl : List (Nat × (List T → M T) × List T)} {k j : Nat} {o : Expr} {n : Str} {apos pos : Pos} {mo : ME} {pl : Sem Bool} (ho : SimE B G X W o mo)
    (hM : ∀ q ∈ tbl, MetM B X.prog X.w X.K X.mg X.base k q.1 n q.2.1 q.2.2) (hr : Room j X.A) (hk : k ≤ j) (hx : Passes (L2.CX X.prog X.w) X W)
    (ht : eval (.Call (.Attribute o n apos) [] [] pos) X.env = (do
      let ov ← eval o X.env
      standAt apos.atName
      let (f, first) ← holding [ov] (getMethod ov n pl)
      callWith pos f first (backTo pos (starEach [] X.env)) (backToKw pos (keywordEach [] X.env))) := by rfl) :
    SimE B G X W (.Call (.Attribute o n apos) [] [] pos) (mMet tbl mo aNil) := by
  intro σ H F α env cs ot cs' hE hs hm Q q
  refine ⟨_, pe_methU0 (B := B) (S := fun c sp dvs => Ts.MetX X.prog X.w X.K X.mg X.base k (B.at_ c) n sp dvs) (pl := pl) (pe_u X o) (fun c sp dvs h => h) hr hk hx ht, ?_⟩
  refine ho.then hE hs hm q.exn fun t cs1 v H1 F1 α1 h1 e1 s1 r1 => ?_
  cases e2 : objOf cs1 t with
  | none => simp only [e2] at h1; cases h1
  | some pr =>
    obtain ⟨c, fs⟩ := pr
    simp only [e2] at h1
    cases e3 : tbl.lookup c with
    | none => simp only [e3] at h1; cases h1
    | some pr =>
      obtain ⟨m, dts⟩ := pr
      simp only [e3] at h1
      obtain ⟨ok, no, dvs, mx, hd⟩ := hM _ (mem_lookup' e3)
      obtain ⟨ad, dx, gs, rfl, g1, g2⟩ := met_at r1 s1 e2 no
      exact ⟨ad, c, dx, gs, _, dvs, rfl, mx, g1, g2, spM_of s1 (.cons r1 (RepL.append .nil (hd F1 α1))) h1 (q.ext e1)⟩
end
end Tv

namespace Tv
open PySem L2
section
variable {B : Book} {G F H : Hp} {α : List Addr} {cs : Cs}
/-! ### one object more that nobody knows -/
theorem Hs.extra (h : Hs B G F H α cs) {p : Addr} {o : HO} (n : H p = none) : Hs B (upd G p o) F (upd H p o) α cs := by
  have sH : Same H (upd H p o) := Ts.Same.new (Same.refl _) n
  have np : p ∉ α := fun hp => by
    obtain ⟨o, ho⟩ := h.some_ p hp
    rw [n] at ho
    cases ho
  refine ⟨h.same.trans sH, h.len, h.nd, fun a ha => ?_, h.free, fun k a c ha hc => (h.cell k a c ha hc).ext (Ext.refl _ _) fun o ho => sH _ _ ho, fun b u hb => ?_, fun b u hb => ?_⟩
  · obtain ⟨o, ho⟩ := h.some_ a ha
    exact ⟨o, sH _ _ ho⟩
  · by_cases e : b = p
    · rw [e, upd_same] at hb ⊢
      exact hb
    · rw [upd_ne e] at hb ⊢
      exact h.gd b u hb
  · by_cases e : b = p
    · rw [e]
      exact ⟨h.same.free n, np⟩
    · rw [upd_ne e] at hb
      exact h.gf b u hb
/-- it is changed -/
theorem Hs.bump {p : Addr} {o : HO} (h : Hs B (upd G p o) F H α cs) (o' : HO) : Hs B (upd G p o') F (upd H p o') α cs := by
  obtain ⟨nF, np⟩ := h.gf p o upd_same
  have hp : H p = some o := h.gd p o upd_same
  have ne : ∀ {a}, a ∈ α → a ≠ p := fun ha z => np (z ▸ ha)
  refine ⟨fun b u hb => ?_, h.len, h.nd, fun a ha => ?_, h.free, fun k a c ha hc => (h.cell k a c ha hc).ext (Ext.refl _ _) fun u hu => by rw [upd_ne (ne (List.mem_of_getElem? ha))]; exact hu, fun b u hb => ?_, fun b u hb => ?_⟩
  · rw [upd_ne (ne_of_none hb nF)]
    exact h.same b u hb
  · obtain ⟨u, hu⟩ := h.some_ a ha
    exact ⟨u, by rw [upd_ne (ne ha)]; exact hu⟩
  · by_cases e : b = p
    · rw [e, upd_same] at hb ⊢
      exact hb
    · rw [upd_ne e] at hb ⊢
      exact h.gd b u (by rw [upd_ne e]; exact hb)
  · by_cases e : b = p
    · rw [e]; exact ⟨nF, np⟩
    · rw [upd_ne e] at hb
      exact h.gf b u (by rw [upd_ne e]; exact hb)
/-- it is known to nobody but the guard any more: frozen -/
theorem Hs.take {p : Addr} {o : HO} (h : Hs B (upd G p o) F H α cs) (nG : G p = none) : Hs B G (upd F p o) H α cs ∧ Ext F α (upd F p o) α := by
  obtain ⟨nF, np⟩ := h.gf p o upd_same
  have hp : H p = some o := h.gd p o upd_same
  have e : Ext F α (upd F p o) α := ⟨Ts.Same.new (Same.refl _) nF, List.prefix_refl _⟩
  have ne : ∀ {a}, a ∈ α → a ≠ p := fun ha z => np (z ▸ ha)
  have neG : ∀ {b u}, G b = some u → b ≠ p := fun hb z => by rw [z, nG] at hb; cases hb
  refine ⟨⟨fun b u hb => ?_, h.len, h.nd, h.some_, fun k a c ha hc hl => ?_, fun k a c ha hc => (h.cell k a c ha hc).ext e fun u hu => hu, fun b u hb => ?_, fun b u hb => ?_⟩, e⟩
  · by_cases eb : b = p
    · rw [eb, upd_same] at hb
      rw [eb, hp]
      exact hb
    · rw [upd_ne eb] at hb
      exact h.same b u hb
  · rw [upd_ne (ne (List.mem_of_getElem? ha))]
    exact h.free k a c ha hc hl
  · exact h.gd b u (by rw [upd_ne (neG hb)]; exact hb)
  · have := h.gf b u (by rw [upd_ne (neG hb)]; exact hb)
    exact ⟨by rw [upd_ne (neG hb)]; exact this.1, this.2⟩
/-- .. owned -/
theorem Hs.takeO {p : Addr} {o : HO} {c : Cell} (h : Hs B (upd G p o) F H α cs) (nG : G p = none) (hc : CellOk B F (α ++ [p]) H p c) : Hs B G F H (α ++ [p]) (cs ++ [c]) ∧ Ext F α F (α ++ [p]) := by
  obtain ⟨nF, np⟩ := h.gf p o upd_same
  have hp : H p = some o := h.gd p o upd_same
  have e : Ext F α F (α ++ [p]) := ⟨Same.refl _, List.prefix_append _ _⟩
  have neG : ∀ {b u}, G b = some u → b ≠ p := fun hb z => by rw [z, nG] at hb; cases hb
  refine ⟨⟨h.same, by rw [List.length_append, List.length_append, h.len]; rfl, ?_, fun a ha => ?_, fun k a c' ha hc' hl => ?_, fun k a c' ha hc' => ?_, fun b u hb => h.gd b u (by rw [upd_ne (neG hb)]; exact hb), fun b u hb => ?_⟩, e⟩
  · rw [List.nodup_append]
    refine ⟨h.nd, by simp, fun a ha b hb => ?_⟩
    rw [List.mem_singleton.mp hb]
    exact fun z => np (z ▸ ha)
  · rcases List.mem_append.mp ha with ha | ha
    · exact h.some_ a ha
    · rw [List.mem_singleton.mp ha]
      exact ⟨_, hp⟩
  · by_cases hk : k < α.length
    · rw [List.getElem?_append_left hk] at ha
      rw [List.getElem?_append_left (h.len ▸ hk)] at hc'
      exact h.free k a c' ha hc' hl
    · have hk2 : k = α.length := by
        have := (List.getElem?_eq_some_iff.mp ha).1
        rw [List.length_append, List.length_singleton] at this
        omega
      rw [hk2, List.getElem?_append_right (Nat.le_refl _), Nat.sub_self] at ha
      cases ha
      exact nF
  · by_cases hk : k < α.length
    · rw [List.getElem?_append_left hk] at ha
      rw [List.getElem?_append_left (h.len ▸ hk)] at hc'
      exact (h.cell k a c' ha hc').ext e fun o ho => ho
    · have hk2 : k = α.length := by
        have := (List.getElem?_eq_some_iff.mp ha).1
        rw [List.length_append, List.length_singleton] at this
        omega
      rw [hk2, List.getElem?_append_right (Nat.le_refl _), Nat.sub_self] at ha
      rw [hk2, h.len, List.getElem?_append_right (Nat.le_refl _), Nat.sub_self] at hc'
      cases ha
      cases hc'
      exact hc
  · have := h.gf b u (by rw [upd_ne (neG hb)]; exact hb)
    refine ⟨this.1, fun hm => ?_⟩
    rcases List.mem_append.mp hm with hm | hm
    · exact this.2 hm
    · exact neG hb (List.mem_singleton.mp hm)
theorem Hs.noG (h : Hs B G F H α cs) {p : Addr} (n : H p = none) : G p = none := by
  cases e : G p with
  | none => rfl
  | some o =>
    have := h.gd p o e
    rw [n] at this
    cases this
end
/-! ### comprehensions -/
abbrev E0 : XK := fun _ _ _ => False
def lcL (ck : Cs → Bool) (own : List Nat) (g : T → Env → Option Env) (mt : Env → M Bool) (me : ME) : List T → Env → M (List T)
  | [], _ => fun cs => if ck cs = true then some (.ok [], cs) else none
  | t :: ts, env => fun cs => if ck cs = true then match g t (wipeE env own) with
    | none => none
    | some env1 => match mt env1 cs with
      | some (.ok false, cs1) => lcL ck own g mt me ts env cs1
      | some (.ok true, cs1) => match me env1 cs1 with
        | some (.ok u, cs2) => match lcL ck own g mt me ts env cs2 with
          | some (.ok us, cs3) => some (.ok (u :: us), cs3)
          | _ => none
        | _ => none
      | _ => none
      else none
theorem lcL_ck {ck : Cs → Bool} {own : List Nat} {g : T → Env → Option Env} {mt : Env → M Bool} {me : ME} {ts : List T} {env : Env} {cs : Cs} {r : Out (List T) × Cs} (h : lcL ck own g mt me ts env cs = some r) : ck cs = true := by
  by_cases e : ck cs = true
  · exact e
  · cases ts with
    | nil => unfold lcL at h; rw [if_neg e] at h; cases h
    | cons t ts => unfold lcL at h; rw [if_neg e] at h; cases h
theorem lcL_ok {ck : Cs → Bool} {own : List Nat} {g : T → Env → Option Env} {mt : Env → M Bool} {me : ME} : ∀ {ts : List T} {env : Env} {cs cs' : Cs} {o : Out (List T)}, lcL ck own g mt me ts env cs = some (o, cs') → ∃ us, o = .ok us
  | [], _, _, _, _, h => by
    have hck := lcL_ck h
    unfold lcL at h
    rw [if_pos hck] at h
    cases h; exact ⟨[], rfl⟩
  | t :: ts, env, cs, cs', o, h => by
    have hck := lcL_ck h
    unfold lcL at h
    rw [if_pos hck] at h
    cases e1 : g t (wipeE env own) with
    | none => simp only [e1] at h; cases h
    | some env1 =>
      simp only [e1] at h
      cases e2 : mt env1 cs with
      | none => simp only [e2] at h; cases h
      | some p =>
        obtain ⟨o2, cs1⟩ := p
        simp only [e2] at h
        cases o2 with
        | ex c x => cases h
        | ok b =>
          cases b with
          | false => exact lcL_ok h
          | true =>
            simp only at h
            cases e3 : me env1 cs1 with
            | none => simp only [e3] at h; cases h
            | some p =>
              obtain ⟨o3, cs2⟩ := p
              simp only [e3] at h
              cases o3 with
              | ex c x => cases h
              | ok u =>
                simp only at h
                cases e4 : lcL ck own g mt me ts env cs2 with
                | none => simp only [e4] at h; cases h
                | some p =>
                  obtain ⟨o4, cs3⟩ := p
                  simp only [e4] at h
                  cases o4 with
                  | ex c x => cases h
                  | ok us =>
                    cases h
                    exact ⟨u :: us, rfl⟩
def mLc (own : List Nat) (mi : Env → M Seq) (g : T → Env → Option Env) (mt : Env → M Bool) (me : ME) : ME := fun env => (mi env).bind fun ts => (lcL ts.2 own g mt me ts.1 env).bind fun us => fun cs => if us.length ≤ sizeLine then some (.ok (.lst us), cs) else none
def mLcO (own : List Nat) (mi : Env → M Seq) (g : T → Env → Option Env) (mt : Env → M Bool) (me : ME) : ME := fun env => (mi env).bind fun ts => (lcL ts.2 own g mt me ts.1 env).bind fun us => fun cs => if us.length ≤ sizeLine then some (.ok (.own cs.length), cs ++ [.lst us]) else none
section
variable {B : Book} {G : Hp} {X : Cx} {W : XK}
def uTs (X : Cx) (ifs : List Expr) : TT := fun σ H Q => ∃ t, PTs X ifs t ∧ t σ H Q
theorem pts_u (X : Cx) (ifs : List Expr) : PTs X ifs (uTs X ifs) := ⟨fun pins s σ H Q I ⟨_, h, q⟩ => h.run pins s σ H Q I q⟩
def SimTs (B : Book) (G : Hp) (X : Cx) (W : XK) (ifs : List Expr) (m : Env → M Bool) : Prop := ∀ σ H F α env cs o cs', EnvOk B F α σ env → Hs B G F H α cs → m env cs = some (o, cs') → ∀ Q : Bool → Hp → Prop, PostT B G F α Q W o cs' → uTs X ifs σ H Q
def yesM : Env → M Bool := fun _ cs => some (.ok true, cs)
theorem ts_nil : SimTs B G X W [] yesM := by
  intro σ H F α env cs o cs' he hs hm Q q
  cases hm
  exact ⟨_, pts_nil, q H F α (Ext.refl _ _) hs⟩
theorem ts_one {c : Expr} {m : Env → M Bool} (h : SimT B G X W c m) : SimTs B G X W [c] m := by
  intro σ H F α env cs o cs' he hs hm Q q
  exact ⟨_, pts_one (pt_u X c), h σ H F α env cs o cs' he hs hm Q q⟩
/-- all the blocks of a comprehension -/
abbrev Blk (X : Cx) (scope : Scope) (C : Cx → Prop) : Prop := ∀ (s : Shared) (H : Hp) (Ca : Addr) (cl : List (Str × Addr)) (fp : List Addr), C (X.blk s H scope (compEnvC scope cl Ca X.env) fp)
def kE (X : Cx) (scope : Scope) (e : Expr) : TE := fun σ H Q => ∀ (s : Shared) (H0 : Hp) (Ca : Addr) (cl : List (Str × Addr)) (fp : List Addr), uE (X.blk s H0 scope (compEnvC scope cl Ca X.env) fp) e σ H Q
def kTs (X : Cx) (scope : Scope) (e : List Expr) : TT := fun σ H Q => ∀ (s : Shared) (H0 : Hp) (Ca : Addr) (cl : List (Str × Addr)) (fp : List Addr), uTs (X.blk s H0 scope (compEnvC scope cl Ca X.env) fp) e σ H Q
def kG (X : Cx) (scope : Scope) (e : Expr) : TG := fun v σ H Q => ∀ (s : Shared) (H0 : Hp) (Ca : Addr) (cl : List (Str × Addr)) (fp : List Addr), uG (X.blk s H0 scope (compEnvC scope cl Ca X.env) fp) e v σ H Q
theorem lc_go {scope : Scope} {elt tg : Expr} {ifs : List Expr} {own : List Nat} {g : T → Env → Option Env} {mt : Env → M Bool} {me : ME}
    (hg : ∀ G, Blk X scope fun Y => SimG B G Y tg own g) (ht : ∀ G, Blk X scope fun Y => SimTs B G Y E0 ifs mt) (he : ∀ G, Blk X scope fun Y => SimE B G Y E0 elt me)
    {σ : L2.St} {H1 F1 : Hp} {α1 : List Addr} {env : Env} {cs1 cs2 : Cs} {ck : Cs → Bool} {ts us : List T} {J : It} (k1 : EnvOk B F1 α1 σ env) (s1 : Hs B G F1 H1 α1 cs1) (w1 : WalkT B F1 α1 J (ts, ck)) (hl : lcL ck own g mt me ts env cs1 = some (.ok us, cs2)) (hz : us.length ≤ sizeLine) {Qd : Hp → Prop}
    {D : Addr} (nD : H1 D = none) (q : ∀ H2 F2 α2 vs, Ext F1 α1 F2 α2 → Hs B (upd G D (.lst vs)) F2 H2 α2 cs2 → RepL B F2 α2 vs us → Qd H2) :
    ∃ Wf : Nat → Nat → Hp → Prop, (∃ m, Wf 0 m (upd H1 D (.lst []))) ∧ ∀ i m H, Wf i m H →
      (J.stop i H ∧ Qd H) ∨ (J.go i H ∧ ∃ Nx : Hp → Prop, (∀ H', Nx H' → ∃ m', m' < m ∧ Wf (i + 1) m' H') ∧ ∀ x H', J.yld i H x H' → kG X scope tg x (wipe σ own) H' fun σ2 H2 => wipe σ2 own = wipe σ own ∧ kTs X scope ifs σ2 H2 fun b H3 =>
        if b = true then kE X scope elt σ2 H3 fun y H4 => ∃ acc, H4 D = some (.lst acc) ∧ acc.length < sizeLine ∧ Nx (upd H4 D (.lst (acc ++ [y]))) else Nx H3) := by
  obtain ⟨Gw, Y, w, hG, hY⟩ := w1.ex
  refine lc_it w (fun i H2 => ∃ F2 α2 cs3 vs as bs, Ext F1 α1 F2 α2 ∧ Hs B (upd G D (.lst vs)) F2 H2 α2 cs3 ∧ RepL B F2 α2 vs as ∧ as ++ bs = us ∧ lcL ck own g mt me (ts.drop i) env cs3 = some (.ok bs, cs2))
    ⟨F1, α1, cs1, [], [], us, Ext.refl _ _, s1.extra nD, .nil, rfl, by rw [List.drop_zero]; exact hl⟩ (fun i H2 _ ⟨F2, α2, cs3, vs, as, bs, e2, s2, _, _, l2⟩ => hG _ H2 F2 α2 cs3 e2 s2 (lcL_ck l2)) ?_ ?_
  · rintro i x H2 H3 hi ⟨F2, α2, cs3, vs, as, bs, e2, s2, r2, eus, l2⟩ y
    have hti : ts[i]? = some ts[i] := List.getElem?_eq_getElem hi
    obtain ⟨F3, e3, s3, r3⟩ := hY _ i H2 x H3 F2 α2 cs3 ts[i] e2 s2 (lcL_ck l2) y hti
    have kw : EnvOk B F3 α2 (wipe σ own) (wipeE env own) := ((k1.ext e2).ext e3).wipe own
    rw [List.drop_eq_getElem_cons hi] at l2
    have hck := lcL_ck l2
    unfold lcL at l2
    rw [if_pos hck] at l2
    cases g1 : g ts[i] (wipeE env own) with
    | none => simp only [g1] at l2; cases l2
    | some env1 =>
      simp only [g1] at l2
      intro bs1 bH bC bcl bfp
      refine hg _ bs1 bH bC bcl bfp x ts[i] (wipe σ own) H3 F3 α2 (wipeE env own) env1 cs3 r3 kw s3 g1 _ fun σ4 k4 w4 => ⟨?_, ?_⟩
      · have hwo := w4 own fun _ h => h
        rw [hwo]
        have ww : ∀ (l m : List Nat), (∀ i ∈ m, i ∈ l) → wipe (wipe σ m) l = wipe σ l := by
          intro l m
          induction m with
          | nil => intro _; rfl
          | cons a m ih =>
            intro hm
            show wipe ((wipe σ m).set a none) l = _
            rw [wipe_set (hm a List.mem_cons_self)]
            exact ih fun i hi => hm i (List.mem_cons_of_mem _ hi)
        exact ww own own fun _ h => h
      cases m1 : mt env1 cs3 with
      | none => simp only [m1] at l2; cases l2
      | some p =>
        obtain ⟨o1, cs4⟩ := p
        simp only [m1] at l2
        cases o1 with
        | ex c x => cases l2
        | ok b =>
          intro bs2 bH2 bC2 bcl2 bfp2
          refine ht _ bs2 bH2 bC2 bcl2 bfp2 σ4 H3 F3 α2 env1 cs3 _ _ k4 s3 m1 _ fun H4 F4 α4 e4 s4 => ?_
          cases b with
          | false =>
            rw [if_neg Bool.false_ne_true]
            exact ⟨F4, α4, cs4, vs, as, bs, (e2.trans e3).trans e4, s4, (r2.ext e3).ext e4, eus, l2⟩
          | true =>
            rw [if_pos rfl]
            simp only at l2
            cases m2 : me env1 cs4 with
            | none => simp only [m2] at l2; cases l2
            | some p =>
              obtain ⟨o2, cs5⟩ := p
              simp only [m2] at l2
              cases o2 with
              | ex c x => cases l2
              | ok u =>
                simp only at l2
                cases m3 : lcL ck own g mt me (ts.drop (i + 1)) env cs5 with
                | none => simp only [m3] at l2; cases l2
                | some p =>
                  obtain ⟨o3, cs6⟩ := p
                  simp only [m3] at l2
                  cases o3 with
                  | ex c x => cases l2
                  | ok us' =>
                    cases l2
                    intro bs3 bH3 bC3 bcl3 bfp3
                    refine he _ bs3 bH3 bC3 bcl3 bfp3 σ4 H4 F4 α4 env1 cs4 _ _ (k4.ext e4) s4 m2 _ fun yv H5 F5 α5 e5 s5 r5 => ?_
                    refine ⟨vs, s5.gd D _ upd_same, ?_, F5, α5, cs5, vs ++ [yv], as ++ [u], us', ((e2.trans e3).trans e4).trans e5, s5.bump _, (((r2.ext e3).ext e4).ext e5).append (.cons r5 .nil), by rw [List.append_assoc]; exact eus, m3⟩
                    rw [r2.length]
                    have := congrArg List.length eus
                    rw [List.length_append, List.length_cons] at this
                    omega
  · rintro H2 ⟨F2, α2, cs3, vs, as, bs, e2, s2, r2, eus, l2⟩
    rw [List.drop_length] at l2
    have hck := lcL_ck l2
    unfold lcL at l2
    rw [if_pos hck] at l2
    cases l2
    rw [List.append_nil] at eus
    subst eus
    exact q H2 F2 α2 vs e2 s2 r2
theorem lc_read {scope : Scope} {elt tg iter : Expr} {ifs : List Expr} {own : List Nat} {mi : Env → M Seq} {g : T → Env → Option Env} {mt : Env → M Bool} {me : ME} (hi : SimI B G X W tg iter mi)
    (hg : ∀ G, Blk X scope fun Y => SimG B G Y tg own g) (ht : ∀ G, Blk X scope fun Y => SimTs B G Y E0 ifs mt) (he : ∀ G, Blk X scope fun Y => SimE B G Y E0 elt me)
    {σ : L2.St} {H F : Hp} {α : List Addr} {env : Env} {cs cs' : Cs} {o : Out T} (k : EnvOk B F α σ env) (hs : Hs B G F H α cs) {f : List T → T} {fc : List T → Cs → Option (Out T × Cs)}
    (hm : ((mi env).bind fun ts => (lcL ts.2 own g mt me ts.1 env).bind fc) cs = some (o, cs')) {Q : VK} (hex : ∀ c x, o = .ex c x → ∀ H' F' α' d, Ext F α F' α' → Hs B G F' H' α' cs' → ExAt B F' α' H' c x d → W (.ref (B.at_ c)) d H')
    (hsz : ∀ us cs2 r, fc us cs2 = some r → us.length ≤ sizeLine)
    (q : ∀ us cs2 D H2 F2 α2 vs, fc us cs2 = some (o, cs') → G D = none → Ext F α F2 α2 → Hs B (upd G D (.lst vs)) F2 H2 α2 cs2 → RepL B F2 α2 vs us → Q (.ref D) H2) :
    tLc (uI X tg iter) (kG X scope tg) (kTs X scope ifs) (kE X scope elt) own σ H Q := by
  rcases bind_some hm with ⟨ts, cs1, h1, h2⟩ | ⟨c, x, h1, rfl⟩
  · refine hi σ H F α env cs _ _ k hs h1 _ fun J H1 F1 α1 e1 s1 w1 D nD => ?_
    rcases bind_some h2 with ⟨us, cs2, h3, h4⟩ | ⟨c, x, h3, rfl⟩
    · exact lc_go hg ht he (k.ext e1) s1 w1 h3 (hsz _ _ _ h4) nD fun H2 F2 α2 vs e2 s2 r2 => q us cs2 D H2 F2 α2 vs h4 (s1.noG nD) (e1.trans e2) s2 r2
    · obtain ⟨us, e⟩ := lcL_ok h3
      cases e
  · exact hi σ H F α env cs _ _ k hs h1 _ fun H1 F1 α1 d e1 s1 r1 => hex c x rfl H1 F1 α1 d e1 s1 r1
theorem lc_fin {F : Hp} {α : List Addr} {cs' cs2 : Cs} {o : Out T} {Q : VK} (q : PostE B G F α Q W o cs') {us : List T} {D : Addr} {H2 F2 : Hp} {α2 : List Addr} {vs : List V} (h : (if us.length ≤ sizeLine then some (Out.ok (T.lst us), cs2) else none) = some (o, cs')) (nG : G D = none) (e : Ext F α F2 α2) (s2 : Hs B (upd G D (.lst vs)) F2 H2 α2 cs2) (r2 : RepL B F2 α2 vs us) : Q (.ref D) H2 := by
  by_cases hz : us.length ≤ sizeLine
  · rw [if_pos hz] at h
    cases h
    obtain ⟨s3, e3⟩ := s2.take nG
    exact q _ _ _ _ (e.trans e3) s3 (.lst upd_same (r2.ext e3))
  · rw [if_neg hz] at h; cases h
theorem lc_finO {F : Hp} {α : List Addr} {cs' cs2 : Cs} {o : Out T} {Q : VK} (q : PostE B G F α Q W o cs') {us : List T} {D : Addr} {H2 F2 : Hp} {α2 : List Addr} {vs : List V} (h : (if us.length ≤ sizeLine then some (Out.ok (T.own cs2.length), cs2 ++ [Cell.lst us]) else none) = some (o, cs')) (nG : G D = none) (e : Ext F α F2 α2) (s2 : Hs B (upd G D (.lst vs)) F2 H2 α2 cs2) (r2 : RepL B F2 α2 vs us) : Q (.ref D) H2 := by
  by_cases hz : us.length ≤ sizeLine
  · rw [if_pos hz] at h
    cases h
    obtain ⟨s3, e3⟩ := s2.takeO (c := .lst us) nG ⟨vs, s2.gd D _ upd_same, r2.mono (Same.refl _) (List.prefix_append _ _)⟩
    refine q _ _ _ _ (e.trans e3) s3 (.own ?_)
    rw [← s2.len, List.getElem?_append_right (Nat.le_refl _), Nat.sub_self]
    rfl
  · rw [if_neg hz] at h; cases h
theorem if_some {p : Prop} [Decidable p] {α : Type} {a : α} {r : α} (h : (if p then some a else none) = some r) : p := by
  by_cases e : p
  · exact e
  · rw [if_neg e] at h; cases h
section
variable {scope : Scope} {elt tg iter : Expr} {ifs : List Expr} {own : List (Str × Nat)} {on : List Nat} {mi : Env → M Seq} {g : T → Env → Option Env} {mt : Env → M Bool} {me : ME} {pos : Pos}
theorem pe_lcU (hc : X.calm = true) (hN : X.N.Nodup) (ok : BlkOk X.N X.env.scope scope own) (hf : ∀ x, foldedSetIterable iter X.env x = pure x) :
    PE X (.ListComp elt [⟨tg, iter, ifs, 0⟩] scope pos) (tLc (uI X tg iter) (kG X scope tg) (kTs X scope ifs) (kE X scope elt) (own.map (·.2))) :=
  pe_lc hc hN (pi_u X tg iter) ok (fun s H C cl fp => ⟨fun pins s' σ H' v u Q I r h => (pg_u _ tg).run pins s' σ H' v u Q I r (h s H C cl fp)⟩) (fun s H C cl fp => ⟨fun pins s' σ H' Q I h => (pts_u _ ifs).run pins s' σ H' Q I (h s H C cl fp)⟩)
    (fun s H C cl fp => ⟨fun pins s' σ H' Q I h => (pe_u _ elt).run pins s' σ H' Q I (h s H C cl fp)⟩) hf
theorem s_lc (hc : X.calm = true) (hN : X.N.Nodup) (ok : BlkOk X.N X.env.scope scope own) (hi : SimI B G X W tg iter mi)
    (hg : ∀ G, Blk X scope fun Y => SimG B G Y tg (own.map (·.2)) g) (ht : ∀ G, Blk X scope fun Y => SimTs B G Y E0 ifs mt) (he : ∀ G, Blk X scope fun Y => SimE B G Y E0 elt me) (hf : ∀ x, foldedSetIterable iter X.env x = pure x := by intro _; rfl) :
    SimE B G X W (.ListComp elt [⟨tg, iter, ifs, 0⟩] scope pos) (mLc (own.map (·.2)) mi g mt me) := by
  intro σ H F α env cs o cs' k hs hm Q q
  exact ⟨_, pe_lcU hc hN ok hf, lc_read (f := T.lst) hi hg ht he k hs hm q.exn (fun us cs2 r h => if_some h) fun us cs2 D H2 F2 α2 vs h nG e s2 r2 => lc_fin q h nG e s2 r2⟩
theorem s_lcO (hc : X.calm = true) (hN : X.N.Nodup) (ok : BlkOk X.N X.env.scope scope own) (hi : SimI B G X W tg iter mi)
    (hg : ∀ G, Blk X scope fun Y => SimG B G Y tg (own.map (·.2)) g) (ht : ∀ G, Blk X scope fun Y => SimTs B G Y E0 ifs mt) (he : ∀ G, Blk X scope fun Y => SimE B G Y E0 elt me) (hf : ∀ x, foldedSetIterable iter X.env x = pure x := by intro _; rfl) :
    SimE B G X W (.ListComp elt [⟨tg, iter, ifs, 0⟩] scope pos) (mLcO (own.map (·.2)) mi g mt me) := by
  intro σ H F α env cs o cs' k hs hm Q q
  exact ⟨_, pe_lcU hc hN ok hf, lc_read (f := T.lst) hi hg ht he k hs hm q.exn (fun us cs2 r h => if_some h) fun us cs2 D H2 F2 α2 vs h nG e s2 r2 => lc_finO q h nG e s2 r2⟩
/-- name = [.. for ..] -/
theorem t_setLc {i : Nat} {y : Str} {py spos : Pos} (hc : X.calm = true) (hN : X.N.Nodup) (hy : X.N[i]? = some y) (hyl : X.env.scope.names.lookup y = some .local)
    (hsw : swapsWith (.ListComp elt [⟨tg, iter, ifs, 0⟩] scope pos) (some (.Name y py)) spos.line X.env = pure true) (ok : BlkOk X.N X.env.scope scope own) (hi : SimI B G X W tg iter mi)
    (hg : ∀ G, Blk X scope fun Y => SimG B G Y tg (own.map (·.2)) g) (ht : ∀ G, Blk X scope fun Y => SimTs B G Y E0 ifs mt) (he : ∀ G, Blk X scope fun Y => SimE B G Y E0 elt me) (hf : ∀ x, foldedSetIterable iter X.env x = pure x := by intro _; rfl) :
    SimS B G X W (.Assign [.Name y py] (.ListComp elt [⟨tg, iter, ifs, 0⟩] scope pos) spos) (sSet i (mLc (own.map (·.2)) mi g mt me)) := by
  intro σ H F α env cs fl cs' k hs hm D q
  refine ⟨_, ps_setLc (g := kG X scope tg) (tt := kTs X scope ifs) (te := kE X scope elt) hc hN hy hyl hsw (pi_u X tg iter) ok (fun s H C cl fp => ⟨fun pins s' σ H' v u Q I r h => (pg_u _ tg).run pins s' σ H' v u Q I r (h s H C cl fp)⟩) (fun s H C cl fp => ⟨fun pins s' σ H' Q I h => (pts_u _ ifs).run pins s' σ H' Q I (h s H C cl fp)⟩)
    (fun s H C cl fp => ⟨fun pins s' σ H' Q I h => (pe_u _ elt).run pins s' σ H' Q I (h s H C cl fp)⟩) hf, ?_⟩
  rcases go_some hm with ⟨t, cs1, h1, h2⟩ | ⟨c, x, h1, rfl⟩
  · cases h2
    have qe : PostE B G F α (fun v H' => gName i v σ H' D.nx) W (.ok t) cs' := fun v H1 F1 α1 e1 s1 r1 => q _ H1 F1 α1 e1 s1 ((k.ext e1).set i r1)
    exact lc_read (f := T.lst) hi hg ht he k hs h1 qe.exn (fun us cs2 r h => if_some h) fun us cs2 D H2 F2 α2 vs h nG e s2 r2 => lc_fin qe h nG e s2 r2
  · have qe : PostE B G F α (fun v H' => gName i v σ H' D.nx) W (.ex c x) cs' := q
    exact lc_read (f := T.lst) hi hg ht he k hs h1 qe.exn (fun us cs2 r h => if_some h) fun us cs2 D H2 F2 α2 vs h nG e s2 r2 => lc_fin qe h nG e s2 r2
theorem t_setLcO {i : Nat} {y : Str} {py spos : Pos} (hc : X.calm = true) (hN : X.N.Nodup) (hy : X.N[i]? = some y) (hyl : X.env.scope.names.lookup y = some .local)
    (hsw : swapsWith (.ListComp elt [⟨tg, iter, ifs, 0⟩] scope pos) (some (.Name y py)) spos.line X.env = pure true) (ok : BlkOk X.N X.env.scope scope own) (hi : SimI B G X W tg iter mi)
    (hg : ∀ G, Blk X scope fun Y => SimG B G Y tg (own.map (·.2)) g) (ht : ∀ G, Blk X scope fun Y => SimTs B G Y E0 ifs mt) (he : ∀ G, Blk X scope fun Y => SimE B G Y E0 elt me) (hf : ∀ x, foldedSetIterable iter X.env x = pure x := by intro _; rfl) :
    SimS B G X W (.Assign [.Name y py] (.ListComp elt [⟨tg, iter, ifs, 0⟩] scope pos) spos) (sSet i (mLcO (own.map (·.2)) mi g mt me)) := by
  intro σ H F α env cs fl cs' k hs hm D q
  refine ⟨_, ps_setLc (g := kG X scope tg) (tt := kTs X scope ifs) (te := kE X scope elt) hc hN hy hyl hsw (pi_u X tg iter) ok (fun s H C cl fp => ⟨fun pins s' σ H' v u Q I r h => (pg_u _ tg).run pins s' σ H' v u Q I r (h s H C cl fp)⟩) (fun s H C cl fp => ⟨fun pins s' σ H' Q I h => (pts_u _ ifs).run pins s' σ H' Q I (h s H C cl fp)⟩)
    (fun s H C cl fp => ⟨fun pins s' σ H' Q I h => (pe_u _ elt).run pins s' σ H' Q I (h s H C cl fp)⟩) hf, ?_⟩
  rcases go_some hm with ⟨t, cs1, h1, h2⟩ | ⟨c, x, h1, rfl⟩
  · cases h2
    have qe : PostE B G F α (fun v H' => gName i v σ H' D.nx) W (.ok t) cs' := fun v H1 F1 α1 e1 s1 r1 => q _ H1 F1 α1 e1 s1 ((k.ext e1).set i r1)
    exact lc_read (f := T.lst) hi hg ht he k hs h1 qe.exn (fun us cs2 r h => if_some h) fun us cs2 D H2 F2 α2 vs h nG e s2 r2 => lc_finO qe h nG e s2 r2
  · have qe : PostE B G F α (fun v H' => gName i v σ H' D.nx) W (.ex c x) cs' := q
    exact lc_read (f := T.lst) hi hg ht he k hs h1 qe.exn (fun us cs2 r h => if_some h) fun us cs2 D H2 F2 α2 vs h nG e s2 r2 => lc_finO qe h nG e s2 r2
end
/-! ### what loops walk -/
/-- that a cell is as it was -/
def ckOwn (k : Nat) (us : List T) (cs : Cs) : Bool := match cs[k]? with
  | some (.lst ws) => beqL ws us
  | _ => false
theorem ckOwn_some {k : Nat} {us : List T} {cs : Cs} (h : ckOwn k us cs = true) : cs[k]? = some (.lst us) := by
  unfold ckOwn at h
  split at h
  · rename_i ws e
    rw [e, of_beqL ws us h]
  · cases h
/-- a list, a tuple; a text -/
def itT (cs : Cs) : T → Option Seq
  | .lst ts => some (fr ts)
  | .ro ts => some (fr ts)
  | .tup ts => some (fr ts)
  | .str z => some (fr (z.cps.toList.map fun c => .str ⟨#[c]⟩))
  | .own k => match cs[k]? with
    | some (.lst us) => some (us, ckOwn k us)
    | _ => none
  | _ => none
def mIt (m : ME) : Env → M Seq := fun env => (m env).bind fun t => fun cs => (itT cs t).map fun p => (.ok p, cs)
theorem walkT_at {F1 : Hp} {α1 : List Addr} {J : It} {ts : List T} {xs : List V} {Gw : Hp → Prop} (r : RepL B F1 α1 xs ts) (w : Walk J xs.length Gw (YAt xs)) (hG : ∀ H2, Same F1 H2 → Gw H2) : WalkT B F1 α1 J (fr ts) := by
  refine ⟨Gw, YAt xs, by rw [← r.length]; exact w, fun G H2 F2 α2 cs2 e s _ => hG H2 (e.s.trans s.same), fun G i H x H' F2 α2 cs2 t e s _ y ht => ?_⟩
  obtain ⟨rfl, hx⟩ := y
  obtain ⟨v, hv, rv⟩ := r.get ht
  rw [hx] at hv
  cases hv
  exact ⟨F2, Ext.refl _ _, s, rv.ext e⟩
theorem walkO_at {F1 : Hp} {α1 : List Addr} {a : Addr} {k : Nat} {us : List T} (hk : α1[k]? = some a) : WalkT B F1 α1 (Itl B.K a) (us, ckOwn k us) := by
  refine ⟨fun H => ∃ xs, SqL B.K H a xs ∧ xs.length = us.length, fun i H x H' => H' = H ∧ ∀ xs, SqL B.K H a xs → xs[i]? = some x, ⟨fun i H hi ⟨xs, q, e⟩ => ⟨xs, xs[i]'(by rw [e]; exact hi), q, by simp [show i < xs.length by rw [e]; exact hi]⟩, fun H ⟨xs, q, e⟩ => ⟨xs, q, by rw [e]; exact Nat.le_refl _⟩, fun i H x H' hi q y => y⟩, fun G H2 F2 α2 cs2 e s hc => ?_, fun G i H x H' F2 α2 cs2 t e s hc y ht => ?_⟩
  · obtain ⟨vs, h1, h2⟩ := s.cell k a _ (get_pre e.p hk) (ckOwn_some hc)
    exact ⟨vs, SqL.of h1, h2.length⟩
  · obtain ⟨rfl, hx⟩ := y
    obtain ⟨vs, h1, h2⟩ := s.cell k a _ (get_pre e.p hk) (ckOwn_some hc)
    obtain ⟨v, hv, rv⟩ := h2.get ht
    rw [hx vs (SqL.of h1)] at hv
    cases hv
    exact ⟨F2, Ext.refl _ _, s, rv⟩
theorem PostI.exn {F : Hp} {α : List Addr} {R : It → Hp → Prop} {o : Out Seq} {cs : Cs} (h : PostI B G F α R W o cs) : ∀ c x, o = .ex c x → ∀ H' F' α' d, Ext F α F' α' → Hs B G F' H' α' cs → ExAt B F' α' H' c x d → W (.ref (B.at_ c)) d H' := fun c x e => by
  subst e
  exact h
theorem i_seq {tg it : Expr} {m : ME} (hK : X.K = B.K) (h : SimE B G X W it m) : SimI B G X W tg it (mIt m) := by
  intro σ H F α env cs o cs' he hs hm R q
  rcases bind_some hm with ⟨t, cs1, h1, h2⟩ | ⟨c, x, h1, rfl⟩
  · have go : ∀ {ts : Seq}, itT cs1 t = some ts → o = .ok ts ∧ cs' = cs1 := fun {ts} ht => by
      rw [ht] at h2
      cases h2
      exact ⟨rfl, rfl⟩
    cases t with
    | lst ts =>
      obtain ⟨rfl, rfl⟩ := go (ts := fr ts) rfl
      refine ⟨_, pi_list (pe_u X it), ?_⟩
      refine h σ H F α env cs _ _ he hs h1 _ fun v H1 F1 α1 e1 s1 r1 => ?_
      cases r1 with
      | @lst a vs _ hq hr =>
        rw [hK]
        exact ⟨a, rfl, ⟨vs, SqL.of (s1.same _ _ hq)⟩, q _ H1 F1 α1 e1 s1 (walkT_at hr walk_list fun H2 s2 => SqL.of (s2 _ _ hq))⟩
    | ro ts =>
      obtain ⟨rfl, rfl⟩ := go (ts := fr ts) rfl
      refine ⟨_, pi_list (pe_u X it), ?_⟩
      refine h σ H F α env cs _ _ he hs h1 _ fun v H1 F1 α1 e1 s1 r1 => ?_
      cases r1 with
      | @ro a vs _ hq hr =>
        rw [hK]
        exact ⟨a, rfl, ⟨vs, s1.same.seq hq⟩, q _ H1 F1 α1 e1 s1 (walkT_at hr walk_list fun H2 s2 => s2.seq hq)⟩
    | tup ts =>
      obtain ⟨rfl, rfl⟩ := go (ts := fr ts) rfl
      refine ⟨_, pi_tup (pe_u X it), ?_⟩
      refine h σ H F α env cs _ _ he hs h1 _ fun v H1 F1 α1 e1 s1 r1 => ?_
      cases r1 with
      | @tup a vs _ hq hr =>
        rw [hK]
        exact ⟨a, rfl, ⟨vs, Ts.Same.sqt s1.same hq⟩, q _ H1 F1 α1 e1 s1 (walkT_at hr walk_tup fun H2 s2 => Ts.Same.sqt s2 hq)⟩
    | str z =>
      obtain ⟨rfl, rfl⟩ := go (ts := fr (z.cps.toList.map fun c => .str ⟨#[c]⟩)) rfl
      refine ⟨_, pi_str (pe_u X it), ?_⟩
      refine h σ H F α env cs _ _ he hs h1 _ fun v H1 F1 α1 e1 s1 r1 => ?_
      cases r1 with
      | str _ =>
        refine ⟨z, rfl, q _ H1 F1 α1 e1 s1 ⟨_, _, by rw [List.length_map, Array.length_toList]; exact walk_str, fun _ _ _ _ _ _ _ _ => trivial, fun G i H x H' F2 α2 cs2 t e s _ y ht => ?_⟩⟩
        obtain ⟨rfl, c, hc, rfl⟩ := y
        rw [List.getElem?_map, Array.getElem?_toList, hc] at ht
        cases ht
        exact ⟨F2, Ext.refl _ _, s, .str _⟩
    | own k =>
      have h2 : ((match cs1[k]? with | some (.lst us) => some (us, ckOwn k us) | _ => none : Option Seq).map fun p => (Out.ok p, cs1)) = some (o, cs') := h2
      cases hc : cs1[k]? with
      | none => rw [hc] at h2; cases h2
      | some cc =>
        rw [hc] at h2
        cases cc with
        | lst us =>
          cases h2
          refine ⟨_, pi_list (pe_u X it), ?_⟩
          refine h σ H F α env cs _ _ he hs h1 _ fun v H1 F1 α1 e1 s1 r1 => ?_
          cases r1 with
          | @own a _ hk =>
            rw [hK]
            obtain ⟨vs, g1, g2⟩ := s1.cell k a _ hk hc
            exact ⟨a, rfl, ⟨vs, SqL.of g1⟩, q _ H1 F1 α1 e1 s1 (walkO_at hk)⟩
        | _ => cases h2
    | _ => cases h2
  · refine ⟨_, pi_list (pe_u X it), ?_⟩
    exact h σ H F α env cs _ _ he hs h1 _ q
def mRng1 (a : MA) : Env → M Seq := fun env => (a env).bind fun ts => fun cs => match ts with
  | [.int j] => if -(2 ^ 62) ≤ j ∧ j < 2 ^ 62 then some (.ok (fr ((List.range j.toNat).map fun (i : Nat) => .int (i : Int))), cs) else none
  | _ => none
theorem i_rng1 {tg a : Expr} {p pos : Pos} {m : MA} (hg : Gl X "range") (hm : X.mg "range" = none) (ha : SimA B G X W [a] m) (hs' : starEach [a] X.env = [(false, eval a X.env)] := by rfl) : SimI B G X W tg (.Call (.Name "range" p) [a] [] pos) (mRng1 m) := by
  intro σ H F α env cs o cs' he hs hm' R q
  refine ⟨_, pi_range1 hg hm (pa_u X _) hs', ?_⟩
  refine ha.then he hs hm' q.exn fun ts cs1 vs H1 F1 α1 h1 e1 s1 r1 => ?_
  split at h1
  · rename_i j
    obtain ⟨v, rfl, rv⟩ := r1.one
    cases rv
    have hj := if_some h1
    rw [if_pos hj] at h1
    cases h1
    refine ⟨j, rfl, hj.1, hj.2, q _ H1 F1 α1 e1 s1 ⟨_, _, by rw [List.length_map, List.length_range]; exact walk_range, fun _ _ _ _ _ _ _ _ => trivial, fun G i H x H' F2 α2 cs2 t e s _ y ht => ?_⟩⟩
    obtain ⟨rfl, rfl⟩ := y
    rw [List.getElem?_map] at ht
    cases hi : (List.range j.toNat)[i]? with
    | none => rw [hi] at ht; cases ht
    | some k =>
      rw [hi] at ht
      cases ht
      have : k = i := by
        rw [List.getElem?_range ((List.length_range (n := j.toNat)) ▸ (List.getElem?_eq_some_iff.mp hi).1)] at hi
        exact (Option.some.inj hi).symm
      subst this
      exact ⟨F2, Ext.refl _ _, s, by show Rep B F2 α2 (.int (0 + (k : Int))) (.int (k : Int)); rw [Int.zero_add]; exact .int _⟩
  · cases h1
def mRng2 (a : MA) : Env → M Seq := fun env => (a env).bind fun ts => fun cs => match ts with
  | [.int i, .int j] => if -(2 ^ 62) ≤ i ∧ i < 2 ^ 62 ∧ -(2 ^ 62) ≤ j ∧ j < 2 ^ 62 then some (.ok (fr ((List.range (j - i).toNat).map fun (k : Nat) => .int (i + (k : Int)))), cs) else none
  | _ => none
theorem i_rng2 {tg a b : Expr} {p pos : Pos} {m : MA} (hg : Gl X "range") (hm : X.mg "range" = none) (ha : SimA B G X W [a, b] m) (hs' : starEach [a, b] X.env = [(false, eval a X.env), (false, eval b X.env)] := by rfl) (hs2 : starEach [b] X.env = [(false, eval b X.env)] := by rfl) :
    SimI B G X W tg (.Call (.Name "range" p) [a, b] [] pos) (mRng2 m) := by
  intro σ H F α env cs o cs' he hs hm' R q
  refine ⟨_, pi_range2 hg hm (pa_u X _) hs' hs2, ?_⟩
  refine ha.then he hs hm' q.exn fun ts cs1 vs H1 F1 α1 h1 e1 s1 r1 => ?_
  split at h1
  · rename_i i0 j
    obtain ⟨v, v2, rfl, rv, rv2⟩ := r1.two
    cases rv
    cases rv2
    have hj := if_some h1
    rw [if_pos hj] at h1
    cases h1
    refine ⟨i0, j, rfl, hj, q _ H1 F1 α1 e1 s1 ⟨_, _, by rw [List.length_map, List.length_range]; exact walk_range, fun _ _ _ _ _ _ _ _ => trivial, fun G i H x H' F2 α2 cs2 t e s _ y ht => ?_⟩⟩
    obtain ⟨rfl, rfl⟩ := y
    rw [List.getElem?_map] at ht
    cases hi : (List.range (j - i0).toNat)[i]? with
    | none => rw [hi] at ht; cases ht
    | some k =>
      rw [hi] at ht
      cases ht
      have : k = i := by
        rw [List.getElem?_range ((List.length_range (n := (j - i0).toNat)) ▸ (List.getElem?_eq_some_iff.mp hi).1)] at hi
        exact (Option.some.inj hi).symm
      subst this
      exact ⟨F2, Ext.refl _ _, s, .int _⟩
  · cases h1
/-- enumerate of a frozen list or tuple -/
def enumFrom (n : Nat) : List T → List T
  | [] => []
  | t :: ts => .tup [.int n, t] :: enumFrom (n + 1) ts
theorem enumFrom_length : ∀ (n : Nat) (ts : List T), (enumFrom n ts).length = ts.length
  | _, [] => rfl
  | n, _ :: ts => congrArg (· + 1) (enumFrom_length (n + 1) ts)
theorem enumFrom_get : ∀ (n : Nat) (ts : List T) (i : Nat), (enumFrom n ts)[i]? = (ts[i]?).map fun t => .tup [.int ((n + i : Nat) : Int), t]
  | _, [], i => by simp [enumFrom]
  | n, t :: ts, 0 => by simp [enumFrom]
  | n, t :: ts, i + 1 => by
    show (enumFrom (n + 1) ts)[i]? = _
    rw [enumFrom_get (n + 1) ts i, List.getElem?_cons_succ, show n + 1 + i = n + (i + 1) by omega]
def seqT (cs : Cs) : T → Option Seq
  | .lst ts => some (fr ts)
  | .tup ts => some (fr ts)
  | .own k => match cs[k]? with
    | some (.lst us) => some (us, ckOwn k us)
    | _ => none
  | _ => none
def mEnum (a : MA) : Env → M Seq := fun env => (a env).bind fun ts => fun cs => match ts with
  | [t] => (seqT cs t).map fun p => (.ok (enumFrom 0 p.1, p.2), cs)
  | _ => none
theorem enum_at {F1 : Hp} {α1 : List Addr} {J : It} {us : List T} {xs : List V} {Gw : Hp → Prop} (r : RepL B F1 α1 xs us) (w : Walk J xs.length Gw (YPair (fun i => some (.int (i : Nat))) (fun i => xs[i]?))) (hG : ∀ H2, Same F1 H2 → Gw H2) : WalkT B F1 α1 J (fr (enumFrom 0 us)) := by
  refine ⟨Gw, _, by rw [enumFrom_length, ← r.length]; exact w, fun G H2 F2 α2 cs2 e s _ => hG H2 (e.s.trans s.same), fun G i H x H' F2 α2 cs2 t e s _ y ht => ?_⟩
  obtain ⟨Tt, x1, y1, rfl, nT, rfl, e1, e2⟩ := y
  cases e1
  rw [enumFrom_get] at ht
  cases hu : us[i]? with
  | none => rw [hu] at ht; cases ht
  | some u =>
    rw [hu] at ht
    cases ht
    obtain ⟨v, hv, rv⟩ := r.get hu
    have e2 : xs[i]? = some y1 := e2
    rw [e2] at hv
    cases hv
    obtain ⟨s3, e3⟩ := s.frozen (o := .tup [.int (i : Nat), y1]) nT
    refine ⟨_, e3, s3, .tup (SqT.of upd_same) (.cons ?_ (.cons ((rv.ext e).ext e3) .nil))⟩
    rw [Nat.zero_add]
    exact .int _
theorem enumO_at {F1 : Hp} {α1 : List Addr} {a : Addr} {k : Nat} {us : List T} (hk : α1[k]? = some a) : WalkT B F1 α1 (Ite B.K a) (enumFrom 0 us, ckOwn k us) := by
  refine ⟨fun H => ∃ xs, SqL B.K H a xs ∧ xs.length = us.length, fun i H v H' => ∃ T x, v = .ref T ∧ H T = none ∧ H' = upd H T (.tup [.int (i : Nat), x]) ∧ ∀ xs, SqL B.K H a xs → xs[i]? = some x, ⟨fun i H hi ⟨xs, q, e⟩ => ?_, fun H ⟨xs, q, e⟩ => ⟨xs, q, by show xs.length ≤ (enumFrom 0 us).length; rw [enumFrom_length, e]; exact Nat.le_refl _⟩, fun i H x H' hi q y => y⟩, fun G H2 F2 α2 cs2 e s hc => ?_, fun G i H x H' F2 α2 cs2 t e s hc y ht => ?_⟩
  · have hi : i < xs.length := by
      have : i < (enumFrom 0 us).length := hi
      rw [enumFrom_length] at this
      rw [e]; exact this
    exact ⟨xs, xs[i], q, by simp [hi]⟩
  · obtain ⟨vs, h1, h2⟩ := s.cell k a _ (get_pre e.p hk) (ckOwn_some hc)
    exact ⟨vs, SqL.of h1, h2.length⟩
  · obtain ⟨Tt, x1, rfl, nT, rfl, hx⟩ := y
    have ht : (enumFrom 0 us)[i]? = some t := ht
    rw [enumFrom_get] at ht
    cases hu : us[i]? with
    | none => rw [hu] at ht; cases ht
    | some u =>
      rw [hu] at ht
      cases ht
      obtain ⟨vs, h1, h2⟩ := s.cell k a _ (get_pre e.p hk) (ckOwn_some hc)
      obtain ⟨v, hv, rv⟩ := h2.get hu
      rw [hx vs (SqL.of h1)] at hv
      cases hv
      obtain ⟨s3, e3⟩ := s.frozen (o := .tup [.int (i : Nat), x1]) nT
      refine ⟨_, e3, s3, .tup (SqT.of upd_same) (.cons ?_ (.cons (rv.ext e3) .nil))⟩
      rw [Nat.zero_add]
      exact .int _
def iEnumT (K : PySem.W.Frag) (ta : TA) : TI := fun σ H R => ta σ H fun vs H1 => ∃ a xs, vs = [.ref a] ∧ SqT K H1 a xs ∧ R (Ts.IteT K a) H1
open PyProof.Rows in
theorem pi_enumT {e : Expr} {ta : TA} {p pos tpos : Pos} {elts : List Expr} {kk : Nat} (hg : Gl X "enumerate") (hm : X.mg "enumerate" = none) (ha : PA X [e] ta) (hs : starEach [e] X.env = [(false, eval e X.env)] := by rfl) :
    PI X (.Tuple elts kk tpos) (.Call (.Name "enumerate" p) [e] [] pos) (iEnumT X.K ta) := by
  refine ⟨fun pins s σ H R I h => ?_⟩
  refine Call_ (ld_blt I hg hm boot_enumerate (PyProof.Rows.callWith_type1 (thn (ha.run pos pins s σ H _ I h) fun us s1 ⟨vs, H1, I1, r1, q1⟩ => ?_) hs rfl))
  obtain ⟨a, xs, ex, hq, q⟩ := q1
  subst ex
  cases r1 with
  | cons r rr =>
    cases rr
    cases r
    have fin : ∀ {h' : Heap}, (∀ b o, s1.heap.get? b = some o → h'.get? b = some o) → ∀ b ∈ [s1.heap.objs.size + 1, s1.heap.objs.size], FpOk X pins H1 b := fun {h'} hk b hb => by
      have e' : b = s1.heap.objs.size + 1 ∨ b = s1.heap.objs.size := by simpa using hb
      have hle : s1.heap.objs.size ≤ b := by
        rcases e' with z | z
        · rw [z]; exact Nat.le_add_right _ _
        · rw [z]; exact Nat.le_refl _
      exact I1.fpOk hle (I1.hok.fresh hle)
    obtain ⟨its, rv, p', hz⟩ := I1.tuple hq
    refine TsE.call_enum (show s1.heap.IsTuple a its.toArray from p') fun h' he hit hsz hk => wpAny_pyIter_enum he ?_
    have I2 : Inv X pins σ H1 { s1 with heap := h' } := I1.kept (t' := s1.toks) hk
    exact ⟨s1.heap.objs.size + 1, [s1.heap.objs.size + 1, s1.heap.objs.size], _, _, H1, rfl, I2, Ts.turn_enumT a (s1.heap.objs.size + 1) s1.heap.objs.size, ⟨⟨.none, he⟩, hit, Nat.succ_ne_self _⟩, fin hk, q⟩
theorem i_enum {e : Expr} {elts : List Expr} {kk : Nat} {p pos tpos : Pos} {m : MA} (hK : X.K = B.K) (hg : Gl X "enumerate") (hm : X.mg "enumerate" = none) (ha : SimA B G X W [e] m) (hs' : starEach [e] X.env = [(false, eval e X.env)] := by rfl) :
    SimI B G X W (.Tuple elts kk tpos) (.Call (.Name "enumerate" p) [e] [] pos) (mEnum m) := by
  intro σ H F α env cs o cs' he hs hm' R q
  rcases bind_some hm' with ⟨ts, cs1, h1, h2⟩ | ⟨c, x, h1, rfl⟩
  · split at h2
    · rename_i t
      cases t with
      | lst us =>
        cases h2
        refine ⟨_, pi_enum hg hm (pa_u X _) hs', ?_⟩
        refine ha σ H F α env cs _ _ he hs h1 _ fun vs H1 F1 α1 e1 s1 r1 => ?_
        obtain ⟨v, rfl, rv⟩ := r1.one
        cases rv with
        | @lst a xs _ hq hr =>
          rw [hK]
          exact ⟨a, xs, rfl, SqL.of (s1.same _ _ hq), q _ H1 F1 α1 e1 s1 (enum_at hr walk_enum fun H2 s2 => SqL.of (s2 _ _ hq))⟩
      | tup us =>
        cases h2
        refine ⟨_, pi_enumT hg hm (pa_u X _) hs', ?_⟩
        refine ha σ H F α env cs _ _ he hs h1 _ fun vs H1 F1 α1 e1 s1 r1 => ?_
        obtain ⟨v, rfl, rv⟩ := r1.one
        cases rv with
        | @tup a xs _ hq hr =>
          rw [hK]
          exact ⟨a, xs, rfl, Ts.Same.sqt s1.same hq, q _ H1 F1 α1 e1 s1 (enum_at hr Ts.walk_enumT fun H2 s2 => Ts.Same.sqt s2 hq)⟩
      | own k =>
        have h2 : ((match cs1[k]? with | some (.lst us) => some (us, ckOwn k us) | _ => none : Option Seq).map fun p => (Out.ok (enumFrom 0 p.1, p.2), cs1)) = some (o, cs') := h2
        cases hc : cs1[k]? with
        | none => rw [hc] at h2; cases h2
        | some cc =>
          rw [hc] at h2
          cases cc with
          | lst us =>
            cases h2
            refine ⟨_, pi_enum hg hm (pa_u X _) hs', ?_⟩
            refine ha σ H F α env cs _ _ he hs h1 _ fun vs H1 F1 α1 e1 s1 r1 => ?_
            obtain ⟨v, rfl, rv⟩ := r1.one
            cases rv with
            | @own a _ hk =>
              rw [hK]
              obtain ⟨vs, g1, g2⟩ := s1.cell k a _ hk hc
              exact ⟨a, vs, rfl, SqL.of g1, q _ H1 F1 α1 e1 s1 (enumO_at hk)⟩
          | _ => cases h2
      | _ => cases h2
    · cases h2
  · exact ⟨_, pi_enumT hg hm (pa_u X _) hs', ha σ H F α env cs _ _ he hs h1 _ q⟩
end
end Tv

namespace Tv
open PySem L2
section
variable {B : Book} {G : Hp} {X : Cx} {W : XK}
/-! ### methods of built-in types -/
def uMt (X : Cx) (id : String) : V → List V → Hp → VK → Prop := fun x xs H Q => ∃ r, MtR X id r ∧ r x xs H Q
theorem mt_u (X : Cx) (id : String) : MtR X id (uMt X id) := fun pins s σ H x xs v us Q I rx rs ⟨_, h, q⟩ => h pins s σ H x xs v us Q I rx rs q
def SimM (B : Book) (G : Hp) (X : Cx) (W : XK) (id : String) (m : T → List T → M T) : Prop := ∀ H F α cs x t xs ts o cs', Rep B F α x t → RepL B F α xs ts → Hs B G F H α cs → m t ts cs = some (o, cs') → ∀ Q : VK, PostE B G F α Q W o cs' → uMt X id x xs H Q
inductive BT | str | lst | tup
/-- the value is of that type -/
def isBT (cs : Cs) : BT → T → Bool
  | .str, .str _ => true
  | .lst, t => (lstOf cs t).isSome
  | _, _ => false
def BT.name : BT → String
  | .str => "str"
  | .lst => "list"
  | .tup => "tuple"
theorem isBT_at {F H : Hp} {α : List Addr} {cs : Cs} {v : V} {t : T} {b : BT} (r : Rep B F α v t) (hs : Hs B G F H α cs) (h : isBT cs b t = true) : tyV B.K b.name v H := by
  cases b with
  | str =>
    cases r with
    | str x => rfl
    | _ => cases h
  | lst =>
    have h : (lstOf cs t).isSome = true := by cases r <;> exact h
    cases e : lstOf cs t with
    | none => rw [e] at h; cases h
    | some ts =>
      obtain ⟨a, vs, rfl, hq, _⟩ := lst_at r hs e
      exact .inl ⟨rfl, vs, hq⟩
  | tup => cases r <;> cases h
def mBm (b : BT) (m : T → List T → M T) (mo : ME) (a : MA) : ME := fun env => (mo env).bind fun t => fun cs => if isBT cs b t = true then ((a env).bind fun ts => m t ts) cs else none
theorem s_bm {o e : Expr} {es : List Expr} {name : Str} {apos cpos : Pos} {b : BT} {id : String} {m : T → List T → M T} {mo : ME} {a : MA} (hK : X.K = B.K) (hM : SimM B G X W id m) (ho : SimE B G X W o mo) (ha : SimA B G X W (e :: es) a)
    (hp : PE X (.Call (.Attribute o name apos) (e :: es) [] cpos) (tBM X.K b.name (uMt X id) (uE X o) (uA X (e :: es)))) : SimE B G X W (.Call (.Attribute o name apos) (e :: es) [] cpos) (mBm b m mo a) := by
  intro σ H F α env cs ot cs' he hs hm Q q
  refine ⟨_, hp, ?_⟩
  refine ho.then he hs hm q.exn fun t cs1 v H1 F1 α1 h1 e1 s1 r1 => ?_
  by_cases hb : isBT cs1 b t = true
  · rw [if_pos hb] at h1
    refine ⟨by rw [hK]; exact isBT_at r1 s1 hb, ?_⟩
    refine ha.then (he.ext e1) s1 h1 (q.ext e1).exn fun ts cs2 vs H2 F2 α2 h2 e2 s2 r2 => ?_
    exact hM H2 F2 α2 cs2 v t vs ts ot cs' (r1.ext e2) r2 s2 h2 Q ((q.ext e1).ext e2)
  · rw [if_neg hb] at h1; cases h1
theorem s_bm0 {o : Expr} {name : Str} {apos cpos : Pos} {b : BT} {id : String} {m : T → List T → M T} {mo : ME} (hK : X.K = B.K) (hM : SimM B G X W id m) (ho : SimE B G X W o mo)
    (hp : PE X (.Call (.Attribute o name apos) [] [] cpos) (tBM0 X.K b.name (uMt X id) (uE X o))) : SimE B G X W (.Call (.Attribute o name apos) [] [] cpos) (mBm b m mo aNil) := by
  intro σ H F α env cs ot cs' he hs hm Q q
  refine ⟨_, hp, ?_⟩
  refine ho.then he hs hm q.exn fun t cs1 v H1 F1 α1 h1 e1 s1 r1 => ?_
  by_cases hb : isBT cs1 b t = true
  · rw [if_pos hb] at h1
    exact ⟨by rw [hK]; exact isBT_at r1 s1 hb, hM H1 F1 α1 cs1 v t [] [] ot cs' r1 .nil s1 h1 Q (q.ext e1)⟩
  · rw [if_neg hb] at h1; cases h1
/-- xs.append(e) -/
def appendM (t : T) (ts : List T) : M T := fun cs => match t, ts with
  | .own k, [u] => match cs[k]? with
    | some (.lst us) => if us.length < sizeLine then some (.ok .non, cs.set k (.lst (us ++ [u]))) else none
    | _ => none
  | _, _ => none
theorem m_append : SimM B G X W "list.append" appendM := by
  intro H F α cs x t xs ts o cs' rx rs hs hm Q q
  unfold appendM at hm
  split at hm
  · rename_i k u
    cases rx with
    | @own a _ hk =>
      obtain ⟨v, rfl, rv⟩ := rs.one
      split at hm
      · rename_i us hc
        have hz := if_some hm
        rw [if_pos hz] at hm
        cases hm
        obtain ⟨vs, h1, h2⟩ := hs.cell k a _ hk hc
        refine ⟨_, mt_append, a, vs, v, rfl, rfl, h1, by rw [h2.length]; exact hz, ?_⟩
        exact q _ _ _ _ (Ext.refl _ _) (hs.change (c := .lst (us ++ [u])) hk hc rfl ⟨_, upd_same, h2.append (.cons rv .nil)⟩) .non
      · cases hm
  · cases hm
def popM (t : T) (ts : List T) : M T := fun cs => match t, ts with
  | .own k, [] => match cs[k]? with
    | some (.lst us) => match us[us.length - 1]? with
      | some u => some (.ok u, cs.set k (.lst us.dropLast))
      | none => none
    | _ => none
  | .own k, [.int i] => match cs[k]? with
    | some (.lst us) => if -(2 ^ 63) ≤ i ∧ i < 2 ^ 63 then match seqIndex? i us.length with
      | some j => match us[j]? with
        | some u => some (.ok u, cs.set k (.lst (us.eraseIdx j)))
        | none => none
      | none => none
      else none
    | _ => none
  | _, _ => none
theorem RepL.dropLast {F : Hp} {α : List Addr} : ∀ {vs : List V} {ts : List T}, RepL B F α vs ts → RepL B F α vs.dropLast ts.dropLast
  | _, _, .nil => .nil
  | _, _, .cons h .nil => .nil
  | _, _, .cons h (.cons g r) => .cons h (RepL.dropLast (.cons g r))
theorem m_pop : SimM B G X W "list.pop" popM := by
  intro H F α cs x t xs ts o cs' rx rs hs hm Q q
  unfold popM at hm
  split at hm
  · rename_i k
    cases rx with
    | @own a _ hk =>
      cases rs
      split at hm
      · rename_i us hc
        split at hm
        · rename_i u hu
          cases hm
          obtain ⟨vs, h1, h2⟩ := hs.cell k a _ hk hc
          obtain ⟨v, hv, rv⟩ := h2.get hu
          refine ⟨_, mt_pop, a, vs, v, rfl, rfl, h1, by rw [h2.length]; exact hv, ?_⟩
          exact q _ _ _ _ (Ext.refl _ _) (hs.change (c := .lst us.dropLast) hk hc rfl ⟨_, upd_same, h2.dropLast⟩) rv
        · cases hm
      · cases hm
  · rename_i k i
    cases rx with
    | @own a _ hk =>
      obtain ⟨iv, rfl, ri⟩ := rs.one
      cases ri
      split at hm
      · rename_i us hc
        by_cases hi : -(2 ^ 63) ≤ i ∧ i < 2 ^ 63
        · rw [if_pos hi] at hm
          cases hj : seqIndex? i us.length with
          | none => simp only [hj] at hm; cases hm
          | some j =>
            simp only [hj] at hm
            cases hu : us[j]? with
            | none => simp only [hu] at hm; cases hm
            | some u =>
              simp only [hu] at hm
              cases hm
              obtain ⟨vs, h1, h2⟩ := hs.cell k a _ hk hc
              obtain ⟨v, hv, rv⟩ := h2.get hu
              refine ⟨_, mt_popAt, a, vs, i, j, v, rfl, rfl, h1, hi.1, hi.2, by rw [h2.length]; exact hj, hv, ?_⟩
              exact q _ _ _ _ (Ext.refl _ _) (hs.change (c := .lst (us.eraseIdx j)) hk hc rfl ⟨_, upd_same, h2.eraseIdx j⟩) rv
        · rw [if_neg hi] at hm; cases hm
      · cases hm
  · cases hm
/-- text.split(sep) -/
def splitM (t : T) (ts : List T) : M T := fun cs => match t, ts with
  | .str a, [.str b] => if (b.length == 0) = false ∧ a.length + 2 ≤ sizeLine then some (.ok (.lst ((Txt.split a b).map .str)), cs) else none
  | _, _ => none
theorem repL_strs {F : Hp} {α : List Addr} : ∀ ys : List Str, RepL B F α (ys.map V.str) (ys.map T.str)
  | [] => .nil
  | y :: ys => .cons (.str y) (repL_strs ys)
theorem m_split : SimM B G X W "str.split" splitM := by
  intro H F α cs x t xs ts o cs' rx rs hs hm Q q
  unfold splitM at hm
  split at hm
  · rename_i a b
    cases rx
    obtain ⟨v, rfl, rv⟩ := rs.one
    cases rv
    have hc := if_some hm
    rw [if_pos hc] at hm
    cases hm
    refine ⟨_, mt_split, a, b, rfl, rfl, hc.1, hc.2, fun p np => ?_⟩
    obtain ⟨s1, x1⟩ := hs.frozen (o := .lst ((Txt.split a b).map V.str)) np
    exact q _ _ _ _ x1 s1 (.lst upd_same (repL_strs _))
  · cases hm
/-- sep.join(texts) -/
def strsT : List T → Option (List Str)
  | [] => some []
  | .str x :: ts => match strsT ts with
    | some xs => some (x :: xs)
    | none => none
  | _ :: _ => none
theorem strs_at {F : Hp} {α : List Addr} : ∀ {vs : List V} {ts : List T} {xs : List Str}, RepL B F α vs ts → strsT ts = some xs → vs = xs.map V.str
  | _, [], xs, r, h => by cases h; cases r; rfl
  | _, t :: ts, xs, r, h => by
    cases r with
    | cons rt rr =>
      cases rt with
      | str x =>
        have h : (match strsT ts with | some xs => some (x :: xs) | none => none) = some xs := h
        cases e : strsT ts with
        | none => rw [e] at h; cases h
        | some ys =>
          rw [e] at h
          cases h
          rw [strs_at rr e]
          rfl
      | _ => cases h
def joinM (t : T) (ts : List T) : M T := fun cs => match t, ts with
  | .str a, [u] => match seqOf cs u with
    | some us => match strsT us with
      | some ys => if (ys.map (·.length)).sum + ys.length * a.length ≤ 16777216 then some (.ok (.str (Txt.join a ys)), cs) else none
      | none => none
    | none => none
  | _, _ => none
theorem m_join (hK : X.K = B.K) : SimM B G X W "str.join" joinM := by
  intro H F α cs x t xs ts o cs' rx rs hs hm Q q
  unfold joinM at hm
  split at hm
  · rename_i a u
    cases rx
    obtain ⟨v, rfl, rv⟩ := rs.one
    cases e1 : seqOf cs u with
    | none => simp only [e1] at hm; cases hm
    | some us =>
      simp only [e1] at hm
      cases e2 : strsT us with
      | none => simp only [e2] at hm; cases hm
      | some ys =>
        simp only [e2] at hm
        have hc := if_some hm
        rw [if_pos hc] at hm
        cases hm
        obtain ⟨p, vs, rfl, hq, hr⟩ := seq_at rv hs e1
        rw [strs_at hr e2, ← hK] at hq
        exact ⟨_, mt_join, a, p, ys, rfl, rfl, hq, hc, q.here hs (.str _)⟩
  · cases hm
/-! ### stores into a list -/
def uSet (X : Cx) : TSet := fun o i v H Q => ∃ t, PSet X t ∧ t o i v H Q
theorem set_u (X : Cx) : PSet X (uSet X) := fun pins s σ H o i v ov iv u Q I ro ri rv ⟨_, h, q⟩ => h pins s σ H o i v ov iv u Q I ro ri rv q
def sSub (mo mi mv : ME) : SM := fun env => (mv env).go fun v cs => (mo env).go (fun t cs => (mi env).go (fun u cs => match t, u with
  | .own k, .int i => match cs[k]? with
    | some (.lst us) => match ixN us.length i with
      | some j => some (.nx env, cs.set k (.lst (us.set j v)))
      | none => none
    | _ => none
  | _, _ => none) cs) cs
theorem t_sub {st : Stmt} {o i value : Expr} {mo mi mv : ME} (hp : PS X st (tAsg (uE X value) (gSub (uE X o) (uE X i) (uSet X)))) (ho : SimE B G X W o mo) (hi : SimE B G X W i mi) (hv : SimE B G X W value mv) : SimS B G X W st (sSub mo mi mv) := by
  intro σ H F α env cs fl cs' he hs hm D q
  refine ⟨_, hp, ?_⟩
  refine hv.go he hs hm q.exn fun v cs1 y H1 F1 α1 h1 e1 s1 r1 => ?_
  show uE X o σ H1 _
  refine ho.go (he.ext e1) s1 h1 (q.ext e1).exn fun t cs2 x H2 F2 α2 h2 e2 s2 r2 => ?_
  refine hi.go ((he.ext e1).ext e2) s2 h2 ((q.ext e1).ext e2).exn fun u cs3 z H3 F3 α3 h3 e3 s3 r3 => ?_
  split at h3
  · rename_i k i'
    have r2' := r2.ext e3
    cases r2' with
    | @own a _ hk =>
      cases r3
      split at h3
      · rename_i us hc
        split at h3
        · rename_i j hj
          cases h3
          obtain ⟨vs, g1, g2⟩ := s3.cell k a _ hk hc
          refine ⟨_, set_list, a, vs, i', j, rfl, rfl, g1, by rw [g2.length]; exact hj, ?_⟩
          exact q _ _ _ _ ((e1.trans e2).trans e3) (s3.change (c := .lst (us.set j v)) hk hc rfl ⟨_, upd_same, g2.set ((r1.ext e2).ext e3) j⟩) (((he.ext e1).ext e2).ext e3)
        · cases h3
      · cases h3
  · cases h3
/-! ### x += e of ints -/
def sAug (i : Nat) (r : T → T → M T) (m : ME) : SM := fun env cs => match env[i]? with
  | some (some t) => (m env).go (fun u cs => (r t u).go (fun z cs => some (.nx (env.set i (some z)), cs)) cs) cs
  | _ => none
theorem t_augAdd {st : Stmt} {e : Expr} {i : Nat} {m : ME} (hp : PS X st (tAug i (uE X e) (ipI fun i j => i + j))) (h : SimE B G X W e m) : SimS B G X W st (sAug i (intT0 fun i j => .int (i + j)) m) := by
  intro σ H F α env cs fl cs' he hs hm D q
  unfold sAug at hm
  split at hm
  · rename_i t ht
    obtain ⟨v, hv, rv⟩ := he.at_ _ _ ht
    refine ⟨_, hp, v, hv, ?_⟩
    refine h.go he hs hm q.exn fun u cs1 w H1 F1 α1 h1 e1 s1 r1 => ?_
    cases rv with
    | int a =>
      cases r1 with
      | int b =>
        cases h1
        exact ⟨a, b, rfl, rfl, q _ H1 F1 α1 e1 s1 ((he.ext e1).set i (.int _))⟩
      | _ => cases h1
    | _ => cases h1
  · cases hm
/-! ### raise -/
def sRaise (c : Nat) (a : MA) : SM := fun env => (a env).go fun ts cs => match ts with
  | [t] => some (.ex c (some t), cs)
  | _ => none
theorem t_raise {k j : Nat} {x : Str} {c : Nat} {f : Str} {e : Expr} {es : List Expr} {p pos rpos : Pos} {a : MA} (hc : X.calm = true) (tk : Takes X (fun cls d _ H => W cls d H)) (ce : Ts.Err X.prog X.w X.K X.mg X.base x (B.at_ c) f) (hn : B.names c = [f]) (hr : Room j X.A) (hk : 2 ≤ j) (hg : Gl X x) (ha : SimA B G X W (e :: es) a)
    (hdb : (x == ("__debug__" : Str)) = false := by decide) (he : starEach (e :: es) X.env = (false, eval e X.env) :: starEach es X.env := by rfl) (hpl : (backTo pos (starEach es X.env)).any (·.1) = false := by rfl) :
    SimS B G X W (.Raise (some (.Call (.Name x p) (e :: es) [] pos)) none rpos) (sRaise c a) := by
  intro σ H F α env cs fl cs' hE hs hm D q
  refine ⟨_, ps_raise hc tk (Ts.pmk_err ce hr hk hg (pa_u X _) hdb he hpl), ?_⟩
  refine ha.go hE hs hm q.exn fun ts cs1 vs H1 F1 α1 h1 e1 s1 r1 => ?_
  split at h1
  · rename_i t
    cases h1
    obtain ⟨v, rfl, rv⟩ := r1.one
    refine Ts.mk_ex fun d hd => ?_
    obtain ⟨s2, e2⟩ := s1.frozen (o := .xd [(f, v)]) hd
    exact q _ _ _ (some d) (e1.trans e2) s2 ⟨f, v, hn, upd_same, rv.ext e2⟩
  · cases h1
/-! ### a list that is not changed any more -/
/-- the ghost: what slot i holds is frozen -/
def sFrz (i : Nat) : SM := fun env cs => match env[i]? with
  | some (some (.own k)) => match cs[k]? with
    | some (.lst ts) => some (.nx (env.set i (some (.lst ts))), cs.set k .dead)
    | _ => none
  | _ => none
/-- .. ahead of a block -/
theorem b_frz {sts : List Stmt} {i : Nat} {m : SM} (h : SimB B G X W sts m) : SimB B G X W sts (bCons (sFrz i) m) := by
  intro σ H F α env cs fl cs' he hs hm D q
  unfold bCons at hm
  cases e : sFrz i env cs with
  | none => rw [e] at hm; cases hm
  | some p =>
    obtain ⟨f1, cs1⟩ := p
    rw [e] at hm
    unfold sFrz at e
    split at e
    · rename_i k hk
      split at e
      · rename_i ts hc
        cases e
        obtain ⟨v, hv, rv⟩ := he.at_ _ _ hk
        cases rv with
        | @own a _ hka =>
          obtain ⟨F', s1, e1, r1⟩ := hs.freeze hka hc
          have he1 : EnvOk B F' α σ (env.set i (some (.lst ts))) := by
            refine ⟨by rw [List.length_set]; exact he.len, fun j t hj => ?_⟩
            by_cases ej : j = i
            · subst ej
              rw [List.getElem?_set_self (List.getElem?_eq_some_iff.mp hk).1] at hj
              cases hj
              exact ⟨_, hv, r1⟩
            · rw [List.getElem?_set_ne (Ne.symm ej)] at hj
              obtain ⟨w, h1, h2⟩ := he.at_ j t hj
              exact ⟨w, h1, h2.ext e1⟩
          exact h σ H F' α _ _ fl cs' he1 s1 hm D (q.ext e1)
      · cases e
    · cases e
/-! ### f-strings -/
def SimJ (B : Book) (G : Hp) (X : Cx) (W : XK) : List Expr → List ME → Prop
  | [], [] => True
  | e :: es, m :: ms => SimE B G X W e m ∧ SimJ B G X W es ms
  | _, _ => False
def joinL : List ME → Str → Env → M Str
  | [], acc, _ => M.ret acc
  | m :: ms, acc, env => (m env).bind fun t => match t with
    | .str y => if (acc ++ y).length ≤ sizeLine then joinL ms (acc ++ y) env else M.fail
    | _ => M.fail
def mJoined (ms : List ME) : ME := fun env => (joinL ms Str.empty env).bind fun x => M.ret (.str x)
theorem pj_u (X : Cx) : ∀ es : List Expr, PJ X es (es.map (uE X))
  | [] => .nil
  | e :: es => .cons (pe_u X e) (pj_u X es)
theorem joinL_go : ∀ {es : List Expr} {ms : List ME}, SimJ B G X W es ms → ∀ {acc : Str} {σ : L2.St} {H F : Hp} {α : List Addr} {env : Env} {cs cs' : Cs} {o : Out Str}, EnvOk B F α σ env → Hs B G F H α cs → joinL ms acc env cs = some (o, cs') → ∀ {Q : Str → Hp → Prop},
    (∀ c x, o = .ex c x → ∀ H' F' α' d, Ext F α F' α' → Hs B G F' H' α' cs' → ExAt B F' α' H' c x d → W (.ref (B.at_ c)) d H') → (∀ z H' F' α', o = .ok z → Ext F α F' α' → Hs B G F' H' α' cs' → Q z H') → tJs (es.map (uE X)) acc σ H Q
  | [], [], _, acc, σ, H, F, α, env, cs, cs', o, he, hs, hm, Q, hx, q => by
    cases hm
    exact q acc H F α rfl (Ext.refl _ _) hs
  | e :: es, m :: ms, h, acc, σ, H, F, α, env, cs, cs', o, he, hs, hm, Q, hx, q => by
    refine h.1.then he hs hm hx fun t cs1 v H1 F1 α1 h1 e1 s1 r1 => ?_
    cases r1 with
    | str y =>
      by_cases hz : (acc ++ y).length ≤ sizeLine
      · have h1 : (if (acc ++ y).length ≤ sizeLine then joinL ms (acc ++ y) env else M.fail) cs1 = some (o, cs') := h1
        rw [if_pos hz] at h1
        refine ⟨y, rfl, hz, joinL_go h.2 (he.ext e1) s1 h1 (fun c x ho H' F' α' d e2 => hx c x ho H' F' α' d (e1.trans e2)) fun z H' F' α' ho e2 => q z H' F' α' ho (e1.trans e2)⟩
      · have h1 : (if (acc ++ y).length ≤ sizeLine then joinL ms (acc ++ y) env else M.fail) cs1 = some (o, cs') := h1
        rw [if_neg hz] at h1; cases h1
    | _ => cases h1
  | [], _ :: _, h, _, _, _, _, _, _, _, _, _, _, _, _, _, _, _ => h.elim
  | _ :: _, [], h, _, _, _, _, _, _, _, _, _, _, _, _, _, _, _ => h.elim
theorem s_joined {e1 e2 : Expr} {es : List Expr} {pos : Pos} {ms : List ME} (h : SimJ B G X W (e1 :: e2 :: es) ms) : SimE B G X W (.JoinedStr (e1 :: e2 :: es) pos) (mJoined ms) := by
  intro σ H F α env cs o cs' he hs hm Q q
  refine ⟨_, pe_joined (pj_u X _), ?_⟩
  rcases bind_some hm with ⟨z, cs1, h1, h2⟩ | ⟨c, x, h1, rfl⟩
  · cases h2
    exact joinL_go h he hs h1 (fun c x e => by cases e) fun z' H' F' α' ho e' s' => by
      cases ho
      exact q _ H' F' α' e' s' (.str _)
  · exact joinL_go h he hs h1 (fun c' x' e => by cases e; exact q) fun z' H' F' α' ho e' s' => by cases ho
def mFmt (m : ME) : ME := fun env => (m env).bind fun t => fun cs => match t with
  | .str y => if y.length ≤ sizeLine then some (.ok (.str y), cs) else none
  | .int i => if i.natAbs.log2 < 1920 then some (.ok (.str (toString i)), cs) else none
  | _ => none
theorem s_fmt {e : Expr} {pos : Pos} {m : ME} (h : SimE B G X W e m) : SimE B G X W (.FormattedValue e (-1) none pos) (mFmt m) := by
  intro σ H F α env cs o cs' he hs hm Q q
  refine ⟨_, pe_fmt (pe_u X e), ?_⟩
  refine h.then he hs hm q.exn fun t cs1 v H1 F1 α1 h1 e1 s1 r1 => ?_
  cases r1 with
  | str y =>
    have h1 : (if y.length ≤ sizeLine then some (Out.ok (T.str y), cs1) else none) = some (o, cs') := h1
    have hz := if_some h1
    rw [if_pos hz] at h1
    cases h1
    exact .inl ⟨y, rfl, hz, (q.ext e1).here s1 (.str _)⟩
  | int i =>
    have h1 : (if i.natAbs.log2 < 1920 then some (Out.ok (T.str (toString i)), cs1) else none) = some (o, cs') := h1
    have hz := if_some h1
    rw [if_pos hz] at h1
    cases h1
    exact .inr ⟨i, rfl, hz, (q.ext e1).here s1 (.str _)⟩
  | _ => cases h1
/-! ### *e among arguments -/
theorem a_star {e : Expr} {es : List Expr} {p : Pos} {m : ME} {r : MA} (hK : X.K = B.K) (h : SimE B G X W e m) (hr : SimA B G X W es r) (hs' : starEach (.Starred e p :: es) X.env = (true, eval e X.env) :: starEach es X.env := by rfl)
    (hfr : True := trivial) : SimA B G X W (.Starred e p :: es) (fun env => (m env).bind fun t => fun cs => match seqOf cs t with
      | some us => ((r env).bind fun ts => M.ret (us ++ ts)) cs
      | none => none) := by
  intro σ H F α env cs o cs' he hs hm Q q
  refine ⟨_, StX.pa_star (pe_u X e) (pa_u X es) hs', ?_⟩
  refine h.then he hs hm q.exn fun t cs1 v H1 F1 α1 h1 e1 s1 r1 => ?_
  cases e2 : seqOf cs1 t with
  | none => simp only [e2] at h1; cases h1
  | some us =>
    simp only [e2] at h1
    obtain ⟨a, vs, rfl, hq, hr'⟩ := seq_at r1 s1 e2
    rw [← hK] at hq
    refine ⟨a, vs, rfl, hq.symm, ?_⟩
    refine hr.then (he.ext e1) s1 h1 (q.ext e1).exn fun ts cs2 ws H2 F2 α2 h2 e2 s2 r2 => ?_
    cases h2
    exact q _ H2 F2 α2 (e1.trans e2) s2 ((hr'.ext e2).append r2)
/-! ### isinstance -/
inductive Ki | non | bl | int | str | lst | tup | obj (c : Nat)
def kiT (cs : Cs) : T → Option Ki
  | .non => some .non
  | .bl _ => some .bl
  | .int _ => some .int
  | .str _ => some .str
  | .lst _ => some .lst
  | .ro _ => some .lst
  | .tup _ => some .tup
  | .obj c _ => some (.obj c)
  | .own k => match cs[k]? with
    | some (.lst _) => some .lst
    | some (.obj c _) => some (.obj c)
    | _ => none
  | .cls _ => none
def Ki.ty (B : Book) : Ki → Value
  | .non => .type "NoneType"
  | .bl => .type "bool"
  | .int => .type "int"
  | .str => .type "str"
  | .lst => .type "list"
  | .tup => .type "tuple"
  | .obj c => .ref (B.at_ c)
/-- how instances of the c-th class tell their class -/
structure TyOk (B : Book) (c : Nat) : Prop where
  cl : Cls B.K (B.at_ c)
  ha : PySem.W.findIn B.K (.ref (B.at_ c)) "__class__" = some (some (.builtin "object.__class__"))
  hn : PySem.W.specialIn B.K (.builtin "object.__class__") "__get__" = some (some (.builtin "getset_descriptor.__get__"))
  ht : PySem.W.takesIn B.K (.builtin "object.__class__") = some true
  hm : PySem.W.mroIn B.K (B.at_ c) (.type "object") = some true
theorem tyx_lst {K : PySem.W.Frag} {H : Hp} {a : Addr} {xs : List V} (h : SqL K H a xs) : TyX K H (.ref a) (.type "list") := by
  rcases h with (h | ⟨o, h⟩) | ⟨o, its, n, h1, h2, _⟩
  · exact .base (.lst h)
  · exact .base (.frz h)
  · exact .kList h1 h2
theorem tyx_tup {K : PySem.W.Frag} {H : Hp} {a : Addr} {xs : List V} (h : SqT K H a xs) : TyX K H (.ref a) (.type "tuple") := by
  rcases h with (h | ⟨o, h⟩) | ⟨o, its, n, h1, h2, _⟩
  · exact .base (.tup h)
  · exact .fTuple h
  · exact .kTuple h1 h2
theorem ki_at {F H : Hp} {α : List Addr} {cs : Cs} {v : V} {t : T} {k : Ki} (ok : ∀ c, k = .obj c → TyOk B c) (r : Rep B F α v t) (hs : Hs B G F H α cs) (h : kiT cs t = some k) : TyX B.K H v (k.ty B) := by
  have ob : ∀ {c a dx gs}, k = .obj c → H a = some (.ins (B.at_ c) dx gs) → TyX B.K H (.ref a) (k.ty B) := fun {c a dx gs} e ha => by
    have T := ok c e
    rw [e]
    exact .base (.ins ha T.cl T.ha T.hn T.ht T.hm)
  cases r with
  | non => cases h; exact .base .non
  | bl b => cases h; exact .base (.bl b)
  | int i => cases h; exact .base (.int i)
  | str x => cases h; exact .base (.str x)
  | lst hq hr => cases h; exact tyx_lst (SqL.of (hs.same _ _ hq))
  | ro hq hr => cases h; exact tyx_lst (hs.same.seq hq)
  | tup hq hr => cases h; exact tyx_tup (Ts.Same.sqt hs.same hq)
  | @obj a dx c vs ts h1 h2 h3 => cases h; exact ob rfl (hs.same _ _ h1)
  | @own a j hk =>
    have h : (match cs[j]? with | some (.lst _) => some Ki.lst | some (.obj c _) => some (.obj c) | _ => none) = some k := h
    cases hc : cs[j]? with
    | none => rw [hc] at h; cases h
    | some cc =>
      rw [hc] at h
      cases cc with
      | lst us =>
        cases h
        obtain ⟨vs, h1, h2⟩ := hs.cell j a _ hk hc
        exact tyx_lst (SqL.of h1)
      | obj c us =>
        cases h
        obtain ⟨dx, vs, h1, h2⟩ := hs.cell j a _ hk hc
        exact ob rfl h1
      | dead => cases h
  | cls c => cases h
/-- isinstance(e, C): what it answers, by the kind of thing -/
def mIsi (ans : Ki → Option Bool) (m : ME) : ME := fun env => (m env).bind fun t => fun cs => match kiT cs t with
  | some k => match ans k with
    | some b => some (.ok (.bl b), cs)
    | none => none
  | none => none
theorem s_isi {x : Str} {e ce : Expr} {p pos : Pos} {cv : V} {cu : Value} {ans : Ki → Option Bool} {m : ME} (hK : X.K = B.K) (hg : Gl X x) (hm : X.mg x = none) (hv : bootBuiltins x = some (.builtin "isinstance")) (h : SimE B G X W e m) (hc : PE X ce (tC cv)) (hcv : ClsV cv cu)
    (ok : ∀ c b, ans (.obj c) = some b → TyOk B c) (hans : ∀ k b, ans k = some b → PySem.W.kitOne B.K (k.ty B) cu = some b)
    (hp : PE X (.Call (.Name x p) [e, ce] [] pos) (tCB (uCl X (.builtin "isinstance")) (L2.tCons (uE X e) (L2.tCons (tC cv) L2.tNil)))) : SimE B G X W (.Call (.Name x p) [e, ce] [] pos) (mIsi ans m) := by
  intro σ H F α env cs o cs' he hs hm Q q
  refine ⟨_, hp, ?_⟩
  refine h.then he hs hm q.exn fun t cs1 v H1 F1 α1 h1 e1 s1 r1 => ?_
  cases e2 : kiT cs1 t with
  | none => simp only [e2] at h1; cases h1
  | some k =>
    simp only [e2] at h1
    cases e3 : ans k with
    | none => simp only [e3] at h1; cases h1
    | some b =>
      simp only [e3] at h1
      cases h1
      refine ⟨_, call_isi, v, cv, k.ty B, cu, b, rfl, hcv, ?_, by rw [hK]; exact hans k b e3, (q.ext e1).here s1 (.bl b)⟩
      rw [hK]
      exact ki_at (fun c ec => ok c b (ec ▸ e3)) r1 s1 e2
/-- isinstance(e, (C, D)) of two built-in types -/
theorem s_isi2 {x : Str} {e ce : Expr} {p pos : Pos} {c1 c2 : V} {u1 u2 : Value} {ans : Ki → Option Bool} {m : ME} (hK : X.K = B.K) (h : SimE B G X W e m) (h1 : ClsV c1 u1) (h2 : ClsV c2 u2)
    (ok : ∀ c b, ans (.obj c) = some b → TyOk B c) (hans : ∀ k b, ans k = some b → PySem.W.kitAny B.K (k.ty B) [u1, u2] = some b)
    (hp : PE X (.Call (.Name x p) [e, ce] [] pos) (tCB (uCl X (.builtin "isinstance")) (L2.tCons (uE X e) (L2.tCons (tTup (L2.tCons (tC c1) (L2.tCons (tC c2) L2.tNil))) L2.tNil)))) : SimE B G X W (.Call (.Name x p) [e, ce] [] pos) (mIsi ans m) := by
  intro σ H F α env cs o cs' he hs hm Q q
  refine ⟨_, hp, ?_⟩
  refine h.then he hs hm q.exn fun t cs1 v H1 F1 α1 h1' e1 s1 r1 => ?_
  cases e2 : kiT cs1 t with
  | none => simp only [e2] at h1'; cases h1'
  | some k =>
    simp only [e2] at h1'
    cases e3 : ans k with
    | none => simp only [e3] at h1'; cases h1'
    | some b =>
      simp only [e3] at h1'
      cases h1'
      refine ⟨by show 2 ≤ sizeLine; decide, fun tp ntp => ?_⟩
      obtain ⟨s2, x2⟩ := s1.frozen (o := .tup [c1, c2]) ntp
      refine ⟨_, call_isiT, v, tp, [c1, c2], k.ty B, [u1, u2], b, rfl, upd_same, .cons h1 (.cons h2 .nil), ?_, by rw [hK]; exact hans k b e3, q _ _ _ _ (e1.trans x2) s2 (.bl b)⟩
      rw [hK]
      exact ki_at (fun c ec => ok c b (ec ▸ e3)) (r1.ext x2) s2 e2
end
end Tv

namespace Tv
open PySem L2
def spLaw (K : PySem.W.Frag) : Sp := fun vs H Q _ => ∃ (a : Addr) (ns : List Int), vs = [.ref a] ∧ SqL K H a (ns.map V.int) ∧ ns.length ≤ 63 ∧ ∀ H', Q (.bl true) H'
section
variable {B : Book} {G : Hp} {X : Cx} {W : XK}
/-! ### a, b = x, y, stored from the right -/
def sPar (is : List Nat) (a : MA) : SM := fun env => (a env).go fun ts cs => match is, ts with
  | [i, j], [t, u] => some (.nx ((env.set i (some t)).set j (some u)), cs)
  | [i, j, l], [t, u, v] => some (.nx (((env.set i (some t)).set j (some u)).set l (some v)), cs)
  | _, _ => none
theorem RepL.three {F : Hp} {α : List Addr} {vs : List V} {t u v : T} (r : RepL B F α vs [t, u, v]) : ∃ x y z, vs = [x, y, z] ∧ Rep B F α x t ∧ Rep B F α y u ∧ Rep B F α z v := by
  cases r with
  | cons h r =>
    obtain ⟨y, z, rfl, hy, hz⟩ := r.two
    exact ⟨_, y, z, rfl, h, hy, hz⟩
theorem t_par {st : Stmt} {i j : Nat} {es : List Expr} {a : MA} (hp : PS X st (tPar i j (uA X es))) (h : SimA B G X W es a) : SimS B G X W st (sPar [i, j] a) := by
  intro σ H F α env cs fl cs' he hs hm D q
  refine ⟨_, hp, ?_⟩
  refine h.go he hs hm q.exn fun ts cs1 vs H1 F1 α1 h1 e1 s1 r1 => ?_
  match ts, r1, h1 with
  | [t, u], r1, h1 =>
    cases h1
    obtain ⟨x, y, rfl, rx, ry⟩ := r1.two
    exact ⟨x, y, rfl, q _ H1 F1 α1 e1 s1 (((he.ext e1).set i rx).set j ry)⟩
  | [], r1, h1 => cases h1
  | [_], r1, h1 => cases h1
  | _ :: _ :: _ :: _, r1, h1 => cases h1
theorem t_par3 {st : Stmt} {i j l : Nat} {es : List Expr} {a : MA} (hp : PS X st (tPar3 i j l (uA X es))) (h : SimA B G X W es a) : SimS B G X W st (sPar [i, j, l] a) := by
  intro σ H F α env cs fl cs' he hs hm D q
  refine ⟨_, hp, ?_⟩
  refine h.go he hs hm q.exn fun ts cs1 vs H1 F1 α1 h1 e1 s1 r1 => ?_
  match ts, r1, h1 with
  | [t, u, v], r1, h1 =>
    cases h1
    obtain ⟨x, y, z, rfl, rx, ry, rz⟩ := r1.three
    exact ⟨x, y, z, rfl, q _ H1 F1 α1 e1 s1 ((((he.ext e1).set i rx).set j ry).set l rz)⟩
  | [], r1, h1 => cases h1
  | [_], r1, h1 => cases h1
  | [_, _], r1, h1 => cases h1
  | _ :: _ :: _ :: _ :: _, r1, h1 => cases h1
end
/-! ### defs, with what their bodies may lean on -/
section
variable {P : Program} {w : World} {K : PySem.W.Frag} {mg : Str → Option Value} {base : Heap} {B : Book}
theorem fn_MX {x qual : Str} {st : Stmt} {f : Addr} {fd : FuncData} {N ps : List Str} {k : Nat} {mb : SM} (F : C8.Fun K x qual st f fd) (S : FnScope N ps (C8.fnScope st))
    (hb : ∀ (cdv : Value) (A : Around) (outer : List PySem.Env) (s : Shared) (H : Hp) (E : XK) (G : Hp), Room k (A.deeper (PyProof.Rows.envOfC qual (C8.fnScope st) s.heap.objs.size f cdv)) →
      Passes (L2.CX P w) (cxOf (L2.CX P w) P w K mg base N qual (C8.fnScope st) f cdv A outer s H E) E → Takes (cxOf (L2.CX P w) P w K mg base N qual (C8.fnScope st) f cdv A outer s H E) (fun cls d _ H => E cls d H) →
      PassesOwn (model P w) (A.deeper (PyProof.Rows.envOfC qual (C8.fnScope st) s.heap.objs.size f cdv)) (cxOf (L2.CX P w) P w K mg base N qual (C8.fnScope st) f cdv A outer s H E).env (cxOf (L2.CX P w) P w K mg base N qual (C8.fnScope st) f cdv A outer s H E).xe →
      SimB B G (cxOf (L2.CX P w) P w K mg base N qual (C8.fnScope st) f cdv A outer s H E) E (C8.fnBody st) mb) : FnOk P w K mg base (L2.CX P w) (k + 1) f fd ps (spM B (mDef ps.length N.length mb)) :=
  fn_M F S fun cdv A outer s H E G hr => hb cdv A outer s H E G hr (Ts.passesUp (takes_of rfl rfl rfl rfl)) (takes_of rfl rfl rfl rfl) (passes_of rfl)
/-- a def that is called by its name -/
theorem cal_M {x : Str} {f : Addr} {fd : FuncData} {ps : List Str} {k : Nat} {m : List T → M T} {dvs : List V} {ds : List Value} (F : FnOk P w K mg base (L2.CX P w) k f fd ps (spM B m)) (hm : mg x = some (.ref f)) (kp : PySem.W.keepIn K (.ref f) = true) (b : Binds K fd ps ds) (d : Vals dvs ds) : Ts.CalX P w K mg base k x (spM B m) dvs := ⟨f, fd, ps, ds, F, hm, kp, b, d⟩
/-- the law -/
theorem fn_law {st : Stmt} {f : Addr} {fd : FuncData} {N : List Str} {k : Nat} {mb : SM} (F : C8.Fun K "law" "law" st f fd) (S : FnScope N ["_law_script"] (C8.fnScope st)) (hBK : B.K = K)
    (hb : ∀ (cdv : Value) (A : Around) (outer : List PySem.Env) (s : Shared) (H : Hp) (E : XK) (G : Hp), Room k (A.deeper (PyProof.Rows.envOfC "law" (C8.fnScope st) s.heap.objs.size f cdv)) →
      SimB B G (cxOf C8.CX0 P w K mg base N "law" (C8.fnScope st) f cdv A outer s H E).nox E0 (C8.fnBody st) mb)
    (hm : ∀ ns : List Int, ns.length ≤ 63 → ∃ cs', mDef 1 N.length mb [.ro (ns.map .int)] [] = some (.ok (.bl true), cs')) : FnOk P w K mg base C8.CX0 (k + 1) f fd ["_law_script"] (spLaw K) := by
  refine C8.fn0 F S (fun vs H Q E h => ?_) (fun cdv A outer s H vs Q E hr h => ?_)
  · obtain ⟨a, ns, rfl, _⟩ := h
    rfl
  · obtain ⟨a, ns, rfl, hS, hl, k⟩ := h
    refine ⟨_, pss_u _ _, ?_⟩
    obtain ⟨cs', h1⟩ := hm ns hl
    refine body_ok (B := B) (np := 1) rfl (fun G => hb cdv A outer s H E0 G hr) ?_
    refine ⟨fun _ => none, H, [], [], _, _, cs', ⟨Same.refl _, rfl, List.nodup_nil, (fun _ h => by cases h), (fun _ _ _ h => by simp at h), (fun _ _ _ h => by simp at h), (fun _ _ h => by cases h), (fun _ _ h => by cases h)⟩, .cons (.ro (by rw [hBK]; exact hS) ?_) .nil, h1, fun v H' F' α' e1 s1 r1 => ?_⟩
    · clear h1 hl hS k
      induction ns with
      | nil => exact .nil
      | cons n ns ih => exact .cons (.int n) ih
    · cases r1
      exact k H'
end
end Tv
namespace Tv
open PySem L2
/-! ### tables -/
section
variable {B : Book} {P : Program} {w : World} {K : PySem.W.Frag} {mg : Str → Option Value} {base : Heap}
theorem ix_nil {f : Str} : ∀ q ∈ ([] : List (Nat × Nat)), ClsOk B q.1 ∧ (B.names q.1)[q.2]? = some f := fun q h => by cases h
theorem ix_cons {f : Str} {c i : Nat} {l : List (Nat × Nat)} (h1 : ClsOk B c) (h2 : (B.names c)[i]? = some f) (h : ∀ q ∈ l, ClsOk B q.1 ∧ (B.names q.1)[q.2]? = some f) : ∀ q ∈ (c, i) :: l, ClsOk B q.1 ∧ (B.names q.1)[q.2]? = some f := fun q hq => by
  rcases List.mem_cons.mp hq with rfl | hq
  · exact ⟨h1, h2⟩
  · exact h q hq
theorem MetM.mono {j k c : Nat} {n : Str} {m : List T → M T} {dts : List T} (h : MetM B P w K mg base j c n m dts) (hk : j ≤ k) : MetM B P w K mg base k c n m dts := by
  obtain ⟨ok, no, dvs, ⟨f, fd, ps, ds, cl, me, F, b, d⟩, hd⟩ := h
  exact ⟨ok, no, dvs, ⟨f, fd, ps, ds, cl, me, F.mono hk, b, d⟩, hd⟩
theorem mt_nil {k : Nat} {n : Str} : ∀ q ∈ ([] : List (Nat × (List T → M T) × List T)), MetM B P w K mg base k q.1 n q.2.1 q.2.2 := fun q h => by cases h
theorem mt_cons {j k c : Nat} {n : Str} {m : List T → M T} {dts : List T} {l : List (Nat × (List T → M T) × List T)} (h1 : MetM B P w K mg base j c n m dts) (hk : j ≤ k) (h : ∀ q ∈ l, MetM B P w K mg base k q.1 n q.2.1 q.2.2) : ∀ q ∈ (c, m, dts) :: l, MetM B P w K mg base k q.1 n q.2.1 q.2.2 := fun q hq => by
  rcases List.mem_cons.mp hq with rfl | hq
  · exact h1.mono hk
  · exact h q hq
theorem met_M {x : Str} {c : Nat} {f : Addr} {fd : FuncData} {ps : List Str} {k : Nat} {m : List T → M T} {dvs : List V} {dts : List T} {ds : List Value} (ok : ClsOk B c) (no : x ∉ B.names c) (me : Meth K (B.at_ c) x f) (F : FnOk P w K mg base (L2.CX P w) k f fd ps (spM B m)) (hBK : B.K = K) (b : Binds K fd ps ds) (d : Vals dvs ds)
    (hd : ∀ F α, RepL B F α dvs dts) : MetM B P w K mg base k c x m dts := ⟨ok, no, dvs, ⟨f, fd, ps, ds, hBK ▸ ok.cl, me, F, b, d⟩, hd⟩
theorem mak_M {x : Str} {c : Nat} {f : Addr} {fd : FuncData} {ps : List Str} {k : Nat} {m : List T → M T} {dvs : List V} {ds : List Value} (M : Mk K (B.at_ c) f) (F : FnOk P w K mg base (L2.CX P w) k f fd ps (spM B m)) (hm : mg x = some (.ref (B.at_ c))) (b : Binds K fd ps ds) (d : Vals dvs ds) : Ts.MakX P w K mg base k x (B.at_ c) (spM B m) dvs := ⟨f, fd, ps, ds, M, F, hm, b, d⟩
end
end Tv

namespace TsO
open PySem PySem.Spec PyProof.Rows PySem.SeqAt
open AutoSeq1 (wpAny_loadPart')
open MeetsSeq
section
variable {prog : Program} {w : World} {A : Around} {E : Value → Shared → Prop} {s : Shared} {K : PySem.W.Frag} {x C f : Addr} {ox : Obj} {od : Option Obj}
theorem str_declines (b : Str) (u : Tok) (l : Addr) (c : Value) (dd : Option Addr) (sl : Array (Option Value)) :
    Meets (Builtin.«str.__eq__» ⟨[.str b u, .ref l], []⟩) (fun _ R s => s.heap.get? l = some { cls := c, dict := dd, data := .plain, slots := sl } ∧ R (.ok (.ret .notImplemented)) s) :=
  .of_wp fun prog w A R s h => by obtain ⟨hp, g, d, tk, os⟩ := s; obtain ⟨hl, h⟩ := h; wp_walk using wpAny_loadPart' hl, wpAny_load hl; exact ⟨_, rfl, h⟩
theorem tuple_declines (l : Addr) (items : Array Value) (n : Nat) (dd : Option Addr) (sl : Array (Option Value)) (X : K.In s.heap) (I : PySem.W.InstAt s.heap x ox C od) (hm : PySem.W.mroIn K C (.type "tuple") = some false)
    (hl : s.heap.get? l = some { cls := .type "tuple", dict := dd, data := .seq items n, slots := sl }) {Q : Value → Shared → Prop} (h : Q .notImplemented s) : wpAny (model prog w) A (call (.builtin "tuple.__eq__") [.ref l, .ref x]) Q E s := by
  have L : ∀ M : Model, PySem.W.Looks M s.heap (isInstance (.ref x) (.type "tuple")) false := fun M => I.type.andThen (PySem.W.looks_mroIn X hm)
  refine GQ.call_here PySem.F.slot_tuple_eq ⟨_, hl, rfl⟩ PySem.F.entry_tuple_eq (PySem.F.args_tuple_eq_2 _ _) ?_
  unfold Builtin.«tuple.__eq__»
  obtain ⟨hp, g, d, tk, os⟩ := s
  wp_walk using (L (model prog w)).here
  exact h
/-- y == x, x an instance with its own ==, y of a type of the machine that declines -/
theorem rc_refl_K {u : Value} {T id : String} {Q : Value → Shared → Prop} (hT : s.TypeIs u T) (S : Slot T "__eq__" id) (hu : A.units < cLine) (X : K.In s.heap) (I : PySem.W.InstAt s.heap x ox C od) (hsub : PySem.W.mroIn K C (.type T) = some false)
    (he : PySem.W.findIn K (.ref C) "__eq__" = some (some (.ref f))) (hf : PySem.W.isFn K (.ref f) = true) (hdec : ∀ Q' : Value → Shared → Prop, Q' .notImplemented s → wpAny (model prog w) A (call (.builtin id) [u, .ref x]) Q' E s)
    (h : wpAny (model prog w) A (call (.ref f) [.ref x, u]) (PySem.W.CmpBack Q) E s) : wpAny (model prog w) A (richCompare .Eq u (.ref x)) Q E s := by
  have one : wpAny (model prog w) A (tryCompare (.ref x) "__eq__" u) (fun r s' => ∃ v, r = some v ∧ Q v s') E s := by
    unfold tryCompare
    refine wpAny_bind (PySem.W.ifBound_K X I he hf (wpAny_mono h (fun v s' hv => ?_) fun _ _ e => e))
    cases v <;> first | exact hv.elim | exact wpAny_pure ⟨_, rfl, hv⟩
  have hne : (Value.type T != Value.ref C) = true := by simp
  unfold richCompare
  simp only [hT.oneThing_none]
  refine wpAny_holding (wpAny_bind (wpAny_cRoomFor hu ?_))
  show wpAny _ _ (typeOf u >>= _) _ _ _
  refine wpAny_bind (wpAny_typeOf hT (wpAny_bind (I.type.here ?_)))
  simp only [hne, if_true]
  refine wpAny_bind ((PySem.W.looks_mroIn X hsub).here ?_)
  simp only [Bool.false_eq_true, if_false, Bool.not_false, if_true]
  refine wpAny_bind (m := tryCompare u _ (.ref x)) (wpAny_tryCompare_declines hT S (hdec _ ⟨rfl, ?_⟩))
  refine wpAny_bind (m := tryCompare (.ref x) _ u) (wpAny_mono one (fun r s' z => ?_) fun _ _ e => e)
  obtain ⟨v, rfl, hq⟩ := z
  exact wpAny_pure hq
/-- x in a tuple, none of whose items is equal to it -/
theorem contains_no {l : Addr} {items : Array Value} {n : Nat} {dd : Option Addr} {sl : Array (Option Value)} {x : Value} {R : Result → Shared → Prop} (hl : s.heap.get? l = some { cls := .type "tuple", dict := dd, data := .seq items n, slots := sl })
    (I : List Value → Shared → Prop) (turn : ∀ y rest s, I (y :: rest) s → wpAny (model prog w) A.in1 (eqBool y x) (fun r s' => r = false ∧ I rest s') (fun e s' => R (.error e) s') s)
    (fin : ∀ s, I [] s → R (.ok (.ret (.bool false))) s) (h : I items.toList s) :
    wpAny (model prog w) A.in1 (Builtin.«tuple.__contains__» ⟨[.ref l, x], []⟩) (GQ.FinOf prog w A R) (fun e s' => R (.error e) s') s := by
  obtain ⟨hp, g, d, tk, os⟩ := s
  wp_walk using wpAny_loadPart' hl, MeetsSeq2.wpAny_forIn_array _ (fun rest b s' => b.1 = none ∧ I rest s') _
  case turn =>
    rintro y rest b s' ⟨hb, hI⟩
    refine wpAny_bind (wpAny_mono (turn y rest s' hI) (fun r s2 q2 => ?_) fun _ _ x => x)
    obtain ⟨hr, q2⟩ := q2
    subst hr
    wp_walk
    exact ⟨rfl, q2⟩
  case fin =>
    rintro ⟨b1, b2⟩ s' ⟨hb, hI⟩
    simp only at hb
    subst hb
    have hR := fin s' hI
    wp_walk
    exact hR
  case h =>
    exact ⟨rfl, h⟩
end
section
open L2
variable {X : Cx} {CX : CXT} {pins : List (Addr × Obj)} {σ : L2.St} {H : Hp} {s : Shared} {f : Addr} {n : Nat} {sp : Sp} {E : XK}
/-- what declines == with an instance: texts, None, tuples -/
def DecV (K : PySem.W.Frag) (H : Hp) (y : V) : Prop := (∃ x, y = .str x) ∨ y = .non ∨ ∃ b zs, y = .ref b ∧ SqT K H b zs
structure DecC (K : PySem.W.Frag) (C : Addr) : Prop where
  k1 : PySem.W.mroIn K C (.type "str") = some false
  k2 : PySem.W.mroIn K C (.type "NoneType") = some false
  k3 : PySem.W.mroIn K C (.type "tuple") = some false
def inC (K : PySem.W.Frag) (sp : Sp) (E : XK) (x : V) : List V → Hp → (Hp → Prop) → Prop
  | [], H, Q => Q H
  | y :: ys, H, Q => DecV K H y ∧ sp [x, y] H (fun z H' => z = .bl false ∧ Ext H H' ∧ inC K sp E x ys H' Q) E
def rInOwn (K : PySem.W.Frag) (f : Addr) (sp : Sp) (E : XK) : R2 := fun x y H Q => ∃ a C dx fs p ys, x = .ref a ∧ y = .ref p ∧ H a = some (.ins C dx fs) ∧ EqC K C f ∧ DecC K C ∧ SqT K H p ys ∧ inC K sp E x ys H (fun H' => Q (.bl false) H')
theorem eq_dec {A : Around} {a C dx : Addr} {fs : List (Str × V)} {y : V} {u : Value} {Q : Hp → Prop} (F : FnR X.prog X.w X.K X.mg X.base CX n f sp) (hr : Room n A) (hA : A.frames = X.A.frames) (hx : Passes CX X E) (I : Inv X pins σ H s)
    (ha : H a = some (.ins C dx fs)) (hc : EqC X.K C f) (hd : DecC X.K C) (hy : DecV X.K H y) (ry : RelV y u) (h : sp [.ref a, y] H (fun z H' => z = .bl false ∧ Q H') E) :
    wpAny (model X.prog X.w) A (eqBool u (.ref a)) (fun r s' => r = false ∧ ∃ H', Inv X pins σ H' s' ∧ Q H') X.xe s := by
  obtain ⟨mA, J, _⟩ := ins_get I.hok ha
  have hobj := J.obj
  obtain ⟨od, J, _⟩ := J.look
  have e0 : Env0 X.prog X.w X.K X.mg X.base A X.stack s H := by
    have e := I.env0
    exact ⟨by rw [hA]; exact e.frames, e.mod, e.bs, e.bsz, e.funs, e.frf, e.hok, e.bare⟩
  have call_ : wpAny (model X.prog X.w) A (call (.ref f) [.ref a, u]) (PySem.W.CmpBack fun v s' => v = .bool false ∧ ∃ H', Inv X pins σ H' s' ∧ Q H') X.xe s :=
    wpAny_mono (run_in (us := [.ref a, u]) (ws := [.ref a, y]) F hr e0 hx I (.cons rfl (.cons ry .nil)) h) (fun w s' z => by
      obtain ⟨z', H', I', rz, e, q⟩ := z
      subst e
      cases (show w = Value.bool false from rz)
      exact ⟨rfl, H', I', q⟩) fun _ _ x => x
  have hu := hr.units0
  rcases hy with ⟨x, rfl⟩ | rfl | ⟨b, zs, rfl, hb⟩
  · obtain ⟨t, rfl⟩ := (show ∃ t, u = Value.str x t from ry)
    unfold eqBool
    refine wpAny_holding ?_
    refine wpAny_ite_split (fun hab => absurd (eq_of_beq hab) nofun) (fun _ => ?_)
    refine wpAny_bind (wpAny_mono (rc_refl_K (typeIs_str s x t) PySem.F.slot_str_eq hu I.kIn J hd.k1 hc.eq hc.fn (fun Q' q => call_meets PySem.F.slot_str_eq (typeIs_str s x t) PySem.F.entry_str_eq (PySem.F.args_str_eq_2 _ _) (str_declines x t a _ _ _) ⟨hobj, q⟩) call_) (fun v s' z => ?_) fun _ _ x => x)
    obtain ⟨e, H', I', q⟩ := z
    subst e
    exact wpAny_truthy_bool ⟨rfl, H', I', q⟩
  · cases (show u = Value.none from ry)
    unfold eqBool
    refine wpAny_holding ?_
    refine wpAny_ite_split (fun hab => absurd (eq_of_beq hab) nofun) (fun _ => ?_)
    have hN : s.TypeIs .none "NoneType" := rfl
    refine wpAny_bind (wpAny_mono (rc_refl_K hN PySem.F.slot_NoneType_eq hu I.kIn J hd.k2 hc.eq hc.fn (fun Q' q => call_gives PySem.F.slot_NoneType_eq hN PySem.F.entry_NoneType_eq (PySem.F.args_NoneType_eq_2 _ _) (NoneType___eq___none_ref_0 a) q) call_) (fun v s' z => ?_) fun _ _ x => x)
    obtain ⟨e, H', I', q⟩ := z
    subst e
    exact wpAny_truthy_bool ⟨rfl, H', I', q⟩
  · cases (show u = Value.ref b from ry)
    obtain ⟨its, rv, e, z⟩ := I.tuple hb
    obtain ⟨⟨cls, dd, data, sl⟩, ho, hcl, n2, hdt⟩ := id e
    simp only at hcl hdt
    subst hcl hdt
    have hne : b ≠ a := fun z => by
      rw [z, hobj] at ho
      cases ho
    refine GQ.eqBool_refG hne (wpAny_mono (rc_refl_K (T := "tuple") ⟨_, ho, rfl⟩ PySem.F.slot_tuple_eq hu I.kIn J hd.k3 hc.eq hc.fn (fun Q' q => tuple_declines b _ _ _ _ I.kIn J hd.k3 ho q) call_) (fun v s' z => ?_) fun _ _ x => x)
    obtain ⟨e, H', I', q⟩ := z
    exact ⟨false, e, rfl, H', I', q⟩
theorem op_inOwn (F : FnR X.prog X.w X.K X.mg X.base CX n f sp) (hr : Room (n + 1) X.A) (hx : Passes CX X E) : OpR X (compareOp .In) (rInOwn X.K f sp E) := by
  intro pins s σ H x y v u Q I rx ry h
  obtain ⟨a, C, dx, fs, p, ys, rfl, rfl, ha, hc, hd, hp, q⟩ := h
  cases (show v = Value.ref a from rx)
  cases (show u = Value.ref p from ry)
  obtain ⟨its, rv, e, z⟩ := I.tuple hp
  obtain ⟨⟨cls, dd, data, sl⟩, ho, hcl, n2, hdt⟩ := id e
  simp only at hcl hdt
  subst hcl hdt
  have h1 : Room n X.A.in1 := Room.in1 hr
  show wpAny _ _ (do return Value.bool (← contains (.ref p) (.ref a))) _ _ s
  refine wpAny_bind (wpAny_contains_slot ⟨_, ho, rfl⟩ PySem.F.slot_tuple_contains (GQ.call_here PySem.F.slot_tuple_contains ⟨_, ho, rfl⟩ PySem.F.entry_tuple_contains (PySem.F.args_tuple_contains_2 _ _) ?_))
  refine contains_no ho (fun rest s' => ∃ (zs : List V) (H' : Hp), Vals zs rest ∧ Inv X pins σ H' s' ∧ Ext H H' ∧ inC X.K sp E (.ref a) zs H' (fun H' => Q (.bl false) H')) ?_ ?_ ⟨ys, H, by simpa using rv, I, Ext.rfl', q⟩
  · rintro y rest s' ⟨zs, H', rz, I', ex, q'⟩
    cases rz with
    | @cons zy zu zs' rest' ry' rz' =>
      obtain ⟨dv, q'⟩ := q'
      refine wpAny_mono (eq_dec F h1 rfl hx I' (ex _ _ ha) hc hd dv ry' q') (fun r s2 z => ?_) fun _ _ x => x
      obtain ⟨hr', H2, I2, ex2, q2⟩ := z
      exact ⟨hr', zs', H2, rz', I2, ex.trans ex2, q2⟩
  · rintro s' ⟨zs, H', rz, I', ex, q'⟩
    cases rz
    exact wpAny_truthy_bool (wpAny_pure ⟨.bl false, H', I', rfl, q'⟩)
end
end TsO

set_option linter.unusedVariables false
namespace Tv
open PySem L2
/-! ### isinstance, by the own classes -/
def Ki.name : Ki → String
  | .non => "NoneType" | .bl => "bool" | .int => "int" | .str => "str" | .lst => "list" | .tup => "tuple" | .obj _ => ""
abbrev KNAMES : List String := ["NoneType", "bool", "int", "str", "list", "tuple"]
def isB (ownF : Nat → Bool) (x : String) : Ki → Option Bool
  | .obj c => if ownF c = true then some false else none
  | k => kitB k.name x
def isB2 (ownF : Nat → Bool) (x y : String) (k : Ki) : Option Bool := match isB ownF x k, isB ownF y k with
  | some a, some b => some (a || b)
  | _, _ => none
def isC (ownF f : Nat → Bool) : Ki → Option Bool
  | .obj c => if ownF c = true then some (f c) else none
  | _ => some false
section
variable {B : Book} {ownF f : Nat → Bool} {x y : String} {j : Nat}
theorem isB_h (h : ∀ c, ownF c = true → PySem.W.kitOne B.K (.ref (B.at_ c)) (.type x) = some false) : ∀ k b, isB ownF x k = some b → PySem.W.kitOne B.K (k.ty B) (.type x) = some b := fun k b e => by
  cases k with
  | obj c =>
    have e : (if ownF c = true then some false else none) = some b := e
    by_cases o : ownF c = true
    · rw [if_pos o] at e; cases e; exact h c o
    · rw [if_neg o] at e; cases e
  | _ => exact kit_ty e
theorem isB_ok (ok : ∀ c, ownF c = true → TyOk B c) : ∀ c b, isB ownF x (.obj c) = some b → TyOk B c := fun c b e => by
  have e : (if ownF c = true then some false else none) = some b := e
  by_cases o : ownF c = true
  · exact ok c o
  · rw [if_neg o] at e; cases e
theorem isB2_h (h : ∀ c, ownF c = true → PySem.W.kitOne B.K (.ref (B.at_ c)) (.type x) = some false) (g : ∀ c, ownF c = true → PySem.W.kitOne B.K (.ref (B.at_ c)) (.type y) = some false) :
    ∀ k b, isB2 ownF x y k = some b → PySem.W.kitAny B.K (k.ty B) [.type x, .type y] = some b := fun k b e => by
  unfold isB2 at e
  cases e1 : isB ownF x k with
  | none => rw [e1] at e; cases e
  | some a =>
    cases e2 : isB ownF y k with
    | none => rw [e1, e2] at e; cases e
    | some b2 =>
      rw [e1, e2] at e
      cases e
      refine kitAny_cons (isB_h h k a e1) (fun ea => ?_) (fun ea => by rw [ea]; rfl)
      rw [ea]
      refine kitAny_cons (isB_h g k b2 e2) (fun eb => ?_) (fun eb => by rw [eb]; rfl)
      rw [eb]; rfl
theorem isB2_ok (ok : ∀ c, ownF c = true → TyOk B c) : ∀ c b, isB2 ownF x y (.obj c) = some b → TyOk B c := fun c b e => by
  unfold isB2 at e
  cases e1 : isB ownF x (.obj c) with
  | none => rw [e1] at e; cases e
  | some a => exact isB_ok ok c a e1
theorem isC_h (h : ∀ c, ownF c = true → PySem.W.kitOne B.K (.ref (B.at_ c)) (.ref (B.at_ j)) = some (f c)) (g : ∀ x ∈ KNAMES, PySem.W.kitOne B.K (.type x) (.ref (B.at_ j)) = some false) :
    ∀ k b, isC ownF f k = some b → PySem.W.kitOne B.K (k.ty B) (.ref (B.at_ j)) = some b := fun k b e => by
  cases k with
  | obj c =>
    have e : (if ownF c = true then some (f c) else none) = some b := e
    by_cases o : ownF c = true
    · rw [if_pos o] at e; cases e; exact h c o
    · rw [if_neg o] at e; cases e
  | non => cases e; exact g _ (by decide)
  | bl => cases e; exact g _ (by decide)
  | int => cases e; exact g _ (by decide)
  | str => cases e; exact g _ (by decide)
  | lst => cases e; exact g _ (by decide)
  | tup => cases e; exact g _ (by decide)
theorem isC_ok (ok : ∀ c, ownF c = true → TyOk B c) : ∀ c b, isC ownF f (.obj c) = some b → TyOk B c := fun c b e => by
  have e : (if ownF c = true then some (f c) else none) = some b := e
  by_cases o : ownF c = true
  · exact ok c o
  · rw [if_neg o] at e; cases e
end
theorem t_doc {B : Book} {G : Hp} {X : Cx} {W : XK} {x : Str} {j : Nat} {pos pos' : Pos} : SimS B G X W (.Expr (.Constant (.str x) j pos) pos') sPass := by
  intro σ H F α env cs fl cs' he hs hm D q
  cases hm
  exact ⟨_, ps_doc, q σ H F α (Ext.refl _ _) hs he⟩
def aStarM (m : ME) (r : MA) : MA := fun env => (m env).bind fun t => fun cs => match seqOf cs t with
  | some us => ((r env).bind fun ts => M.ret (us ++ ts)) cs
  | none => none
theorem a_starM {B : Book} {G : Hp} {X : Cx} {W : XK} {e : Expr} {es : List Expr} {p : Pos} {m : ME} {r : MA} (hK : X.K = B.K) (h : SimE B G X W e m) (hr : SimA B G X W es r) (hs' : starEach (.Starred e p :: es) X.env = (true, eval e X.env) :: starEach es X.env := by rfl) : SimA B G X W (.Starred e p :: es) (aStarM m r) := a_star hK h hr hs'
/-! ### own ==, !=, str, len -/
/-- the class that an object has -/
def clsT (cs : Cs) : T → Option Nat
  | .obj c _ => some c
  | .own k => match cs[k]? with
    | some (.obj c _) => some c
    | _ => none
  | _ => none
theorem cls_at {B : Book} {G F H : Hp} {α : List Addr} {cs : Cs} {v : V} {t : T} {c : Nat} (r : Rep B F α v t) (hs : Hs B G F H α cs) (h : clsT cs t = some c) : ∃ a dx fs, v = .ref a ∧ H a = some (.ins (B.at_ c) dx fs) := by
  cases r with
  | @obj a dx c' vs ts h1 h2 h3 => cases h; exact ⟨a, dx, _, rfl, hs.same _ _ h1⟩
  | @own a k hk =>
    have h : (match cs[k]? with | some (.obj c _) => some c | _ => none) = some c := h
    cases hc : cs[k]? with
    | none => rw [hc] at h; cases h
    | some cc =>
      rw [hc] at h
      cases cc with
      | obj c' us =>
        cases h
        obtain ⟨dx, vs, h1, h2⟩ := hs.cell k a _ hk hc
        exact ⟨a, dx, _, rfl, h1⟩
      | _ => cases h
  | _ => cases h
abbrev TbO := List (Nat × (List T → M T))
def TbO.at_ (l : TbO) (c : Nat) : Option (List T → M T) := match l with
  | [] => none
  | q :: l => if q.1 = c then some q.2 else TbO.at_ l c
/-- the == of the own classes in a table -/
structure EqM (B : Book) (P : Program) (w : World) (K : PySem.W.Frag) (mg : Str → Option Value) (base : Heap) (k : Nat) (ownF : Nat → Bool) (c : Nat) (m : List T → M T) : Prop where
  ex : ∃ f, FnR P w K mg base (L2.CX P w) k f (spM B m) ∧ TsO.EqC K (B.at_ c) f
  nf : ∀ k : Ki, (∀ d, k = .obj d → ownF d = true) → PySem.W.notFirst K (B.at_ c) (k.ty B) = true
  ty : ∀ d, ownF d = true → TyOk B d
def kiOk (ownF : Nat → Bool) : Ki → Bool
  | .obj d => ownF d
  | _ => true
def eqO (ownF : Nat → Bool) (l : TbO) (t u : T) : M T := fun cs => match clsT cs t with
  | none => eqT t u cs
  | some c => match l.at_ c, kiT cs u with
    | some m, some k => if kiOk ownF k = true then match m [t, u] cs with
      | some (.ok (.bl b), cs') => some (.ok (.bl b), cs')
      | some (.ex c x, cs') => some (.ex c x, cs')
      | _ => none
      else none
    | _, _ => none
def neO (ownF : Nat → Bool) (l : TbO) (t u : T) : M T := fun cs => match clsT cs t with
  | none => neT t u cs
  | some c => match l.at_ c, kiT cs u with
    | some m, some k => if kiOk ownF k = true then match m [t, u] cs with
      | some (.ok (.bl b), cs') => some (.ok (.bl (!b)), cs')
      | some (.ex c x, cs') => some (.ex c x, cs')
      | _ => none
      else none
    | _, _ => none
section
variable {B : Book} {G : Hp} {X : Cx} {W : XK} {ownF : Nat → Bool} {l : TbO} {n : Nat}
abbrev EqTb (B : Book) (X : Cx) (n : Nat) (ownF : Nat → Bool) (l : TbO) : Prop := ∀ q ∈ l, EqM B X.prog X.w X.K X.mg X.base n ownF q.1 q.2
theorem TbO.mem {c : Nat} {m : List T → M T} : ∀ {l : TbO}, l.at_ c = some m → (c, m) ∈ l
  | [], h => by cases h
  | q :: l, h => by
    unfold TbO.at_ at h
    by_cases e : q.1 = c
    · rw [if_pos e] at h
      cases h
      rw [← e]
      exact List.mem_cons_self
    · rw [if_neg e] at h
      exact List.mem_cons_of_mem _ (TbO.mem h)
theorem own_go {H F : Hp} {α : List Addr} {cs cs' : Cs} {x y : V} {t u : T} {c : Nat} {m : List T → M T} {k : Ki} {o : Out T} {Q : VK} {z : Bool → V} {zt : Bool → T} (hz : ∀ b F α, Rep B F α (z b) (zt b)) (rx : Rep B F α x t) (ry : Rep B F α y u) (hs : Hs B G F H α cs) (e1 : clsT cs t = some c) (e3 : kiT cs u = some k)
    (hm : (match m [t, u] cs with | some (.ok (.bl b), cs') => some (Out.ok (zt b), cs') | some (.ex c x, cs') => some (.ex c x, cs') | _ => none) = some (o, cs')) (q : PostE B G F α Q W o cs') :
    spM B m [x, y] H (fun v H' => ∃ b, v = .bl b ∧ Q (z b) H') W := by
  cases e4 : m [t, u] cs with
  | none => rw [e4] at hm; cases hm
  | some p =>
    obtain ⟨o4, cs4⟩ := p
    rw [e4] at hm
    cases o4 with
    | ex c' x' =>
      cases hm
      exact ⟨G, F, α, cs, [t, u], _, _, hs, .cons rx (.cons ry .nil), e4, q⟩
    | ok t4 =>
      cases t4 with
      | bl b =>
        cases hm
        refine ⟨G, F, α, cs, [t, u], _, _, hs, .cons rx (.cons ry .nil), e4, fun v H' F' α' ee ss rr => ?_⟩
        cases rr
        exact ⟨b, rfl, q _ _ _ _ ee ss (hz b _ _)⟩
      | _ => cases hm
theorem o_eqO (hK : X.K = B.K) (hu : X.A.units + 64 < cLine) (hl : EqTb B X n ownF l) (hr : Room n X.A) (hx : Passes (L2.CX X.prog X.w) X W) : SimO B G X W (compareOp .Eq) (eqO ownF l) := by
  intro H F α cs x y t u o cs' rx ry hs hm Q q
  unfold eqO at hm
  cases e1 : clsT cs t with
  | none =>
    simp only [e1] at hm
    exact o_eq hK hu H F α cs x y t u o cs' rx ry hs hm Q q
  | some c =>
    simp only [e1] at hm
    cases e2 : l.at_ c with
    | none => simp only [e2] at hm; cases hm
    | some m =>
      cases e3 : kiT cs u with
      | none => simp only [e2, e3] at hm; cases hm
      | some k =>
        simp only [e2, e3] at hm
        by_cases ek : kiOk ownF k = true
        · rw [if_pos ek] at hm
          obtain ⟨⟨f, Ff, hc⟩, nf, ty⟩ := hl (c, m) (TbO.mem e2)
          obtain ⟨a, dx, fs, rfl, ha⟩ := cls_at rx hs e1
          have hk : ∀ d, k = .obj d → ownF d = true := fun d e => by subst e; exact ek
          refine ⟨_, TsO.op_ownEq Ff hr hx, a, _, dx, fs, k.ty B, rfl, ha, hc, ?_, nf k hk, ?_⟩
          · rw [hK]
            exact ki_at (fun d e => ty d (hk d e)) ry hs e3
          · exact own_go (z := V.bl) (zt := T.bl) (fun b _ _ => .bl b) rx ry hs e1 e3 hm q
        · rw [if_neg ek] at hm; cases hm
theorem o_neO (hK : X.K = B.K) (hu : X.A.units + 64 < cLine) (hl : EqTb B X n ownF l) (hr : Room (n + 1) X.A) (hx : Passes (L2.CX X.prog X.w) X W) : SimO B G X W (compareOp .NotEq) (neO ownF l) := by
  intro H F α cs x y t u o cs' rx ry hs hm Q q
  unfold neO at hm
  cases e1 : clsT cs t with
  | none =>
    simp only [e1] at hm
    exact o_ne hK hu H F α cs x y t u o cs' rx ry hs hm Q q
  | some c =>
    simp only [e1] at hm
    cases e2 : l.at_ c with
    | none => simp only [e2] at hm; cases hm
    | some m =>
      cases e3 : kiT cs u with
      | none => simp only [e2, e3] at hm; cases hm
      | some k =>
        simp only [e2, e3] at hm
        by_cases ek : kiOk ownF k = true
        · rw [if_pos ek] at hm
          obtain ⟨⟨f, Ff, hc⟩, nf, ty⟩ := hl (c, m) (TbO.mem e2)
          obtain ⟨a, dx, fs, rfl, ha⟩ := cls_at rx hs e1
          have hk : ∀ d, k = .obj d → ownF d = true := fun d e => by subst e; exact ek
          refine ⟨_, TsO.op_ownNe Ff hr hx, a, _, dx, fs, k.ty B, rfl, ha, hc, ?_, nf k hk, ?_⟩
          · rw [hK]
            exact ki_at (fun d e => ty d (hk d e)) ry hs e3
          · exact own_go (z := fun b => V.bl (!b)) (zt := fun b => T.bl (!b)) (fun b _ _ => .bl _) rx ry hs e1 e3 hm q
        · rw [if_neg ek] at hm; cases hm
mutual
def pureT : T → Bool
  | .own _ => false
  | .lst ts => pureL ts
  | .tup ts => pureL ts
  | .ro ts => pureL ts
  | .obj _ ts => pureL ts
  | _ => true
def pureL : List T → Bool
  | [] => true
  | t :: ts => pureT t && pureL ts
end
mutual
theorem Rep.pure {F F' : Hp} {α α' : List Addr} {v : V} {t : T} (s : Same F F') : Rep B F α v t → pureT t = true → Rep B F' α' v t
  | .non, _ => .non
  | .bl b, _ => .bl b
  | .int i, _ => .int i
  | .str x, _ => .str x
  | .lst h r, p => .lst (s _ _ h) (r.pure s p)
  | .ro h r, p => .ro (s.seq h) (r.pure s p)
  | .tup h r, p => .tup (Ts.Same.sqt s h) (r.pure s p)
  | .obj h e r, p => .obj (s _ _ h) e (r.pure s p)
  | .own _, p => by cases p
  | .cls c, _ => .cls c
theorem RepL.pure {F F' : Hp} {α α' : List Addr} {vs : List V} {ts : List T} (s : Same F F') : RepL B F α vs ts → pureL ts = true → RepL B F' α' vs ts
  | .nil, _ => .nil
  | .cons h r, p => .cons (h.pure s (Bool.and_eq_true_iff.mp p).1) (r.pure s (Bool.and_eq_true_iff.mp p).2)
end
theorem Hs.grow {F H H' : Hp} {α : List Addr} {cs : Cs} (h : Hs B G F H α cs) (s : Same H H') : Hs B G F H' α cs :=
  ⟨h.same.trans s, h.len, h.nd, fun a ha => let ⟨o, e⟩ := h.some_ a ha; ⟨o, s _ _ e⟩, h.free, fun k a c ha hc => (h.cell k a c ha hc).ext (Ext.refl _ _) fun o e => s _ _ e, h.gd.trans s, h.gf⟩
theorem Hs.all (H : Hp) : Hs B (fun _ => none) H H [] [] := ⟨Same.refl _, rfl, List.nodup_nil, (fun _ h => by cases h), (fun _ _ _ h => by simp at h), (fun _ _ _ h => by simp at h), (fun _ _ h => by cases h), (fun _ _ h => by cases h)⟩
/-- x in a tuple: no text, None or tuple is equal to it -/
def decT : T → Bool
  | .str _ => true
  | .non => true
  | .tup ts => pureL ts
  | _ => false
def inG (m : List T → M T) (t : T) : List T → Bool
  | [] => true
  | y :: ys => decT y && (match m [t, y] [] with
    | some (.ok (.bl false), _) => true
    | _ => false) && inG m t ys
def inO (l : TbO) (t u : T) : M T := fun cs => match clsT cs t with
  | none => inT t u cs
  | some c => match l.at_ c, u with
    | some m, .tup us => if (pureT t && inG m t us) = true then some (.ok (.bl false), cs) else none
    | _, _ => none
theorem inG_go {m : List T → M T} {x : V} {t : T} {Q : Hp → Prop} (pt : pureT t = true) {F : Hp} {α : List Addr} : ∀ {vs : List V} {us : List T} {H : Hp}, Rep B F α x t → RepL B F α vs us → Same F H → inG m t us = true →
    (∀ H', Same H H' → Q H') → TsO.inC B.K (spM B m) W x vs H Q
  | [], [], H, rx, _, hs, h, q => q H (Same.refl _)
  | v :: vs, u :: us, H, rx, .cons rv rvs, hs, h, q => by
    unfold inG at h
    obtain ⟨h1, h2⟩ := Bool.and_eq_true_iff.mp h
    obtain ⟨ed, h1⟩ := Bool.and_eq_true_iff.mp h1
    have pu : pureT u = true := by
      cases u <;> first | rfl | exact ed | cases ed
    refine ⟨?_, ?_⟩
    · cases rv with
      | str y => exact .inl ⟨y, rfl⟩
      | non => exact .inr (.inl rfl)
      | tup hq hr => exact .inr (.inr ⟨_, _, rfl, Ts.Same.sqt hs hq⟩)
      | _ => cases ed
    · cases e4 : m [t, u] [] with
      | none => rw [e4] at h1; cases h1
      | some p =>
        obtain ⟨o4, cs4⟩ := p
        rw [e4] at h1
        cases o4 with
        | ex c' x' => cases h1
        | ok t4 =>
          cases t4 with
          | bl b =>
            cases b with
            | true => cases h1
            | false =>
              refine ⟨_, H, [], [], [t, u], _, _, Hs.all H, .cons (rx.pure hs pt) (.cons (rv.pure hs pu) .nil), e4, fun v' H' F' α' ee ss rr => ?_⟩
              cases rr
              have sH : Same H H' := ee.s.trans ss.same
              exact ⟨rfl, sH, inG_go pt rx rvs (hs.trans sH) h2 fun H2 s2 => q H2 (sH.trans s2)⟩
          | _ => cases h1
theorem o_inO (hK : X.K = B.K) (hl : EqTb B X n ownF l) (hd : ∀ q ∈ l, TsO.DecC X.K (B.at_ q.1)) (hr : Room (n + 1) X.A) (hx : Passes (L2.CX X.prog X.w) X W) : SimO B G X W (compareOp .In) (inO l) := by
  intro H F α cs x y t u o cs' rx ry hs hm Q q
  unfold inO at hm
  cases e1 : clsT cs t with
  | none =>
    simp only [e1] at hm
    exact o_in hK H F α cs x y t u o cs' rx ry hs hm Q q
  | some c =>
    simp only [e1] at hm
    cases e2 : l.at_ c with
    | none => simp only [e2] at hm; cases hm
    | some m =>
      simp only [e2] at hm
      cases ry with
      | @tup p ys us hq hrs =>
        dsimp only at hm
        have hc := if_some hm
        rw [if_pos hc] at hm
        cases hm
        obtain ⟨pt, hg⟩ := Bool.and_eq_true_iff.mp hc
        obtain ⟨⟨f, Ff, hc⟩, nf, ty⟩ := hl (c, m) (TbO.mem e2)
        obtain ⟨a, dx, fs, rfl, ha⟩ := cls_at rx hs e1
        refine ⟨_, TsO.op_inOwn Ff hr hx, a, _, dx, fs, p, ys, rfl, rfl, ha, hc, hd _ (TbO.mem e2), by rw [hK]; exact Ts.Same.sqt hs.same hq, ?_⟩
        rw [hK]
        exact inG_go pt rx hrs hs.same hg fun H' s' => q _ H' F α (Ext.refl _ _) (hs.grow s') (.bl false)
      | _ => cases hm
/-! ### str, len of objects -/
structure StrM (B : Book) (P : Program) (w : World) (K : PySem.W.Frag) (mg : Str → Option Value) (base : Heap) (k : Nat) (c : Nat) (m : List T → M T) : Prop where
  ex : ∃ f, FnR P w K mg base (L2.CX P w) k f (spM B m) ∧ TsO.StrC K (B.at_ c) f
structure LenM (B : Book) (P : Program) (w : World) (K : PySem.W.Frag) (mg : Str → Option Value) (base : Heap) (k : Nat) (c : Nat) (m : List T → M T) : Prop where
  ex : ∃ f, FnR P w K mg base (L2.CX P w) k f (spM B m) ∧ TsO.LenC K (B.at_ c) f
def strO (l : TbO) (ts : List T) : M T := fun cs => match ts with
  | [t] => match clsT cs t with
    | none => strC [t] cs
    | some c => match l.at_ c with
      | some m => match m [t] cs with
        | some (.ok (.str x), cs') => some (.ok (.str x), cs')
        | some (.ex c x, cs') => some (.ex c x, cs')
        | _ => none
      | none => none
  | _ => none
def lenO (l : TbO) (ts : List T) : M T := fun cs => match ts with
  | [t] => match clsT cs t with
    | none => lenC [t] cs
    | some c => match l.at_ c with
      | some m => match m [t] cs with
        | some (.ok (.int i), cs') => if 0 ≤ i ∧ i < 2 ^ 63 then some (.ok (.int i), cs') else none
        | some (.ex c x, cs') => some (.ex c x, cs')
        | _ => none
      | none => none
  | _ => none
theorem c_strO (hl : ∀ q ∈ l, StrM B X.prog X.w X.K X.mg X.base n q.1 q.2) (hr : Room (n + 2) X.A) (hx : Passes (L2.CX X.prog X.w) X W) : SimC B G X W (.type "str") (strO l) := by
  intro H F α cs xs ts o cs' r hs hm Q q
  unfold strO at hm
  split at hm
  · rename_i t
    cases e1 : clsT cs t with
    | none =>
      simp only [e1] at hm
      exact c_str H F α cs xs _ o cs' r hs hm Q q
    | some c =>
      simp only [e1] at hm
      cases e2 : l.at_ c with
      | none => simp only [e2] at hm; cases hm
      | some m =>
        simp only [e2] at hm
        obtain ⟨f, Ff, hc⟩ := (hl (c, m) (TbO.mem e2)).ex
        obtain ⟨v, rfl, rv⟩ := r.one
        obtain ⟨a, dx, fs, rfl, ha⟩ := cls_at rv hs e1
        refine ⟨_, TsO.call_ownStr Ff hr hx, a, _, dx, fs, rfl, ha, hc, ?_⟩
        cases e4 : m [t] cs with
        | none => rw [e4] at hm; cases hm
        | some p =>
          obtain ⟨o4, cs4⟩ := p
          rw [e4] at hm
          cases o4 with
          | ex c' x' =>
            cases hm
            exact ⟨G, F, α, cs, [t], _, _, hs, .cons rv .nil, e4, q⟩
          | ok t4 =>
            cases t4 with
            | str x =>
              cases hm
              refine ⟨G, F, α, cs, [t], _, _, hs, .cons rv .nil, e4, fun v H' F' α' ee ss rr => ?_⟩
              cases rr
              exact ⟨x, rfl, q _ _ _ _ ee ss (.str x)⟩
            | _ => cases hm
  · cases hm
theorem c_lenO (hK : X.K = B.K) (hl : ∀ q ∈ l, LenM B X.prog X.w X.K X.mg X.base n q.1 q.2) (hr : Room (n + 1) X.A) (hx : Passes (L2.CX X.prog X.w) X W) : SimC B G X W (.builtin "len") (lenO l) := by
  intro H F α cs xs ts o cs' r hs hm Q q
  unfold lenO at hm
  split at hm
  · rename_i t
    cases e1 : clsT cs t with
    | none =>
      simp only [e1] at hm
      exact c_len hK H F α cs xs _ o cs' r hs hm Q q
    | some c =>
      simp only [e1] at hm
      cases e2 : l.at_ c with
      | none => simp only [e2] at hm; cases hm
      | some m =>
        simp only [e2] at hm
        obtain ⟨f, Ff, hc⟩ := (hl (c, m) (TbO.mem e2)).ex
        obtain ⟨v, rfl, rv⟩ := r.one
        obtain ⟨a, dx, fs, rfl, ha⟩ := cls_at rv hs e1
        refine ⟨_, TsO.call_ownLen Ff hr hx, a, _, dx, fs, rfl, ha, hc, ?_⟩
        cases e4 : m [t] cs with
        | none => rw [e4] at hm; cases hm
        | some p =>
          obtain ⟨o4, cs4⟩ := p
          rw [e4] at hm
          cases o4 with
          | ex c' x' =>
            cases hm
            exact ⟨G, F, α, cs, [t], _, _, hs, .cons rv .nil, e4, q⟩
          | ok t4 =>
            cases t4 with
            | int i =>
              have hi := if_some hm
              dsimp only at hm
              rw [if_pos hi] at hm
              cases hm
              refine ⟨G, F, α, cs, [t], _, _, hs, .cons rv .nil, e4, fun v H' F' α' ee ss rr => ?_⟩
              cases rr
              exact ⟨i, rfl, hi, q _ _ _ _ ee ss (.int i)⟩
            | _ => cases hm
  · cases hm
/-! ### tables -/
theorem EqM.mono {P : Program} {w : World} {K : PySem.W.Frag} {mg : Str → Option Value} {base : Heap} {j k c : Nat} {m : List T → M T} (h : EqM B P w K mg base j ownF c m) (hk : j ≤ k) : EqM B P w K mg base k ownF c m := ⟨let ⟨f, F, e⟩ := h.ex; ⟨f, F.mono hk, e⟩, h.nf, h.ty⟩
theorem StrM.mono {P : Program} {w : World} {K : PySem.W.Frag} {mg : Str → Option Value} {base : Heap} {j k c : Nat} {m : List T → M T} (h : StrM B P w K mg base j c m) (hk : j ≤ k) : StrM B P w K mg base k c m := ⟨let ⟨f, F, e⟩ := h.ex; ⟨f, F.mono hk, e⟩⟩
theorem LenM.mono {P : Program} {w : World} {K : PySem.W.Frag} {mg : Str → Option Value} {base : Heap} {j k c : Nat} {m : List T → M T} (h : LenM B P w K mg base j c m) (hk : j ≤ k) : LenM B P w K mg base k c m := ⟨let ⟨f, F, e⟩ := h.ex; ⟨f, F.mono hk, e⟩⟩
theorem dc_nil {K : PySem.W.Frag} : ∀ q ∈ ([] : TbO), TsO.DecC K (B.at_ q.1) := fun q h => by cases h
theorem dc_cons {K : PySem.W.Frag} {c : Nat} {m : List T → M T} {l : TbO} (h1 : TsO.DecC K (B.at_ c)) (h : ∀ q ∈ l, TsO.DecC K (B.at_ q.1)) : ∀ q ∈ (c, m) :: l, TsO.DecC K (B.at_ q.1) := fun q hq => by
  rcases List.mem_cons.mp hq with rfl | hq
  · exact h1
  · exact h q hq
theorem tb_nil {p : Nat → (List T → M T) → Prop} : ∀ q ∈ ([] : TbO), p q.1 q.2 := fun q h => by cases h
theorem tb_cons {p : Nat → (List T → M T) → Prop} {c : Nat} {m : List T → M T} {l : TbO} (h1 : p c m) (h : ∀ q ∈ l, p q.1 q.2) : ∀ q ∈ (c, m) :: l, p q.1 q.2 := fun q hq => by
  rcases List.mem_cons.mp hq with rfl | hq
  · exact h1
  · exact h q hq
end
end Tv

set_option linter.unusedVariables false
namespace Tv
open PySem L2
/-! ### what a meaning comes to -/
/-- Q stands fixed: what is behind a step is not touched by simp -/
structure Tag {α : Type} (Q : α → Cs → Prop) : Type where mk ::
def EV {α : Type} (m : M α) (cs : Cs) (Q : α → Cs → Prop) (_w : Tag Q := .mk) : Prop := ∃ a cs', m cs = some (.ok a, cs') ∧ Q a cs'
def CV (m : List T → M T) (ts : List T) (cs : Cs) (Q : T → Cs → Prop) (_w : Tag Q := .mk) : Prop := EV (m ts) cs Q
def SV (s : Cs → Option (Fl × Cs)) (cs : Cs) (Q : Fl → Cs → Prop) (_w : Tag Q := .mk) : Prop := ∃ fl cs', s cs = some (fl, cs') ∧ Q fl cs'
theorem CV.mono {m : List T → M T} {ts : List T} {cs : Cs} {Q Q' : T → Cs → Prop} (h : CV m ts cs Q) (q : ∀ t cs', Q t cs' → Q' t cs') : CV m ts cs Q' := let ⟨a, cs', e, z⟩ := h; ⟨a, cs', e, q _ _ z⟩
theorem EV.mono {α : Type} {m : M α} {cs : Cs} {Q Q' : α → Cs → Prop} (h : EV m cs Q) (q : ∀ t cs', Q t cs' → Q' t cs') : EV m cs Q' := let ⟨a, cs', e, z⟩ := h; ⟨a, cs', e, q _ _ z⟩
theorem SV.mono {s : Cs → Option (Fl × Cs)} {cs : Cs} {Q Q' : Fl → Cs → Prop} (h : SV s cs Q) (q : ∀ t cs', Q t cs' → Q' t cs') : SV s cs Q' := let ⟨a, cs', e, z⟩ := h; ⟨a, cs', e, q _ _ z⟩
section
variable {α β : Type} {cs : Cs} {env : Env}
/-- a step that gives one thing -/
theorem ev_some {m : M α} {a : α} {cs' : Cs} {Q : α → Cs → Prop} (h : m cs = some (.ok a, cs')) : EV m cs Q ↔ Q a cs' :=
  ⟨fun ⟨b, c, e, q⟩ => by rw [h] at e; cases e; exact q, fun q => ⟨a, cs', h, q⟩⟩
theorem ev_none {m : M α} {Q : α → Cs → Prop} (h : m cs = none) : EV m cs Q ↔ False :=
  ⟨(fun ⟨b, c, e, q⟩ => by rw [h] at e; cases e), False.elim⟩
theorem ev_bind {m : M α} {f : α → M β} {Q : β → Cs → Prop} : EV (m.bind f) cs Q ↔ EV m cs fun a cs' => EV (f a) cs' Q := by
  constructor
  · rintro ⟨b, c, e, q⟩
    rcases bind_some e with ⟨a, cs1, h1, h2⟩ | ⟨c, x, _, h⟩
    · exact ⟨a, cs1, h1, b, c, h2, q⟩
    · cases h
  · rintro ⟨a, cs1, h1, b, c, h2, q⟩
    refine ⟨b, c, ?_, q⟩
    unfold M.bind
    rw [h1]
    exact h2
theorem ev_cong {m : M α} {Q Q' : α → Cs → Prop} (h : ∀ t cs, Q t cs ↔ Q' t cs) : EV m cs Q ↔ EV m cs Q' := ⟨fun z => z.mono fun t cs => (h t cs).mp, fun z => z.mono fun t cs => (h t cs).mpr⟩
theorem ev_ret {a : α} {Q : α → Cs → Prop} : EV (M.ret a) cs Q ↔ Q a cs := ev_some rfl
theorem ev_lam {m : Cs → Option (Out α × Cs)} {Q : α → Cs → Prop} : EV (fun cs => m cs) cs Q ↔ EV m cs Q := Iff.rfl
theorem if_some' {p : Prop} [Decidable p] {γ : Type} {a : Option γ} {r : γ} (h : (if p then a else none) = some r) : p := by
  by_cases e : p
  · exact e
  · rw [if_neg e] at h; cases h
/-! expressions -/
theorem ev_var0 {t : T} {Q : T → Cs → Prop} : EV (mVar 0 (some t :: env)) cs Q ↔ Q t cs := ev_some rfl
theorem ev_varS {i : Nat} {x : Option T} {Q : T → Cs → Prop} : EV (mVar (i + 1) (x :: env)) cs Q ↔ EV (mVar i env) cs Q := by
  unfold EV mVar
  rw [List.getElem?_cons_succ]
theorem ev_C {t : T} {Q : T → Cs → Prop} : EV (mC t env) cs Q ↔ Q t cs := ev_some rfl
theorem ev_op {r : T → T → M T} {a b : ME} {Q : T → Cs → Prop} : EV (mOp r a b env) cs Q ↔ EV (a env) cs fun t cs => EV (b env) cs fun u cs => EV (r t u) cs Q := by
  unfold mOp
  rw [ev_bind]
  exact ev_cong fun t cs => ev_bind
theorem ev_cal {m : List T → M T} {dts : List T} {a : MA} {Q : T → Cs → Prop} : EV (mCal m dts a env) cs Q ↔ EV (a env) cs fun ts cs => CV m (ts ++ dts) cs Q := by
  unfold mCal
  rw [ev_bind]
  rfl
theorem ev_call {r : List T → M T} {a : MA} {Q : T → Cs → Prop} : EV (mCall r a env) cs Q ↔ EV (a env) cs fun ts cs => EV (r ts) cs Q := by
  unfold mCall
  rw [ev_bind]
theorem ev_aNil {Q : List T → Cs → Prop} : EV (aNil env) cs Q ↔ Q [] cs := ev_some rfl
theorem ev_aCons {m : ME} {r : MA} {Q : List T → Cs → Prop} : EV (aCons m r env) cs Q ↔ EV (m env) cs fun t cs => EV (r env) cs fun ts cs => Q (t :: ts) cs := by
  unfold aCons
  rw [ev_bind]
  exact ev_cong fun t cs => by rw [ev_bind]; exact ev_cong fun ts cs => ev_ret
theorem ev_tup {a : MA} {Q : T → Cs → Prop} : EV (mTup a env) cs Q ↔ EV (a env) cs fun ts cs => ts.length ≤ sizeLine ∧ Q (.tup ts) cs := by
  unfold mTup
  rw [ev_bind]
  refine ⟨fun h => h.mono fun ts cs h => ?_, fun h => h.mono fun ts cs h => ?_⟩
  · obtain ⟨a, c, e, q⟩ := h
    have hz := if_some e
    dsimp only at e
    rw [if_pos hz] at e; cases e
    exact ⟨hz, q⟩
  · exact ⟨_, _, if_pos h.1, h.2⟩
theorem ev_lst {a : MA} {Q : T → Cs → Prop} : EV (mLst a env) cs Q ↔ EV (a env) cs fun ts cs => ts.length ≤ sizeLine ∧ Q (.lst ts) cs := by
  unfold mLst
  rw [ev_bind]
  refine ⟨fun h => h.mono fun ts cs h => ?_, fun h => h.mono fun ts cs h => ?_⟩
  · obtain ⟨a, c, e, q⟩ := h
    have hz := if_some e
    dsimp only at e
    rw [if_pos hz] at e; cases e
    exact ⟨hz, q⟩
  · exact ⟨_, _, if_pos h.1, h.2⟩
theorem ev_lstO {a : MA} {Q : T → Cs → Prop} : EV (mLstO a env) cs Q ↔ EV (a env) cs fun ts cs => ts.length ≤ sizeLine ∧ Q (.own cs.length) (cs ++ [.lst ts]) := by
  unfold mLstO
  rw [ev_bind]
  refine ⟨fun h => h.mono fun ts cs h => ?_, fun h => h.mono fun ts cs h => ?_⟩
  · obtain ⟨a, c, e, q⟩ := h
    have hz := if_some e
    dsimp only at e
    rw [if_pos hz] at e; cases e
    exact ⟨hz, q⟩
  · exact ⟨_, _, if_pos h.1, h.2⟩
theorem ev_starM {m : ME} {r : MA} {Q : List T → Cs → Prop} : EV (aStarM m r env) cs Q ↔ EV (m env) cs fun t cs => ∃ us, seqOf cs t = some us ∧ EV (r env) cs fun ts cs => Q (us ++ ts) cs := by
  unfold aStarM
  rw [ev_bind]
  refine ⟨fun h => h.mono fun t cs h => ?_, fun h => h.mono fun t cs h => ?_⟩
  · obtain ⟨a, c, e, q⟩ := h
    cases e2 : seqOf cs t with
    | none => simp only [e2] at e; cases e
    | some us =>
      simp only [e2] at e
      have h2 : EV ((r env).bind fun ts => M.ret (us ++ ts)) cs Q := ⟨a, c, e, q⟩
      rw [ev_bind] at h2
      exact ⟨us, rfl, h2.mono fun ts cs h => ev_ret.mp h⟩
  · obtain ⟨us, e2, h⟩ := h
    have : EV ((r env).bind fun ts => M.ret (us ++ ts)) cs Q := ev_bind.mpr (h.mono fun ts cs h => ev_ret.mpr h)
    obtain ⟨a, c, e, q⟩ := this
    exact ⟨a, c, by simp only [e2]; exact e, q⟩
theorem ev_ifE {t : Env → M Bool} {a b : ME} {Q : T → Cs → Prop} : EV (mIfE t a b env) cs Q ↔ EV (t env) cs fun c cs => if c = true then EV (a env) cs Q else EV (b env) cs Q := by
  unfold mIfE
  rw [ev_bind]
  refine ⟨fun h => h.mono fun c cs h => ?_, fun h => h.mono fun c cs h => ?_⟩ <;> cases c <;> simpa using h
theorem ev_andV {a b : ME} {Q : T → Cs → Prop} : EV (mAndV a b env) cs Q ↔ EV (a env) cs fun t cs => ∃ c, t = .bl c ∧ if c = true then EV (b env) cs Q else Q (.bl false) cs := by
  unfold mAndV
  rw [ev_bind]
  refine ⟨fun h => h.mono fun t cs h => ?_, fun h => h.mono fun t cs h => ?_⟩
  · cases t with
    | bl c => cases c with
      | true => exact ⟨true, rfl, by simpa using h⟩
      | false => exact ⟨false, rfl, by simpa [ev_ret] using h⟩
    | _ => obtain ⟨a, c, e, q⟩ := h; cases e
  · obtain ⟨c, rfl, h⟩ := h
    cases c with
    | true => simpa using h
    | false => simpa [ev_ret] using h
theorem ev_orV {a b : ME} {Q : T → Cs → Prop} : EV (mOrV a b env) cs Q ↔ EV (a env) cs fun t cs => ∃ c, t = .bl c ∧ if c = true then Q (.bl true) cs else EV (b env) cs Q := by
  unfold mOrV
  rw [ev_bind]
  refine ⟨fun h => h.mono fun t cs h => ?_, fun h => h.mono fun t cs h => ?_⟩
  · cases t with
    | bl c => cases c with
      | true => exact ⟨true, rfl, by simpa [ev_ret] using h⟩
      | false => exact ⟨false, rfl, by simpa using h⟩
    | _ => obtain ⟨a, c, e, q⟩ := h; cases e
  · obtain ⟨c, rfl, h⟩ := h
    cases c with
    | true => simpa [ev_ret] using h
    | false => simpa using h
theorem ev_notV {m : ME} {Q : T → Cs → Prop} : EV (mNotV m env) cs Q ↔ EV (m env) cs fun t cs => ∃ c, t = .bl c ∧ Q (.bl (!c)) cs := by
  unfold mNotV
  rw [ev_bind]
  refine ⟨fun h => h.mono fun t cs h => ?_, fun h => h.mono fun t cs h => ?_⟩
  · cases t with
    | bl c => exact ⟨c, rfl, by simpa only [ev_ret] using h⟩
    | _ => obtain ⟨a, c, e, q⟩ := h; cases e
  · obtain ⟨c, rfl, h⟩ := h
    simpa only [ev_ret] using h
theorem ev_fld {ix : List (Nat × Nat)} {m : ME} {Q : T → Cs → Prop} : EV (mFld ix m env) cs Q ↔ EV (m env) cs fun t cs => ∃ c fs i u, objOf cs t = some (c, fs) ∧ ix.lookup c = some i ∧ fs[i]? = some u ∧ Q u cs := by
  unfold mFld
  rw [ev_bind]
  refine ⟨fun h => h.mono fun t cs h => ?_, fun h => h.mono fun t cs h => ?_⟩
  · obtain ⟨a, c', e, q⟩ := h
    cases e2 : objOf cs t with
    | none => simp only [e2] at e; cases e
    | some p =>
      obtain ⟨c, fs⟩ := p
      simp only [e2] at e
      cases e3 : ix.lookup c with
      | none => simp only [e3] at e; cases e
      | some i =>
        simp only [e3] at e
        cases e4 : fs[i]? with
        | none => simp only [e4] at e; cases e
        | some u =>
          simp only [e4] at e
          cases e
          exact ⟨c, fs, i, a, rfl, e3, e4, q⟩
  · obtain ⟨c, fs, i, u, e2, e3, e4, q⟩ := h
    exact ⟨u, cs, by simp only [e2, e3, e4]; rfl, q⟩
theorem ev_met {tbl : List (Nat × (List T → M T) × List T)} {mo : ME} {a : MA} {Q : T → Cs → Prop} : EV (mMet tbl mo a env) cs Q ↔ EV (mo env) cs fun t cs => ∃ c fs m dts, objOf cs t = some (c, fs) ∧ tbl.lookup c = some (m, dts) ∧ EV (a env) cs fun ts cs => CV m (t :: (ts ++ dts)) cs Q := by
  unfold mMet
  rw [ev_bind]
  refine ⟨fun h => h.mono fun t cs h => ?_, fun h => h.mono fun t cs h => ?_⟩
  · obtain ⟨x, c', e, q⟩ := h
    cases e2 : objOf cs t with
    | none => simp only [e2] at e; cases e
    | some p =>
      obtain ⟨c, fs⟩ := p
      simp only [e2] at e
      cases e3 : tbl.lookup c with
      | none => simp only [e3] at e; cases e
      | some p =>
        obtain ⟨m, dts⟩ := p
        simp only [e3] at e
        exact ⟨c, fs, m, dts, rfl, e3, ev_bind.mp ⟨x, c', e, q⟩⟩
  · obtain ⟨c, fs, m, dts, e2, e3, h⟩ := h
    obtain ⟨x, c', e, q⟩ := ev_bind.mpr h
    exact ⟨x, c', by simp only [e2, e3]; exact e, q⟩
theorem ev_bm {b : BT} {m : T → List T → M T} {mo : ME} {a : MA} {Q : T → Cs → Prop} : EV (mBm b m mo a env) cs Q ↔ EV (mo env) cs fun t cs => isBT cs b t = true ∧ EV (a env) cs fun ts cs => EV (m t ts) cs Q := by
  unfold mBm
  rw [ev_bind]
  refine ⟨fun h => h.mono fun t cs h => ?_, fun h => h.mono fun t cs h => ?_⟩
  · obtain ⟨x, c', e, q⟩ := h
    have hb := if_some' e
    dsimp only at e
    rw [if_pos hb] at e
    exact ⟨hb, ev_bind.mp ⟨x, c', e, q⟩⟩
  · obtain ⟨hb, h⟩ := h
    obtain ⟨x, c', e, q⟩ := ev_bind.mpr h
    exact ⟨x, c', by dsimp only; rw [if_pos hb]; exact e, q⟩
theorem ev_isi {ans : Ki → Option Bool} {m : ME} {Q : T → Cs → Prop} : EV (mIsi ans m env) cs Q ↔ EV (m env) cs fun t cs => ∃ k b, kiT cs t = some k ∧ ans k = some b ∧ Q (.bl b) cs := by
  unfold mIsi
  rw [ev_bind]
  refine ⟨fun h => h.mono fun t cs h => ?_, fun h => h.mono fun t cs h => ?_⟩
  · obtain ⟨x, c', e, q⟩ := h
    cases e2 : kiT cs t with
    | none => simp only [e2] at e; cases e
    | some k =>
      simp only [e2] at e
      cases e3 : ans k with
      | none => simp only [e3] at e; cases e
      | some b => simp only [e3] at e; cases e; exact ⟨k, b, rfl, e3, q⟩
  · obtain ⟨k, b, e2, e3, q⟩ := h
    exact ⟨_, _, by simp only [e2, e3], q⟩
theorem ev_sl {a : ME} {lo hi : MO} {Q : T → Cs → Prop} : EV (mSl a lo hi env) cs Q ↔ EV (a env) cs fun t cs => EV (lo env) cs fun l cs => EV (hi env) cs fun u cs => EV (slT t l u) cs Q := by
  unfold mSl
  rw [ev_bind]
  exact ev_cong fun t cs => by rw [ev_bind]; exact ev_cong fun l cs => ev_bind
theorem ev_oNone {Q : Option Int → Cs → Prop} : EV (oNone env) cs Q ↔ Q none cs := ev_some rfl
theorem ev_oSome {m : ME} {Q : Option Int → Cs → Prop} : EV (oSome m env) cs Q ↔ EV (m env) cs fun t cs => ∃ i, t = .int i ∧ Q (some i) cs := by
  unfold oSome
  rw [ev_bind]
  refine ⟨fun h => h.mono fun t cs h => ?_, fun h => h.mono fun t cs h => ?_⟩
  · obtain ⟨x, c', e, q⟩ := h
    cases t with
    | int i => cases e; exact ⟨i, rfl, q⟩
    | _ => cases e
  · obtain ⟨i, rfl, q⟩ := h
    exact ⟨_, _, rfl, q⟩
/-! tests -/
theorem ev_tst {m : ME} {Q : Bool → Cs → Prop} : EV (mTst m env) cs Q ↔ EV (m env) cs fun t cs => ∃ b, t = .bl b ∧ Q b cs := by
  unfold mTst
  rw [ev_bind]
  refine ⟨fun h => h.mono fun t cs h => ?_, fun h => h.mono fun t cs h => ?_⟩
  · obtain ⟨x, c', e, q⟩ := h
    cases t with
    | bl i => cases e; exact ⟨_, rfl, q⟩
    | _ => cases e
  · obtain ⟨i, rfl, q⟩ := h
    exact ⟨_, _, rfl, q⟩
theorem ev_tru {m : ME} {Q : Bool → Cs → Prop} : EV (mTru m env) cs Q ↔ EV (m env) cs fun t cs => ∃ b, truT cs t = some b ∧ Q b cs := by
  unfold mTru
  rw [ev_bind]
  refine ⟨fun h => h.mono fun t cs h => ?_, fun h => h.mono fun t cs h => ?_⟩
  · obtain ⟨x, c', e, q⟩ := h
    cases e2 : truT cs t with
    | none => dsimp only at e; rw [e2] at e; cases e
    | some b => dsimp only at e; rw [e2] at e; cases e; exact ⟨_, rfl, q⟩
  · obtain ⟨i, e, q⟩ := h
    exact ⟨_, _, by dsimp only; rw [e]; rfl, q⟩
theorem ev_notT {m : Env → M Bool} {Q : Bool → Cs → Prop} : EV (mNotT m env) cs Q ↔ EV (m env) cs fun b cs => Q (!b) cs := by
  unfold mNotT
  rw [ev_bind]
  exact ev_cong fun t cs => ev_ret
theorem ev_andT {a b : Env → M Bool} {Q : Bool → Cs → Prop} : EV (mAndT a b env) cs Q ↔ EV (a env) cs fun c cs => if c = true then EV (b env) cs Q else Q false cs := by
  unfold mAndT
  rw [ev_bind]
  refine ⟨fun h => h.mono fun c cs h => ?_, fun h => h.mono fun c cs h => ?_⟩ <;> cases c <;> simpa [ev_ret] using h
theorem ev_orT {a b : Env → M Bool} {Q : Bool → Cs → Prop} : EV (mOrT a b env) cs Q ↔ EV (a env) cs fun c cs => if c = true then Q true cs else EV (b env) cs Q := by
  unfold mOrT
  rw [ev_bind]
  refine ⟨fun h => h.mono fun c cs h => ?_, fun h => h.mono fun c cs h => ?_⟩ <;> cases c <;> simpa [ev_ret] using h
theorem ev_yes {Q : Bool → Cs → Prop} : EV (yesM env) cs Q ↔ Q true cs := ev_some rfl
/-! what loops walk -/
theorem ev_rng1 {a : MA} {Q : Seq → Cs → Prop} : EV (mRng1 a env) cs Q ↔ EV (a env) cs fun ts cs => ∃ j, ts = [.int j] ∧ (-(2 ^ 62) ≤ j ∧ j < 2 ^ 62) ∧ Q (fr ((List.range j.toNat).map fun (i : Nat) => .int (i : Int))) cs := by
  unfold mRng1
  rw [ev_bind]
  refine ⟨fun h => h.mono fun ts cs h => ?_, fun h => h.mono fun ts cs h => ?_⟩
  · obtain ⟨x, c', e, q⟩ := h
    split at e
    · rename_i j
      have hz := if_some e
      dsimp only at e
      rw [if_pos hz] at e; cases e
      exact ⟨j, rfl, hz, q⟩
    · cases e
  · obtain ⟨j, rfl, hz, q⟩ := h
    exact ⟨_, _, if_pos hz, q⟩
theorem ev_it {m : ME} {Q : Seq → Cs → Prop} : EV (mIt m env) cs Q ↔ EV (m env) cs fun t cs => ∃ p, itT cs t = some p ∧ Q p cs := by
  unfold mIt
  rw [ev_bind]
  refine ⟨fun h => h.mono fun t cs h => ?_, fun h => h.mono fun t cs h => ?_⟩
  · obtain ⟨x, c', e, q⟩ := h
    cases e2 : itT cs t with
    | none => dsimp only at e; rw [e2] at e; cases e
    | some b => dsimp only at e; rw [e2] at e; cases e; exact ⟨_, rfl, q⟩
  · obtain ⟨i, e, q⟩ := h
    exact ⟨_, _, by dsimp only; rw [e]; rfl, q⟩
theorem ev_enum {a : MA} {Q : Seq → Cs → Prop} : EV (mEnum a env) cs Q ↔ EV (a env) cs fun ts cs => ∃ t p, ts = [t] ∧ seqT cs t = some p ∧ Q (enumFrom 0 p.1, p.2) cs := by
  unfold mEnum
  rw [ev_bind]
  refine ⟨fun h => h.mono fun ts cs h => ?_, fun h => h.mono fun ts cs h => ?_⟩
  · obtain ⟨x, c', e, q⟩ := h
    split at e
    · rename_i t
      cases e2 : seqT cs t with
      | none => dsimp only at e; rw [e2] at e; cases e
      | some b => dsimp only at e; rw [e2] at e; cases e; exact ⟨t, b, rfl, e2, q⟩
    · cases e
  · obtain ⟨t, i, rfl, e, q⟩ := h
    exact ⟨_, _, by simp only [e]; rfl, q⟩
/-! comprehensions -/
@[irreducible] def LV (ck : Cs → Bool) (own : List Nat) (g : T → Env → Option Env) (mt : Env → M Bool) (me : ME) (ts : List T) (env : Env) (cs : Cs) (Q : List T → Cs → Prop) (_w : Tag Q := .mk) : Prop := EV (lcL ck own g mt me ts env) cs Q
theorem ev_lc {own : List Nat} {mi : Env → M Seq} {g : T → Env → Option Env} {mt : Env → M Bool} {me : ME} {Q : T → Cs → Prop} : EV (mLc own mi g mt me env) cs Q ↔ EV (mi env) cs fun p cs => LV p.2 own g mt me p.1 env cs fun us cs => us.length ≤ sizeLine ∧ Q (.lst us) cs := by
  unfold mLc LV
  rw [ev_bind]
  refine ev_cong fun t cs => ?_
  rw [ev_bind]
  refine ⟨fun h => h.mono fun us cs h => ?_, fun h => h.mono fun us cs h => ?_⟩
  · obtain ⟨a, c, e, q⟩ := h
    have hz := if_some e
    dsimp only at e
    rw [if_pos hz] at e; cases e
    exact ⟨hz, q⟩
  · exact ⟨_, _, if_pos h.1, h.2⟩
theorem ev_lcO {own : List Nat} {mi : Env → M Seq} {g : T → Env → Option Env} {mt : Env → M Bool} {me : ME} {Q : T → Cs → Prop} : EV (mLcO own mi g mt me env) cs Q ↔ EV (mi env) cs fun p cs => LV p.2 own g mt me p.1 env cs fun us cs => us.length ≤ sizeLine ∧ Q (.own cs.length) (cs ++ [.lst us]) := by
  unfold mLcO LV
  rw [ev_bind]
  refine ev_cong fun t cs => ?_
  rw [ev_bind]
  refine ⟨fun h => h.mono fun us cs h => ?_, fun h => h.mono fun us cs h => ?_⟩
  · obtain ⟨a, c, e, q⟩ := h
    have hz := if_some e
    dsimp only at e
    rw [if_pos hz] at e; cases e
    exact ⟨hz, q⟩
  · exact ⟨_, _, if_pos h.1, h.2⟩
/-- the elements one by one, with no effect: f says what each gives, if anything -/
theorem lv_pure {ck : Cs → Bool} {own : List Nat} {g : T → Env → Option Env} {mt : Env → M Bool} {me : ME} {Q : List T → Cs → Prop} (f : T → Option T) : ∀ {ts : List T} {cs : Cs}, ck cs = true →
    (∀ t ∈ ts, ∃ env1, g t (wipeE env own) = some env1 ∧ EV (mt env1) cs fun b cs' => cs' = cs ∧ (b = false ∧ f t = none ∨ b = true ∧ EV (me env1) cs fun u cs'' => cs'' = cs ∧ f t = some u)) →
    Q (ts.filterMap f) cs → LV ck own g mt me ts env cs Q
  | [], cs, hc, _, q => by
    unfold LV
    exact ⟨[], cs, by unfold lcL; exact if_pos hc, q⟩
  | t :: ts, cs, hc, h, q => by
    unfold LV
    obtain ⟨env1, e1, b, cs', e2, rfl, h2⟩ := h t List.mem_cons_self
    have ih := fun (Q' : List T → Cs → Prop) (q' : Q' (ts.filterMap f) cs') => lv_pure (Q := Q') f (ts := ts) hc (fun t ht => h t (List.mem_cons_of_mem _ ht)) q'
    rcases h2 with ⟨rfl, e3⟩ | ⟨rfl, u, cs'', e4, rfl, e5⟩
    · rw [List.filterMap_cons, e3] at q
      have ihq := ih Q q
      unfold LV at ihq
      obtain ⟨a, c, ea, qa⟩ := ihq
      refine ⟨a, c, ?_, qa⟩
      show lcL ck own g mt me (t :: ts) env cs' = _
      unfold lcL
      rw [if_pos hc]
      simp only [e1, e2]
      exact ea
    · rw [List.filterMap_cons, e5] at q
      have ihq := ih (fun us cs => Q (u :: us) cs) q
      unfold LV at ihq
      obtain ⟨a, c, ea, qa⟩ := ihq
      refine ⟨u :: a, c, ?_, qa⟩
      show lcL ck own g mt me (t :: ts) env cs'' = _
      unfold lcL
      rw [if_pos hc]
      have ea : lcL ck own g mt me ts env cs'' = _ := ea
      simp only [e1, e2, e4, ea]
/-! texts -/
theorem ev_joined {ms : List ME} {Q : T → Cs → Prop} : EV (mJoined ms env) cs Q ↔ EV (joinL ms Str.empty env) cs fun x cs => Q (.str x) cs := by
  unfold mJoined
  rw [ev_bind]
  exact ev_cong fun t cs => ev_ret
theorem ev_jNil {acc : Str} {Q : Str → Cs → Prop} : EV (joinL [] acc env) cs Q ↔ Q acc cs := ev_some rfl
theorem ev_jCons {m : ME} {ms : List ME} {acc : Str} {Q : Str → Cs → Prop} : EV (joinL (m :: ms) acc env) cs Q ↔ EV (m env) cs fun t cs => ∃ y, t = .str y ∧ (acc ++ y).length ≤ sizeLine ∧ EV (joinL ms (acc ++ y) env) cs Q := by
  show EV ((m env).bind _) cs Q ↔ _
  rw [ev_bind]
  refine ⟨fun h => h.mono fun t cs h => ?_, fun h => h.mono fun t cs h => ?_⟩
  · cases t with
    | str y =>
      obtain ⟨a, c, e, q⟩ := h
      dsimp only at e
      by_cases hz : (acc ++ y).length ≤ sizeLine
      · rw [if_pos hz] at e
        exact ⟨y, rfl, hz, a, c, e, q⟩
      · rw [if_neg hz] at e
        cases e
    | _ => obtain ⟨a, c, e, q⟩ := h; cases e
  · obtain ⟨y, rfl, hz, h⟩ := h
    dsimp only
    rw [if_pos hz]
    exact h
theorem ev_fmtS {m : ME} {Q : T → Cs → Prop} : EV (mFmt m env) cs Q ↔ EV (m env) cs fun t cs => (∃ y, t = .str y ∧ y.length ≤ sizeLine ∧ Q (.str y) cs) ∨ ∃ i, t = .int i ∧ i.natAbs.log2 < 1920 ∧ Q (.str (toString i)) cs := by
  unfold mFmt
  rw [ev_bind]
  refine ⟨fun h => h.mono fun t cs h => ?_, fun h => h.mono fun t cs h => ?_⟩
  · obtain ⟨a, c, e, q⟩ := h
    cases t with
    | str y =>
      have hz := if_some e
      dsimp only at e
      rw [if_pos hz] at e; cases e
      exact .inl ⟨y, rfl, hz, q⟩
    | int i =>
      have hz := if_some e
      dsimp only at e
      rw [if_pos hz] at e; cases e
      exact .inr ⟨i, rfl, hz, q⟩
    | _ => cases e
  · rcases h with ⟨y, rfl, hz, q⟩ | ⟨y, rfl, hz, q⟩
    · exact ⟨_, _, if_pos hz, q⟩
    · exact ⟨_, _, if_pos hz, q⟩
end
end Tv

set_option linter.unusedVariables false
namespace Tv
open PySem L2
/-! ### statements -/
section
variable {cs : Cs} {env : Env} {Q : Fl → Cs → Prop}
theorem sv_some {s : Cs → Option (Fl × Cs)} {fl : Fl} {cs' : Cs} (h : s cs = some (fl, cs')) : SV s cs Q ↔ Q fl cs' :=
  ⟨fun ⟨b, c, e, q⟩ => by rw [h] at e; cases e; exact q, fun q => ⟨fl, cs', h, q⟩⟩
theorem sv_go {α : Type} {m : M α} {f : α → Cs → Option (Fl × Cs)} (h : EV m cs fun a cs' => SV (f a) cs' Q) : SV (m.go f) cs Q := by
  obtain ⟨a, cs', e, b, c, e2, q⟩ := h
  exact ⟨b, c, by unfold M.go; rw [e]; exact e2, q⟩
theorem sv_cons {m n : SM} (h : SV (m env) cs fun fl cs' => match fl with | .nx env' => SV (n env') cs' Q | fl => Q fl cs') : SV (bCons m n env) cs Q := by
  obtain ⟨fl, cs', e, h⟩ := h
  cases fl with
  | nx env' =>
    obtain ⟨b, c, e2, q⟩ := h
    exact ⟨b, c, by unfold bCons; rw [e]; exact e2, q⟩
  | _ => exact ⟨_, cs', by unfold bCons; rw [e], h⟩
theorem sv_nil (h : Q (.nx env) cs) : SV (bNil env) cs Q := ⟨_, _, rfl, h⟩
theorem sv_pass (h : Q (.nx env) cs) : SV (sPass env) cs Q := ⟨_, _, rfl, h⟩
theorem sv_break (h : Q (.bk env) cs) : SV (sBreak env) cs Q := ⟨_, _, rfl, h⟩
theorem sv_cont (h : Q (.ct env) cs) : SV (sCont env) cs Q := ⟨_, _, rfl, h⟩
theorem sv_retN (h : Q (.rt .non) cs) : SV (sRetN env) cs Q := ⟨_, _, rfl, h⟩
theorem sv_set {i : Nat} {m : ME} (h : EV (m env) cs fun t cs => Q (.nx (env.set i (some t))) cs) : SV (sSet i m env) cs Q := sv_go (h.mono fun t cs q => ⟨_, _, rfl, q⟩)
theorem sv_ret {m : ME} (h : EV (m env) cs fun t cs => Q (.rt t) cs) : SV (sRet m env) cs Q := sv_go (h.mono fun t cs q => ⟨_, _, rfl, q⟩)
theorem sv_expr {m : ME} (h : EV (m env) cs fun _ cs => Q (.nx env) cs) : SV (sExpr m env) cs Q := sv_go (h.mono fun t cs q => ⟨_, _, rfl, q⟩)
theorem sv_if {t : Env → M Bool} {a b : SM} (h : EV (t env) cs fun c cs => if c = true then SV (a env) cs Q else SV (b env) cs Q) : SV (sIf t a b env) cs Q :=
  sv_go (h.mono fun c cs q => by cases c <;> simpa using q)
theorem sv_asg {g : T → Env → Option Env} {m : ME} (h : EV (m env) cs fun t cs => ∃ env', g t env = some env' ∧ Q (.nx env') cs) : SV (sAsg g m env) cs Q :=
  sv_go (h.mono fun t cs ⟨env', e, q⟩ => ⟨.nx env', cs, by rw [e]; rfl, q⟩)
theorem sv_raise {c : Nat} {a : MA} (h : EV (a env) cs fun ts cs => ∃ t, ts = [t] ∧ Q (.ex c (some t)) cs) : SV (sRaise c a env) cs Q :=
  sv_go (h.mono fun ts cs ⟨t, e, q⟩ => ⟨.ex c (some t), cs, by subst e; rfl, q⟩)
theorem sv_par2 {i j : Nat} {a : MA} (h : EV (a env) cs fun ts cs => ∃ t u, ts = [t, u] ∧ Q (.nx ((env.set i (some t)).set j (some u))) cs) : SV (sPar [i, j] a env) cs Q :=
  sv_go (h.mono fun ts cs ⟨t, u, e, q⟩ => ⟨_, cs, by subst e; rfl, q⟩)
theorem sv_par3 {i j l : Nat} {a : MA} (h : EV (a env) cs fun ts cs => ∃ t u v, ts = [t, u, v] ∧ Q (.nx (((env.set i (some t)).set j (some u)).set l (some v))) cs) : SV (sPar [i, j, l] a env) cs Q :=
  sv_go (h.mono fun ts cs ⟨t, u, v, e, q⟩ => ⟨_, cs, by subst e; rfl, q⟩)
theorem sv_frz {i k : Nat} {ts : List T} (h1 : env[i]? = some (some (.own k))) (h2 : cs[k]? = some (.lst ts)) (q : Q (.nx (env.set i (some (.lst ts)))) (cs.set k .dead)) : SV (sFrz i env) cs Q :=
  ⟨_, _, by unfold sFrz; simp only [h1, h2], q⟩
theorem sv_fld {ix : List (Nat × Nat)} {mo mv : ME} (h : EV (mv env) cs fun v cs => EV (mo env) cs fun t cs => ∃ k c fs i, t = .own k ∧ cs[k]? = some (.obj c fs) ∧ ix.lookup c = some i ∧ i = fs.length ∧ Q (.nx env) (cs.set k (.obj c (fs ++ [v])))) : SV (sFldT ix mo mv env) cs Q := by
  refine sv_go (h.mono fun v cs h => ?_)
  refine sv_go (h.mono fun t cs h => ?_)
  obtain ⟨k, c, fs, i, rfl, h1, h2, h3, q⟩ := h
  refine ⟨_, _, ?_, q⟩
  simp only [h1, h2, h3, Nat.lt_irrefl, if_false, if_true]
theorem sv_sub {mo mi mv : ME} (h : EV (mv env) cs fun v cs => EV (mo env) cs fun t cs => EV (mi env) cs fun u cs => ∃ k i us j, t = .own k ∧ u = .int i ∧ cs[k]? = some (.lst us) ∧ ixN us.length i = some j ∧ Q (.nx env) (cs.set k (.lst (us.set j v)))) : SV (sSub mo mi mv env) cs Q := by
  refine sv_go (h.mono fun v cs h => ?_)
  refine sv_go (h.mono fun t cs h => ?_)
  refine sv_go (h.mono fun u cs h => ?_)
  obtain ⟨k, i, us, j, rfl, rfl, h1, h2, q⟩ := h
  exact ⟨_, _, by simp only [h1, h2], q⟩
/-- a loop, with what holds ahead of each turn -/
theorem sv_for {mi : Env → M Seq} {g : T → Env → Option Env} {body : SM} (h : EV (mi env) cs fun p cs => SV (forL p.2 g body p.1 env) cs Q) : SV (sFor mi g body env) cs Q := sv_go h
theorem for_inv {ck : Cs → Bool} {g : T → Env → Option Env} {body : SM} (I : List T → Env → Cs → Prop) (hc : ∀ ts env cs, I ts env cs → ck cs = true)
    (step : ∀ t ts env cs, I (t :: ts) env cs → ∃ env1, g t env = some env1 ∧ SV (body env1) cs fun fl cs' => match fl with | .nx e => I ts e cs' | .ct e => I ts e cs' | .bk e => Q (.nx e) cs' | fl => Q fl cs')
    (fin : ∀ env cs, I [] env cs → Q (.nx env) cs) : ∀ (ts : List T) (env : Env) (cs : Cs), I ts env cs → SV (forL ck g body ts env) cs Q
  | [], env, cs, h => ⟨.nx env, cs, by unfold forL; exact if_pos (hc _ _ _ h), fin env cs h⟩
  | t :: ts, env, cs, h => by
    obtain ⟨env1, e1, fl, cs', e2, q⟩ := step t ts env cs h
    have key : ∀ e, I ts e cs' → (body env1 cs = some (.nx e, cs') ∨ body env1 cs = some (.ct e, cs')) → SV (forL ck g body (t :: ts) env) cs Q := fun e hI he => by
      obtain ⟨fl, c, e3, q⟩ := for_inv I hc step fin ts e cs' hI
      refine ⟨fl, c, ?_, q⟩
      unfold forL
      rw [if_pos (hc _ _ _ h)]
      rcases he with he | he <;> simp only [e1, he] <;> exact e3
    cases fl with
    | nx e => exact key e q (.inl e2)
    | ct e => exact key e q (.inr e2)
    | bk e => exact ⟨_, _, by unfold forL; rw [if_pos (hc _ _ _ h)]; simp only [e1, e2], q⟩
    | rt t => exact ⟨_, _, by unfold forL; rw [if_pos (hc _ _ _ h)]; simp only [e1, e2], q⟩
    | ex c x => exact ⟨_, _, by unfold forL; rw [if_pos (hc _ _ _ h)]; simp only [e1, e2], q⟩
/-! ### defs -/
theorem cv_def {np n : Nat} {mb : SM} {ts : List T} {Q : T → Cs → Prop} (hl : ts.length = np) (h : SV (mb (ts.map some ++ List.replicate (n - ts.length) none)) cs fun fl cs' => match fl with | .nx _ => Q .non cs' | .rt t => Q t cs' | _ => False) : CV (mDef np n mb) ts cs Q := by
  obtain ⟨fl, cs', e, h⟩ := h
  cases fl with
  | nx e' => exact ⟨_, cs', by unfold mDef; rw [if_pos hl, e], h⟩
  | rt t => exact ⟨_, cs', by unfold mDef; rw [if_pos hl, e], h⟩
  | _ => exact h.elim
theorem cv_make {c nf : Nat} {mi : List T → M T} {ts : List T} {Q : T → Cs → Prop} (h : CV mi (.own cs.length :: ts) (cs ++ [.obj c []]) fun t cs' => t = .non ∧ ∃ fs, cs'[cs.length]? = some (.obj c fs) ∧ fs.length = nf ∧ Q (.obj c fs) (cs'.set cs.length .dead)) : CV (mMake c nf mi) ts cs Q := by
  obtain ⟨t, cs', e, rfl, fs, e2, e3, q⟩ := h
  exact ⟨_, _, by unfold mMake; simp only [e, e2, e3, and_self, if_true], q⟩
end
/-! ### operations -/
section
variable {cs : Cs} {Q : T → Cs → Prop}
theorem ev_add {i j : Int} : EV (addT (.int i) (.int j)) cs Q ↔ Q (.int (i + j)) cs := ev_some rfl
theorem ev_sub {i j : Int} : EV (subT (.int i) (.int j)) cs Q ↔ Q (.int (i - j)) cs := ev_some rfl
theorem ev_lt {i j : Int} : EV (ltT (.int i) (.int j)) cs Q ↔ Q (.bl (decide (i < j))) cs := ev_some rfl
theorem ev_le {i j : Int} : EV (leT (.int i) (.int j)) cs Q ↔ Q (.bl (decide (i ≤ j))) cs := ev_some rfl
theorem ev_gt {i j : Int} : EV (gtT (.int i) (.int j)) cs Q ↔ Q (.bl (decide (j < i))) cs := ev_some rfl
theorem ev_ge {i j : Int} : EV (geT (.int i) (.int j)) cs Q ↔ Q (.bl (decide (j ≤ i))) cs := ev_some rfl
theorem ev_mul {i j : Int} (h : (small i || small j) = true) : EV (mulT (.int i) (.int j)) cs Q ↔ Q (.int (i * j)) cs := ev_some (by unfold mulT; dsimp only; rw [if_pos h])
theorem ev_mulR {i j : Int} (h : -18446744073709551616 < j) (h' : j < 18446744073709551616) : EV (mulT (.int i) (.int j)) cs Q ↔ Q (.int (i * j)) cs := ev_mul (by rw [show small j = true from decide_eq_true ⟨h, h'⟩, Bool.or_true])
theorem ev_mulL {i j : Int} (h : -18446744073709551616 < i) (h' : i < 18446744073709551616) : EV (mulT (.int i) (.int j)) cs Q ↔ Q (.int (i * j)) cs := ev_mul (by rw [show small i = true from decide_eq_true ⟨h, h'⟩, Bool.true_or])
theorem ev_mod {i j : Int} (h : 0 < j) : EV (modT (.int i) (.int j)) cs Q ↔ Q (.int (i % j)) cs := ev_some (by show (if decide (0 < j) = true then _ else _) = _; rw [if_pos (decide_eq_true h)])
theorem ev_div {i j : Int} (h : 0 < j) (h' : j < 18446744073709551616) : EV (divT (.int i) (.int j)) cs Q ↔ Q (.int (i / j)) cs := ev_some (by
  show (if (decide (0 < j) && small j) = true then _ else _) = _
  rw [if_pos (by rw [decide_eq_true h, Bool.true_and]; unfold small; exact decide_eq_true ⟨by omega, h'⟩)])
theorem ev_pow {i j : Int} (h1 : 0 ≤ j) (h2 : j ≤ 1000000) (h3 : -18446744073709551616 < i) (h4 : i < 18446744073709551616) : EV (powT (.int i) (.int j)) cs Q ↔ Q (.int (i ^ j.toNat)) cs := ev_some (by
  show (if decide (0 ≤ j ∧ j ≤ 1000000 ∧ i.natAbs < 2 ^ 64) = true then _ else _) = _
  rw [if_pos (decide_eq_true ⟨h1, h2, by omega⟩)])
theorem ev_int {i : Int} : EV (intC [.int i]) cs Q ↔ Q (.int i) cs := ev_some rfl
theorem ev_intB {k : Bool} : EV (intC [.bl k]) cs Q ↔ Q (.int (if k = true then 1 else 0)) cs := ev_some rfl
theorem ev_abs {i : Int} : EV (absC [.int i]) cs Q ↔ Q (.int (if i < 0 then -i else i)) cs := ev_some rfl
theorem ev_max {i j : Int} : EV (maxC [.int i, .int j]) cs Q ↔ Q (.int (if j > i then j else i)) cs := ev_some rfl
theorem ev_min {i j : Int} : EV (minC [.int i, .int j]) cs Q ↔ Q (.int (if j < i then j else i)) cs := ev_some rfl
theorem ev_eqI {i j : Int} : EV (eqT (.int i) (.int j)) cs Q ↔ Q (.bl (decide (i = j))) cs := ev_some (by
  unfold eqT
  show some (Out.ok (T.bl (i == j)), cs) = _
  rw [show (i == j) = decide (i = j) from rfl])
theorem ev_neI {i j : Int} : EV (neT (.int i) (.int j)) cs Q ↔ Q (.bl (!decide (i = j))) cs := ev_some (by
  unfold neT
  show some (Out.ok (T.bl (!(i == j))), cs) = _
  rw [show (i == j) = decide (i = j) from rfl])
theorem eqv_strs {i j : Str} : eqvT cs (.str i) (.str j) = some (i == j) := rfl
theorem ev_eqS {i j : Str} (h : PySem.PyData.strOk i = true) (g : PySem.PyData.strOk j = true) : EV (eqT (.str i) (.str j)) cs Q ↔ Q (.bl (i == j)) cs := ev_some (by unfold eqT; rw [eqv_strs]; rfl)
theorem ev_neS {i j : Str} (h : PySem.PyData.strOk i = true) (g : PySem.PyData.strOk j = true) : EV (neT (.str i) (.str j)) cs Q ↔ Q (.bl (!(i == j))) cs := ev_some (by unfold neT; rw [eqv_strs]; rfl)
theorem ev_eqStr {i j : Str} : EV (eqT (.str i) (.str j)) cs Q ↔ Q (.bl (i == j)) cs := ev_some (by unfold eqT; rw [eqv_strs]; rfl)
theorem ev_neStr {i j : Str} : EV (neT (.str i) (.str j)) cs Q ↔ Q (.bl (!(i == j))) cs := ev_some (by unfold neT; rw [eqv_strs]; rfl)
theorem ev_isNon {t : T} : EV (isT t .non) cs Q ↔ Q (.bl (isNon t)) cs := ev_some rfl
theorem ev_isntNon {t : T} : EV (isntT t .non) cs Q ↔ Q (.bl (!isNon t)) cs := ev_some rfl
theorem ev_isB {a b : Bool} : EV (isT (.bl a) (.bl b)) cs Q ↔ Q (.bl (decide (a = b))) cs := ev_some rfl
theorem ev_ixSeq {t : T} {ts : List T} {i : Int} {u : T} (hs : ∀ z, t ≠ .str z) (h : seqOf cs t = some ts) (h2 : atI ts i = some u) : EV (ixT t (.int i)) cs Q ↔ Q u cs := ev_some (by
  unfold ixT
  cases t with
  | str z => exact (hs z rfl).elim
  | _ => dsimp only; rw [h]; dsimp only; rw [h2]; rfl)
theorem ev_ixOwn {k : Nat} {us : List T} {i : Int} {u : T} (h : cs[k]? = some (.lst us)) (h2 : atI us i = some u) : EV (ixT (.own k) (.int i)) cs Q ↔ Q u cs := ev_ixSeq (fun z => (by intro e; cases e)) (by show lstOf cs (.own k) = _; unfold lstOf; simp only [h]) h2
theorem ev_ixLst {us : List T} {i : Int} {u : T} (h2 : atI us i = some u) : EV (ixT (.lst us) (.int i)) cs Q ↔ Q u cs := ev_ixSeq (fun z => (by intro e; cases e)) rfl h2
theorem ev_ixTup {us : List T} {i : Int} {u : T} (h2 : atI us i = some u) : EV (ixT (.tup us) (.int i)) cs Q ↔ Q u cs := ev_ixSeq (fun z => (by intro e; cases e)) rfl h2
theorem ev_ixRo {us : List T} {i : Int} {u : T} (h2 : atI us i = some u) : EV (ixT (.ro us) (.int i)) cs Q ↔ Q u cs := ev_ixSeq (fun z => (by intro e; cases e)) rfl h2
theorem ev_tupC {t : T} {ts : List T} (h : seqOf cs t = some ts) : EV (tupC [t]) cs Q ↔ Q (.tup ts) cs := ev_some (by unfold tupC; dsimp only; rw [h])
theorem ev_listC {t : T} {ts : List T} (h : seqOf cs t = some ts) : EV (listC [t]) cs Q ↔ Q (.lst ts) cs := ev_some (by unfold listC; dsimp only; rw [h])
theorem ev_listOC {t : T} {ts : List T} (h : seqOf cs t = some ts) : EV (listOC [t]) cs Q ↔ Q (.own cs.length) (cs ++ [.lst ts]) := ev_some (by unfold listOC; dsimp only; rw [h])
theorem ev_lenC {t : T} {ts : List T} (hs : ∀ z, t ≠ .str z) (h : seqOf cs t = some ts) : EV (lenC [t]) cs Q ↔ Q (.int ts.length) cs := ev_some (by
  unfold lenC
  cases t with
  | str z => exact (hs z rfl).elim
  | _ => dsimp only; rw [h])
theorem ev_lenS {z : Str} (h : z.length ≤ sizeLine) : EV (lenC [.str z]) cs Q ↔ Q (.int z.length) cs := ev_some (by unfold lenC; dsimp only; rw [if_pos h])
/-- data that == takes -/
def okd (t : T) : Prop := ∃ d, dat0 t = some d ∧ SeqAt.shaped d = true
theorem dat_of {t : T} {d : PyData} (h : dat0 t = some d) : dat cs t = some d := by
  cases t <;> first | exact h | cases h
theorem ev_neSame {t : T} (h : okd t) : EV (neT t t) cs Q ↔ Q (.bl false) cs := ev_some (by
  obtain ⟨d, h1, h2⟩ := h
  have e : eqvT cs t t = some true := by
    unfold eqvT
    split
    · simp
    · unfold eqvD
      simp only [dat_of h1, h2, Bool.and_self, if_true]
      rw [SeqAt.eqv_refl d (SeqAt.canLay_of_shaped h2)]
  unfold neT
  rw [e]
  rfl)
theorem ev_eqSame {t : T} (h : okd t) : EV (eqT t t) cs Q ↔ Q (.bl true) cs := ev_some (by
  obtain ⟨d, h1, h2⟩ := h
  have e : eqvT cs t t = some true := by
    unfold eqvT
    split
    · simp
    · unfold eqvD
      simp only [dat_of h1, h2, Bool.and_self, if_true]
      rw [SeqAt.eqv_refl d (SeqAt.canLay_of_shaped h2)]
  unfold eqT
  rw [e]
  rfl)
end
/-! ### own operations -/
section
variable {cs : Cs} {Q : T → Cs → Prop} {l : TbO} {t u : T} {c : Nat} {m : List T → M T} {ownF : Nat → Bool}
theorem ev_strO (h1 : clsT cs t = some c) (h2 : l.at_ c = some m) (h : CV m [t] cs fun u cs' => ∃ x, u = .str x ∧ Q (.str x) cs') : EV (strO l [t]) cs Q := by
  obtain ⟨a, cs', e, x, rfl, q⟩ := h
  exact ⟨_, _, by unfold strO; simp only [h1, h2, e], q⟩
theorem ev_strOD (h1 : clsT cs t = none) : EV (strO l [t]) cs Q ↔ EV (strC [t]) cs Q := by
  unfold EV strO
  simp only [h1]
theorem ev_lenO (h1 : clsT cs t = some c) (h2 : l.at_ c = some m) (h : CV m [t] cs fun u cs' => ∃ i : Int, u = .int i ∧ (0 ≤ i ∧ i < 2 ^ 63) ∧ Q (.int i) cs') : EV (lenO l [t]) cs Q := by
  obtain ⟨a, cs', e, x, rfl, hx, q⟩ := h
  exact ⟨_, _, by unfold lenO; simp only [h1, h2, e]; rw [if_pos hx], q⟩
theorem ev_lenOD (h1 : clsT cs t = none) : EV (lenO l [t]) cs Q ↔ EV (lenC [t]) cs Q := by
  unfold EV lenO
  simp only [h1]
theorem ev_eqO {k : Ki} (h1 : clsT cs t = some c) (h2 : l.at_ c = some m) (h3 : kiT cs u = some k) (h4 : kiOk ownF k = true) (h : CV m [t, u] cs fun v cs' => ∃ b, v = .bl b ∧ Q (.bl b) cs') : EV (eqO ownF l t u) cs Q := by
  obtain ⟨a, cs', e, x, rfl, q⟩ := h
  exact ⟨_, _, by unfold eqO; simp only [h1, h2, h3, h4, e, if_true], q⟩
theorem ev_eqOD (h1 : clsT cs t = none) : EV (eqO ownF l t u) cs Q ↔ EV (eqT t u) cs Q := by
  unfold EV eqO
  simp only [h1]
theorem ev_neO {k : Ki} (h1 : clsT cs t = some c) (h2 : l.at_ c = some m) (h3 : kiT cs u = some k) (h4 : kiOk ownF k = true) (h : CV m [t, u] cs fun v cs' => ∃ b, v = .bl b ∧ Q (.bl (!b)) cs') : EV (neO ownF l t u) cs Q := by
  obtain ⟨a, cs', e, x, rfl, q⟩ := h
  exact ⟨_, _, by unfold neO; simp only [h1, h2, h3, h4, e, if_true], q⟩
theorem ev_neOD (h1 : clsT cs t = none) : EV (neO ownF l t u) cs Q ↔ EV (neT t u) cs Q := by
  unfold EV neO
  simp only [h1]
theorem ev_inO {us : List T} (h1 : clsT cs t = some c) (h2 : l.at_ c = some m) (hp : pureT t = true) (h : ∀ y ∈ us, decT y = true ∧ ∃ cs', m [t, y] [] = some (.ok (.bl false), cs')) (q : Q (.bl false) cs) : EV (inO l t (.tup us)) cs Q := by
  have key : inG m t us = true := by
    clear q
    induction us with
    | nil => rfl
    | cons y ys ih =>
      obtain ⟨h1, cs', h2⟩ := h y List.mem_cons_self
      unfold inG
      rw [h1, h2, ih fun z hz => h z (List.mem_cons_of_mem _ hz)]
      rfl
  exact ⟨_, _, by unfold inO; simp only [h1, h2, hp, key, Bool.and_self, if_true], q⟩
theorem ev_addL {a b : List T} (h : a.length + b.length ≤ sizeLine) : EV (addT (.lst a) (.lst b)) cs Q ↔ Q (.lst (a ++ b)) cs := ev_some (by show (if a.length + b.length ≤ sizeLine then _ else _) = _; rw [if_pos h])
theorem ev_slL {a : List T} {lo hi : Option Int} : EV (slT (.lst a) lo hi) cs Q ↔ Q (.lst (cutT a lo hi)) cs := ev_some rfl
theorem cut_take {a : List T} {i : Int} (h0 : 0 ≤ i) (h1 : i ≤ a.length) : cutT a none (some i) = a.take i.toNat := by
  unfold cutT
  have e : HT.sIx a.length a.length (some i) = i.toNat := by
    show (if i < 0 then _ else min i.toNat a.length) = _
    rw [if_neg (by omega)]
    omega
  rw [e]
  rfl
theorem cut_drop {a : List T} {i : Int} (h0 : 0 ≤ i) (h1 : i ≤ a.length) : cutT a (some i) none = a.drop i.toNat := by
  unfold cutT
  have e : HT.sIx a.length 0 (some i) = i.toNat := by
    show (if i < 0 then _ else min i.toNat a.length) = _
    rw [if_neg (by omega)]
    omega
  rw [e]
  show (a.drop i.toNat).take (a.length - i.toNat) = _
  exact List.take_of_length_le (by rw [List.length_drop]; exact Nat.le_refl _)
theorem ev_neB {a b : Bool} : EV (neT (.bl a) (.bl b)) cs Q ↔ Q (.bl (!(a == b))) cs := ev_some (by unfold neT; rfl)
theorem ev_eqB {a b : Bool} : EV (eqT (.bl a) (.bl b)) cs Q ↔ Q (.bl (a == b)) cs := ev_some (by unfold eqT; rfl)
theorem ev_strI {i : Int} (h : i.natAbs.log2 < 1920) : EV (strC [.int i]) cs Q ↔ Q (.str (toString i)) cs := ev_some (by unfold strC; dsimp only; rw [if_pos h])
theorem ev_strS {x : Str} : EV (strC [.str x]) cs Q ↔ Q (.str x) cs := ev_some rfl
theorem ev_append {k : Nat} {us : List T} (h : cs[k]? = some (.lst us)) (hz : us.length < sizeLine) : EV (appendM (.own k) [u]) cs Q ↔ Q .non (cs.set k (.lst (us ++ [u]))) := ev_some (by unfold appendM; simp only [h]; rw [if_pos hz])
/-! texts whose signs are signs -/
theorem strOk_app {a b : Str} (h : PyData.strOk a = true) (g : PyData.strOk b = true) : PyData.strOk (a ++ b) = true := by
  show (a.cps ++ b.cps).all _ = true
  rw [Array.all_append]
  exact Bool.and_eq_true_iff.mpr ⟨h, g⟩
theorem strOk_of (s : String) : PyData.strOk (Str.ofString s) = true := by
  rw [Str.ofString_eq_toList]
  show Array.all _ _ = true
  rw [Array.all_eq_true_iff_forall_mem]
  intro c hc
  rw [List.mem_toArray] at hc
  obtain ⟨d, _, rfl⟩ := List.mem_map.mp hc
  refine decide_eq_true ?_
  rcases d.valid with h | h
  · exact Nat.lt_of_lt_of_le h (by decide)
  · exact h.2
theorem strOk_join {a : Str} (h : PyData.strOk a = true) : ∀ {ys : List Str}, (∀ y ∈ ys, PyData.strOk y = true) → PyData.strOk (Txt.join a ys) = true
  | [], _ => by rw [TL.join_eq, Str.join]; decide +kernel
  | [x], g => by rw [TL.join_eq]; exact g x (by simp)
  | x :: y :: ys, g => by
    have ih := strOk_join h (ys := y :: ys) fun z hz => g z (List.mem_cons_of_mem _ hz)
    rw [TL.join_eq] at ih ⊢
    exact strOk_app (strOk_app (g x List.mem_cons_self) h) ih
end
end Tv
local macro_rules | `(tactic| fail "ev1") => `(tactic| simp (config := { failIfUnchanged := true }) only [Tv.ev_var0, Tv.ev_varS, Tv.ev_C, Tv.ev_op, Tv.ev_cal, Tv.ev_call, Tv.ev_aNil, Tv.ev_aCons, Tv.ev_tup, Tv.ev_lst, Tv.ev_lstO, Tv.ev_starM, Tv.ev_ifE, Tv.ev_andV, Tv.ev_orV, Tv.ev_notV, Tv.ev_fld, Tv.ev_met, Tv.ev_bm, Tv.ev_isi, Tv.ev_sl, Tv.ev_oNone, Tv.ev_oSome, Tv.ev_tst, Tv.ev_tru, Tv.ev_notT, Tv.ev_andT, Tv.ev_orT, Tv.ev_yes, Tv.ev_rng1, Tv.ev_it, Tv.ev_enum, Tv.ev_lc, Tv.ev_lcO, Tv.ev_joined, Tv.ev_jNil, Tv.ev_jCons, Tv.ev_fmtS, Tv.ev_add, Tv.ev_sub, Tv.ev_lt, Tv.ev_le, Tv.ev_gt, Tv.ev_ge, Tv.ev_mod, Tv.ev_mulR, Tv.ev_mulL, Tv.ev_div, Tv.ev_pow, Tv.ev_int, Tv.ev_intB, Tv.ev_abs, Tv.ev_max, Tv.ev_min, Tv.ev_eqI, Tv.ev_neI, Tv.ev_isNon, Tv.ev_isntNon, Tv.ev_isB, List.nil_append, List.append_nil, List.cons_append, List.set_cons_zero, List.set_cons_succ, List.map_cons, List.map_nil, List.length_cons, List.length_nil, List.replicate, Int.reduceLT, Int.reduceLE, Int.reduceNeg, Int.reduceToNat, Int.reduceAdd, Int.reducePow, Int.natAbs_natCast, Nat.reduceLT, Nat.reduceLeDiff, Nat.reduceAdd, Nat.reduceSub, Nat.reducePow, Int.reduceEq, decide_true, decide_false, Bool.or_true, Bool.or_false, Bool.true_or, Bool.false_or, Bool.and_true, Bool.true_and, if_true, if_false, Bool.false_eq_true, Bool.not_true, Bool.not_false, exists_eq_left', exists_eq_left, Option.some.injEq, Tv.T.bl.injEq, Tv.T.int.injEq, Tv.T.str.injEq, Tv.T.own.injEq, exists_and_left, exists_and_right, true_and, and_true, reduceCtorEq, false_and, and_false, false_or, or_false, exists_false, Tv.T.lst.injEq, Tv.T.tup.injEq, Tv.T.ro.injEq, List.cons.injEq])
local macro_rules | `(tactic| fail "sv1") => `(tactic| first | refine Tv.sv_cons ?_ | refine Tv.sv_set ?_ | refine Tv.sv_ret ?_ | refine Tv.sv_if ?_ | refine Tv.sv_expr ?_ | refine Tv.sv_nil ?_ | refine Tv.sv_pass ?_ | refine Tv.sv_asg ?_ | refine Tv.sv_raise ?_ | refine Tv.sv_par2 ?_ | refine Tv.sv_fld ?_ | refine Tv.sv_sub ?_ | refine Tv.sv_for ?_ | refine Tv.sv_retN ?_ | refine Tv.sv_break ?_ | refine Tv.sv_cont ?_)
local macro_rules | `(tactic| fail "sv") => `(tactic| repeat (first | fail "sv1" | fail "ev1"))

set_option linter.unusedVariables false
namespace Tv
open PySem L2 ClX PyProof.Rows
section
variable {B : Book} {G : Hp} {X : Cx} {W : XK}
/-! ### e[::-1] -/
theorem RepL.reverse {F : Hp} {α : List Addr} : ∀ {vs : List V} {ts : List T}, RepL B F α vs ts → RepL B F α vs.reverse ts.reverse
  | _, _, .nil => .nil
  | _, _, .cons h r => by
    rw [List.reverse_cons, List.reverse_cons]
    exact r.reverse.append (.cons h .nil)
def mRev (m : ME) : ME := fun env => (m env).bind fun t => fun cs => match lstOf cs t with
  | some ts => some (.ok (.lst ts.reverse), cs)
  | none => none
def mRevO (m : ME) : ME := fun env => (m env).bind fun t => fun cs => match lstOf cs t with
  | some ts => some (.ok (.own cs.length), cs ++ [.lst ts.reverse])
  | none => none
theorem s_rev {e : Expr} {k : Nat} {p1 p2 p3 pos : Pos} {m : ME} (hK : X.K = B.K) (h : SimE B G X W e m) : SimE B G X W (.Subscript e (.Slice none none (some (.UnaryOp .USub (.Constant (.int 1) k p1) p2)) p3) pos) (mRev m) := by
  intro σ H F α env cs o cs' he hs hm Q q
  refine ⟨_, pe_revL (pe_u X e), ?_⟩
  refine h.then he hs hm q.exn fun t cs1 v H1 F1 α1 h1 e1 s1 r1 => ?_
  cases e2 : lstOf cs1 t with
  | none => simp only [e2] at h1; cases h1
  | some ts =>
    simp only [e2] at h1
    cases h1
    obtain ⟨a, vs, rfl, hq, hr⟩ := lst_at r1 s1 e2
    refine ⟨a, vs, rfl, by rw [hK]; exact hq, fun p np => ?_⟩
    obtain ⟨s2, x2⟩ := s1.frozen (o := .lst vs.reverse) np
    exact q _ _ _ _ (e1.trans x2) s2 (.lst upd_same (hr.reverse.ext x2))
theorem s_revO {e : Expr} {k : Nat} {p1 p2 p3 pos : Pos} {m : ME} (hK : X.K = B.K) (h : SimE B G X W e m) : SimE B G X W (.Subscript e (.Slice none none (some (.UnaryOp .USub (.Constant (.int 1) k p1) p2)) p3) pos) (mRevO m) := by
  intro σ H F α env cs o cs' he hs hm Q q
  refine ⟨_, pe_revL (pe_u X e), ?_⟩
  refine h.then he hs hm q.exn fun t cs1 v H1 F1 α1 h1 e1 s1 r1 => ?_
  cases e2 : lstOf cs1 t with
  | none => simp only [e2] at h1; cases h1
  | some ts =>
    simp only [e2] at h1
    cases h1
    obtain ⟨a, vs, rfl, hq, hr⟩ := lst_at r1 s1 e2
    refine ⟨a, vs, rfl, by rw [hK]; exact hq, fun p np => ?_⟩
    obtain ⟨s2, x2⟩ := s1.owned (o := .lst vs.reverse) (c := .lst ts.reverse) np ⟨vs.reverse, upd_same, hr.reverse.mono (Same.refl _) (List.prefix_append _ _)⟩
    refine q _ _ _ _ (e1.trans x2) s2 (.own ?_)
    rw [← s1.len, List.getElem?_append_right (Nat.le_refl _), Nat.sub_self]
    rfl
/-! ### a written dict of texts, asked by get -/
def keyAt (x : Str) (es : List DictEntry) : Value := ((es.find? fun e => Value.isStrOf x e.key).map (·.val)).getD .none
structure KD (K : PySem.W.Frag) (w : World) (a : Addr) (kvs : List (Str × T)) : Prop where
  ex : ∃ (es : Array DictEntry) (n : Nat), K.lookup a = some ⟨.type "dict", none, .dict es n, #[]⟩ ∧ PySem.W.KeysLit w.params es.toList ∧ (a == sysModules) = false ∧ ∀ x, ∃ v : V, RelV v (keyAt x es.toList) ∧ ∀ (B : Book) F α, Rep B F α v ((kvs.lookup x).getD .non)
inductive Ents : List (Str × T) → List DictEntry → Prop
  | nil : Ents [] []
  | int {k : Str} {i : Int} {e : DictEntry} {t u : Tok} {ks : List (Str × T)} {es : List DictEntry} : e.key = .str k t → e.val = .int i u → Ents ks es → Ents ((k, .int i) :: ks) (e :: es)
theorem ents_at (x : Str) : ∀ {ks : List (Str × T)} {es : List DictEntry}, Ents ks es → ∃ v : V, RelV v (keyAt x es) ∧ ∀ (B : Book) F α, Rep B F α v ((ks.lookup x).getD .non)
  | _, _, .nil => ⟨.non, rfl, fun _ _ _ => .non⟩
  | _, _, .int (k := k) (i := i) (e := e) (t := t) (u := u) (ks := ks) (es := es) h1 h2 h => by
    by_cases c : k = x
    · subst c
      refine ⟨.int i, ?_, fun B F α => ?_⟩
      · refine ⟨u, ?_⟩
        show keyAt k (e :: es) = _
        unfold keyAt
        rw [List.find?_cons, h1]
        simp [Value.isStrOf, h2]
      · rw [List.lookup_cons]
        simp only [beq_self_eq_true]
        exact .int i
    · obtain ⟨v, g1, g2⟩ := ents_at x h
      have e1 : keyAt x (e :: es) = keyAt x es := by
        unfold keyAt
        rw [List.find?_cons, h1]
        simp only [Value.isStrOf, show (k == x) = false from beq_false_of_ne c]
      refine ⟨v, by rw [e1]; exact g1, fun B F α => ?_⟩
      rw [List.lookup_cons, show (x == k) = false from beq_false_of_ne (Ne.symm c)]
      exact g2 B F α
def tKGet (te : TE) (w : World) (K : PySem.W.Frag) (a : Addr) : TE := fun σ H Q => te σ H fun y H2 => ∃ (z : Str) (kvs : List (Str × T)), y = .str z ∧ KD K w a kvs ∧ ∀ v, (∀ (B : Book) F α, Rep B F α v ((kvs.lookup z).getD .non)) → Q v H2
theorem pe_kget {x : Str} {a : Addr} {p apos cpos : Pos} {e : Expr} {te : TE} (he : PE X e te) (hg : PE X (.Name x p) (tC (.ref a))) (ty : ∀ kvs : List (Str × T), True) (m : M1 X (.Name x p) "get" apos e cpos)
    (kd : ∃ kvs, KD X.K X.w a kvs) : PE X (.Call (.Attribute (.Name x p) "get" apos) [e] [] cpos) (tKGet te X.w X.K a) := by
  refine ⟨fun pins s σ H Q I h => ?_⟩
  obtain ⟨_, ⟨es, n, hl, hk, low, _⟩⟩ := kd
  refine wpAny_Call_method m.base m.few m.line PySem.F.plainAttrs_dict PySem.F.slot_dict_get PySem.F.type_dict_get (thn (hg.run pins s σ H (fun v H1 => v = .ref a ∧ te σ H1 fun y H2 => ∃ (z : Str) (kvs : List (Str × T)), y = .str z ∧ KD X.K X.w a kvs ∧ ∀ v, (∀ (B : Book) F α, Rep B F α v ((kvs.lookup z).getD .non)) → Q v H2) I ⟨rfl, h⟩) fun u s1 ⟨y, H1, I1, rx, e1, q1⟩ => ?_)
  subst e1
  obtain rfl : u = Value.ref a := rx
  have hm' := PySem.W.mapOf_K (prog := X.prog) (w := X.w) I1.kIn hl hk
  refine ⟨hm'.typeIs, fun b q => ?_, ?_⟩
  · cases q
    exact ⟨_, I1.kIn _ _ hl, rfl⟩
  rw [m.trees]
  refine Calls.callWith_builtin rfl (Calls.evalArgs_plain (Calls.spliced_cons (thn (he.run pins s1 σ H1 _ I1 q1) fun iv s2 ⟨y, H2, I2, ry, z, kvs, ey, kd, q2⟩ => Calls.spliced_nil ?_)))
  subst ey
  obtain ⟨t, rfl⟩ := (show ∃ t, iv = Value.str z t from ry)
  obtain ⟨es', n', hl', hk', low', hv⟩ := kd.ex
  rw [hl] at hl'
  cases hl'
  have hm2 := PySem.W.mapOf_K (prog := X.prog) (w := X.w) I2.kIn hl hk
  refine call_meetsIn PySem.F.slot_dict_get hm2.typeIs PySem.F.entry_dict_get (PySem.F.args_dict_get_2 _ _) (meets_dict_get (strKind X.prog X.w) a (strKind_is X.prog X.w z t) low) ⟨_, hm2, ?_⟩
  obtain ⟨v, g1, g2⟩ := hv z
  exact ⟨v, H2, I2.tok _, by rw [show findBy Value.isStrOf es z = (es.toList.find? fun e => Value.isStrOf z e.key).map (·.val) by unfold findBy; rw [Array.find?_toList]]; exact g1, q2 v g2⟩
def mGet (kvs : List (Str × T)) (m : ME) : ME := fun env => (m env).bind fun t => fun cs => match t with
  | .str x => some (.ok ((kvs.lookup x).getD .non), cs)
  | _ => none
theorem s_kget {x : Str} {a : Addr} {p apos cpos : Pos} {e : Expr} {m : ME} {kvs : List (Str × T)} (h : SimE B G X W e m) (hg : PE X (.Name x p) (tC (.ref a))) (kd : KD X.K X.w a kvs) (m1 : M1 X (.Name x p) "get" apos e cpos) : SimE B G X W (.Call (.Attribute (.Name x p) "get" apos) [e] [] cpos) (mGet kvs m) := by
  intro σ H F α env cs o cs' he hs hm Q q
  refine ⟨_, pe_kget (pe_u X e) hg (fun _ => trivial) m1 ⟨_, kd⟩, ?_⟩
  refine h.then he hs hm q.exn fun t cs1 v H1 F1 α1 h1 e1 s1 r1 => ?_
  cases r1 with
  | str z =>
    cases h1
    exact ⟨z, kvs, rfl, kd, fun v hv => q v H1 F1 α1 e1 s1 (hv B F1 α1)⟩
  | _ => cases h1
/-! ### classmethods -/
structure CmM (B : Book) (P : Program) (w : World) (K : PySem.W.Frag) (mg : Str → Option Value) (base : Heap) (k : Nat) (c : Nat) (n : Str) (m : List T → M T) : Prop where
  ex : ∃ mc p g, CRead K (B.at_ c) mc ∧ CMet K (B.at_ c) mc n p g ∧ FnR P w K mg base (L2.CX P w) k g (spM B m)
def mCm (c : Nat) (m : List T → M T) (a : MA) : ME := fun env => (a env).bind fun ts => m (.cls c :: ts)
theorem s_cm {k j c : Nat} {n : Str} {m : List T → M T} {o e : Expr} {es : List Expr} {apos pos : Pos} {a : MA} {pl : Sem Bool} (h : CmM B X.prog X.w X.K X.mg X.base k c n m) (hr : Room j X.A) (hk : k ≤ j) (hx : Passes (L2.CX X.prog X.w) X W) (ho : PE X o (tC (.ref (B.at_ c)))) (ha : SimA B G X W (e :: es) a)
    (hst : starEach (e :: es) X.env = (false, eval e X.env) :: starEach es X.env := by rfl) (hpl : (backTo pos (starEach es X.env)).any (·.1) = false := by rfl)
    (ht : eval (.Call (.Attribute o n apos) (e :: es) [] pos) X.env = (do
      let ov ← eval o X.env
      standAt apos.atName
      let (f, first) ← holding [ov] (getMethod ov n pl)
      callWith pos f first (backTo pos (starEach (e :: es) X.env)) (backToKw pos (keywordEach [] X.env))) := by rfl) : SimE B G X W (.Call (.Attribute o n apos) (e :: es) [] pos) (mCm c m a) := by
  obtain ⟨mc, p, g, cr, cm, Fn⟩ := h.ex
  intro σ H F α env cs oo cs' he hs hm Q q
  refine ⟨_, pe_cmeth ho cr cm Fn (hr.mono hk) hx (pa_u X _) hst hpl ht, rfl, ?_⟩
  refine ha.then he hs hm q.exn fun ts cs1 vs H1 F1 α1 h1 e1 s1 r1 => ?_
  exact spM_of s1 (.cons (.cls c) r1) h1 (q.ext e1)
/-! ### C(.., *xs), cls(..) -/
section
variable {k j : Nat} {x : Str} {c nf i : Nat} {mi : List T → M T} {e : Expr} {es : List Expr} {p pos : Pos} {a : MA}
def tMakeS (P : Program) (w : World) (K : PySem.W.Frag) (mg : Str → Option Value) (base : Heap) (k : Nat) (x : Str) (C : Addr) (sp : Sp) (E : XK) (t : TA) : TE := fun σ H Q => t σ H fun vs H1 => ∃ dvs, Ts.MakX P w K mg base k x C sp dvs ∧
  ∀ y dy, H1 y = none → H1 dy = none → dy ≠ y → sp (.ref y :: (vs ++ dvs)) (upd (upd H1 dy (.own y)) y (.ins C dy [])) (fun v H2 => v = .non ∧ Q (.ref y) H2) E
theorem pe_makeS {C : Addr} {sp : Sp} {E : XK} {t : TA} (hr : Room (k + 1) X.A) (hg : Gl X x) (hm : X.mg x = some (.ref C)) (kp : PySem.W.keepIn X.K (.ref C) = true) (hx : Passes (L2.CX X.prog X.w) X E) (ha : PA X (e :: es) t)
    (hdb : (x == ("__debug__" : Str)) = false := by decide) (he : starEach (e :: es) X.env = (false, eval e X.env) :: starEach es X.env := by rfl) (hst : (backTo pos (starEach es X.env)).any (·.1) = true := by rfl) :
    PE X (.Call (.Name x p) (e :: es) [] pos) (tMakeS X.prog X.w X.K X.mg X.base k x C sp E t) := by
  refine ⟨fun pins s σ H Q I h => ?_⟩
  refine wpAny_Call_Name_kw (ld_glob I hg hm ?_ hdb)
  refine PySem.W.callWith_S2 (h₀ := X.base) I.ok.mod.kin kp (thn (ha.run pos pins s σ H _ I h) fun us s1 ⟨vs, H1, I1, r, dvs, cm, q⟩ => ⟨I1.kIn, ?_⟩) he hst
  obtain ⟨f, fd, ps, ds, M, Fn, hmg, b, d⟩ := cm.ex
  rw [hm] at hmg
  exact run_make M Fn hr b d hx I1 r q
theorem pe_makeL {C : Addr} {sp : Sp} {E : XK} {t : TA} (hr : Room (k + 1) X.A) (hv : PE X (.Name x p) (tVar i)) (kp : PySem.W.keepIn X.K (.ref C) = true) (hx : Passes (L2.CX X.prog X.w) X E) (ha : PA X (e :: es) t)
    (he : starEach (e :: es) X.env = (false, eval e X.env) :: starEach es X.env := by rfl) (hpl : (backTo pos (starEach es X.env)).any (·.1) = false := by rfl) {n : Str} :
    PE X (.Call (.Name x p) (e :: es) [] pos) (fun σ H Q => σ[i]? = some (some (.ref C)) ∧ tMakeS X.prog X.w X.K X.mg X.base k n C sp E t σ H Q) := by
  refine ⟨fun pins s σ H Q I h => ?_⟩
  obtain ⟨hs, h⟩ := h
  refine wpAny_Call_Name_kw (thn (hv.run pins s σ H (fun v H1 => v = .ref C ∧ H1 = H) I ⟨.ref C, hs, rfl, rfl⟩) fun u s1 ⟨v, H1, I1, r1, q1⟩ => ?_)
  obtain ⟨rfl, rfl⟩ := q1
  obtain rfl : u = Value.ref C := r1
  refine PySem.W.callWith_K (h₀ := X.base) I.ok.mod.kin kp (thn (ha.run pos pins s1 σ _ _ I1 h) fun us s2 ⟨vs, H2, I2, r, dvs, cm, q⟩ => ⟨I2.kIn, ?_⟩) he hpl
  obtain ⟨f, fd, ps, ds, M, Fn, hmg, b, d⟩ := cm.ex
  exact run_make M Fn hr b d hx I2 r q
def mCalS (c nf : Nat) (mi : List T → M T) (tbl : List (Nat × List T)) (a : MA) : ME := fun env => (a env).bind fun ts => match tbl.lookup ts.length with
  | some dts => mMake c nf mi (ts ++ dts)
  | none => M.fail
abbrev MkTb (B : Book) (P : Program) (w : World) (K : PySem.W.Frag) (mg : Str → Option Value) (base : Heap) (k c : Nat) (x : Str) (mi : List T → M T) (tbl : List (Nat × List T)) : Prop := ∀ q ∈ tbl, ∃ dvs, Ts.MakX P w K mg base k x (B.at_ c) (spM B mi) dvs ∧ ∀ F α, RepL B F α dvs q.2
theorem mktb_nil {P : Program} {w : World} {K : PySem.W.Frag} {mg : Str → Option Value} {base : Heap} : MkTb B P w K mg base k c x mi [] := fun q h => by cases h
theorem mktb_cons {P : Program} {w : World} {K : PySem.W.Frag} {mg : Str → Option Value} {base : Heap} {n : Nat} {dvs : List V} {dts : List T} {tbl : List (Nat × List T)} (h : Ts.MakX P w K mg base k x (B.at_ c) (spM B mi) dvs) (r : ∀ F α, RepL B F α dvs dts) (t : MkTb B P w K mg base k c x mi tbl) : MkTb B P w K mg base k c x mi ((n, dts) :: tbl) := fun q hq => by
  rcases List.mem_cons.mp hq with rfl | hq
  · exact ⟨dvs, h, r⟩
  · exact t q hq
theorem MkTb.kp {P : Program} {w : World} {K : PySem.W.Frag} {mg : Str → Option Value} {base : Heap} {q : Nat × List T} {tbl : List (Nat × List T)} (h : MkTb B P w K mg base k c x mi (q :: tbl)) : PySem.W.keepIn K (.ref (B.at_ c)) = true ∧ mg x = some (.ref (B.at_ c)) := by
  obtain ⟨dvs, cm, _⟩ := h q List.mem_cons_self
  obtain ⟨f, fd, ps, ds, M, Fn, hmg, b, d⟩ := cm.ex
  exact ⟨M.kp, hmg⟩
theorem s_makeS {q0 : Nat × List T} {tbl : List (Nat × List T)} (h : MkTb B X.prog X.w X.K X.mg X.base k c x mi (q0 :: tbl)) (hn : (B.names c).length = nf) (hr : Room j X.A) (hk : k + 1 ≤ j) (hx : Passes (L2.CX X.prog X.w) X W) (hg : Gl X x) (ha : SimA B G X W (e :: es) a)
    (hdb : (x == ("__debug__" : Str)) = false := by decide) (he : starEach (e :: es) X.env = (false, eval e X.env) :: starEach es X.env := by rfl) (hst : (backTo pos (starEach es X.env)).any (·.1) = true := by rfl) :
    SimE B G X W (.Call (.Name x p) (e :: es) [] pos) (mCalS c nf mi (q0 :: tbl) a) := by
  intro σ H F α env cs o cs' hE hs hm Q q
  refine ⟨_, pe_makeS (sp := spM B mi) (hr.mono hk) hg h.kp.2 h.kp.1 hx (pa_u X _) hdb he hst, ?_⟩
  refine ha.then hE hs hm q.exn fun ts cs1 vs H1 F1 α1 h1 e1 s1 r1 => ?_
  cases e2 : (q0 :: tbl).lookup ts.length with
  | none => simp only [e2] at h1; cases h1
  | some dts =>
    simp only [e2] at h1
    obtain ⟨dvs, cm, hd⟩ := h (ts.length, dts) (mem_lookup' e2)
    exact ⟨dvs, cm, fun y dy ny ndy ne => make_go hn s1 (r1.append (hd F1 α1)) h1 (q.ext e1) ny ndy ne⟩
def mCalL (i c nf : Nat) (mi : List T → M T) (tbl : List (Nat × List T)) (a : MA) : ME := fun env => match env[i]? with
  | some (some (.cls d)) => if d = c then mCalS c nf mi tbl a env else M.fail
  | _ => M.fail
theorem s_makeL {q0 : Nat × List T} {tbl : List (Nat × List T)} {n : Str} (h : MkTb B X.prog X.w X.K X.mg X.base k c n mi (q0 :: tbl)) (hn : (B.names c).length = nf) (hr : Room j X.A) (hk : k + 1 ≤ j) (hx : Passes (L2.CX X.prog X.w) X W) (hv : PE X (.Name x p) (tVar i)) (ha : SimA B G X W (e :: es) a)
    (he : starEach (e :: es) X.env = (false, eval e X.env) :: starEach es X.env := by rfl) (hpl : (backTo pos (starEach es X.env)).any (·.1) = false := by rfl) :
    SimE B G X W (.Call (.Name x p) (e :: es) [] pos) (mCalL i c nf mi (q0 :: tbl) a) := by
  intro σ H F α env cs o cs' hE hs hm Q q
  have hm : (match env[i]? with | some (some (.cls d)) => if d = c then mCalS c nf mi (q0 :: tbl) a env else M.fail | _ => M.fail : M T) cs = some (o, cs') := hm
  cases h0 : env[i]? with
  | none => simp only [h0] at hm; cases hm
  | some h00 =>
  cases h00 with
  | none => simp only [h0] at hm; cases hm
  | some t0 =>
  cases t0 with
  | cls d =>
    simp only [h0] at hm
    by_cases hc : d = c
    · rw [if_pos hc] at hm
      subst hc
      obtain ⟨v, hv1, hv2⟩ := hE.at_ _ _ h0
      cases hv2
      refine ⟨_, pe_makeL (sp := spM B mi) (n := n) (hr.mono hk) hv h.kp.1 hx (pa_u X _) he hpl, hv1, ?_⟩
      refine ha.then hE hs hm q.exn fun ts cs1 vs H1 F1 α1 h1 e1 s1 r1 => ?_
      cases e2 : (q0 :: tbl).lookup ts.length with
      | none => simp only [e2] at h1; cases h1
      | some dts =>
        simp only [e2] at h1
        obtain ⟨dvs, cm, hd⟩ := h (ts.length, dts) (mem_lookup' e2)
        exact ⟨dvs, cm, fun y dy ny ndy ne => make_go hn s1 (r1.append (hd F1 α1)) h1 (q.ext e1) ny ndy ne⟩
    · rw [if_neg hc] at hm; cases hm
  | _ => simp only [h0] at hm; cases hm
end
end
end Tv

set_option linter.unusedVariables false
namespace TvG
open PySem L2 PySem.Spec PyProof.Rows
/-! ### a def's call at one around -/
def RunAt (P : Program) (w : World) (K : PySem.W.Frag) (mg : Str → Option Value) (bs : Heap) (CX : CXT) (A : Around) (f : Addr) (fd : FuncData) (ps : List Str) (sp : Sp) : Prop :=
  ∀ (fr : List Env) (s : Shared) (H : Hp) (as : Args) (us : List Value) (vs : List V) (Q : VK) (E : XK), Env0 P w K mg bs A fr s H → BindsTo s fd as (ps.zip us) → Vals vs us → sp vs H Q E → codeAny (model P w) A (.call (.ref f) as) (CR CX fr P w H s Q E) s
theorem run_at {CX : CXT} {P : Program} {w : World} {K : PySem.W.Frag} {mg : Str → Option Value} {bs : Heap} {A : Around} {n : Nat} {f : Addr} {nm qn : Str} {pr : Arguments} {bd : List Stmt} {sc : Scope} {dV kV dc pm cd ct oc : Value} {an od : Option Addr} {sl : Array (Option Value)} {N ps : List Str} {sp : Sp}
    (hf : K.lookup f = some ⟨oc, od, .func (PySem.W.fnOf nm qn pr bd sc dV kV dc pm an cd ct), sl⟩) (hc : PySem.W.codeIn K cd qn = true) (S : FnScope N ps sc) (ln : ∀ vs H Q E, sp vs H Q E → vs.length = ps.length) (hr : Room (n + 1) A)
    (body : ∀ (fr : List Env) (s : Shared) (H : Hp) (vs : List V) (Q : VK) (E : XK), Room n (A.deeper (envOfC qn sc s.heap.objs.size f cd)) → sp vs H Q E → ∃ t, PSs (cxOf CX P w K mg bs N qn sc f cd A fr s H E) bd t ∧ t { nx := fun _ H2 => Q .non H2, rt := Q } (start N vs) H) :
    RunAt P w K mg bs CX A f (PySem.W.fnOf nm qn pr bd sc dV kV dc pm an cd ct) ps sp := by
  intro fr s H as us vs Q E e0 hb rv hs
  have keepB : ∀ b o, bs.get? b = some o → s.heap.get? b = some o := fun b o z => (e0.bs b o z).1
  have inK := e0.mod.kin.keeps keepB
  have nl := e0.mod.nolimit.keeps keepB
  have par : ∀ y ∈ ps.zip us, sc.names.lookup y.1 = some .local ∨ (sc.names.lookup y.1 = some .cell ∧ ((cellsFrom (s.heap.objs.size + 1) sc.names []).lookup y.1).isSome = true) := by
    rintro ⟨y, u⟩ hy
    rcases S.par y (List.of_mem_zip hy).1 with z | z
    · exact Or.inl z
    · exact Or.inr ⟨z, PySem.W.cellsFrom_some _ _ _ (Or.inl z)⟩
  refine codeAny_call_function hr.depth (inK _ _ hf) rfl S.co S.gen rfl (PySem.W.codeRec_of inK hc) (hb _ _ _ _ ?_)
  refine wpAny_newFunctionEnv_cells S.kind par fun env henv s2 x2 => ?_
  subst henv
  refine ⟨nl.keeps x2.toInCall.keep, codeAny_func ?_⟩
  obtain ⟨t, h1, h2⟩ := body fr s H vs Q E (hr.deeper _) hs
  have I0 : Inv (cxOf CX P w K mg bs N qn sc f cd A fr s H E) [] (start N vs) H s2 := inv_start S hr.hd e0 (ln _ _ _ _ hs) rv x2
  refine wpAny_mono (h1.run [] s2 (start N vs) H _ I0 h2) ?_ fun _ _ z => z
  intro fl s3 h3
  have out : ∀ {σ3 : L2.St} {H3 : Hp} {v : V} {u : Value}, Inv (cxOf CX P w K mg bs N qn sc f cd A fr s H E) [] σ3 H3 s3 → RelV v u → Q v H3 → CE fr P w H s Q u s3 := fun {σ3 H3 v u} J r q => ⟨v, H3, J.os, J.bare, J.base, J.hok, r, q⟩
  cases fl with
  | next => exact let ⟨_, _, J, q⟩ := h3; out (v := .non) (u := .none) J rfl q
  | ret u => exact let ⟨_, _, _, J, r, q⟩ := h3; out J r q
  | brk => exact let ⟨_, _, _, q⟩ := h3; q.elim
  | cont => exact let ⟨_, _, _, q⟩ := h3; q.elim
/-- the law's call from the top -/
theorem call_at {P : Program} {w : World} {K : PySem.W.Frag} {mg mb : Str → Option Value} {CX : CXT} {f a : Addr} {fd : FuncData} {x : Str} {sp : Sp} {s : Shared} {us : List Value} {ns : List Int}
    (kin : K.In s.heap) (gl : s.heap.Ns mainGlobals mg) (bl : s.heap.Ns builtinsNs mb) (bb : ∀ y : Str, y ≠ "__name__" → mb y = bootBuiltins y) (nl : s.heap.NoLimit) (gens : s.gens = #[])
    (at_ : s.heap.get? a = some { cls := .type "list", data := .seq us.toArray }) (hin : IntsAre us ns) (len : ns.length ≤ sizeLine)
    (F : ∀ bs : Heap, K.In bs → bs.Ns mainGlobals mg → RunAt P w K mg bs CX callerA f fd [x] sp) (bind : ∀ (s : Shared) (u : Value), BindsTo s fd ⟨[u], []⟩ [(x, u)])
    (hs : ∀ H : Hp, Only H → SqL K H a (ns.map V.int) → sp [.ref a] H (fun v _ => v = .bl true) fun _ _ _ => False) (hx : ∀ H e s', CX [] H s (fun _ _ _ => False) e s' → False) :
    codeAny (model P w) callerA (.call (.ref f) ⟨[.ref a], []⟩) (fun r s' => r = .ok (.ret (.bool true)) ∧ OldK s.heap s'.heap ∧ s'.os = s.os ∧ AllBare s'.gens) s := by
  have rv := vals_ints hin
  -- what may be tracked is the script alone
  have main : ∀ H : Hp, Only H → SqL K H a (ns.map V.int) → HOk P w H s.heap → (∀ b, H b ≠ none → b = a ∧ K.lookup b = none) → codeAny (model P w) callerA (.call (.ref f) ⟨[.ref a], []⟩) (fun r s' => r = .ok (.ret (.bool true)) ∧ OldK s.heap s'.heap ∧ s'.os = s.os ∧ AllBare s'.gens) s := by
    intro H only sq ok only2
    have noDict : ∀ {b : Addr} {o : Obj} {es : Array DictEntry} {n : Nat}, s.heap.get? b = some o → o.data = .dict es n → H b = none := by
      intro b o es n hb hd
      rcases hq : H b with _ | u
      · rfl
      · obtain ⟨rfl, _⟩ := only2 b (by rw [hq]; exact fun z => nomatch z)
        rw [at_] at hb
        cases hb
        exact absurd (show Data.seq us.toArray _ = Data.dict es n from hd) (fun z => nomatch z)
    have nsAt : ∀ {b : Addr} {m : Str → Option Value}, s.heap.Ns b m → (hidT s.heap H).Ns b m := by
      rintro b m ⟨o, es, n, hb, hd, r⟩
      exact ⟨o, es, n, hidT_get hb (noDict hb hd), hd, r⟩
    have kin2 : K.In (hidT s.heap H) := by
      intro b o hb
      refine hidT_get (kin b o hb) ?_
      rcases hq : H b with _ | u
      · rfl
      · have z := (only2 b (by rw [hq]; exact fun z => nomatch z)).2
        rw [z] at hb
        cases hb
    have mod2 : Mod K mg (hidT s.heap H) := ⟨kin2, nsAt gl, ⟨mb, nsAt bl, bb⟩, let ⟨mc, h1, h2⟩ := nl; ⟨mc, nsAt h1, h2⟩⟩
    have env0 : Env0 P w K mg (hidT s.heap H) callerA [] s H := ⟨rfl, mod2, fun _ _ z => of_hidT z, Nat.le_of_eq (hidT_size _ _), trivial, fun b hb => (List.not_mem_nil (show b ∈ ([] : List Addr) from hb)).elim, ok, AllBare.of_eq gens⟩
    have go := F _ kin2 (nsAt gl) [] s H ⟨[.ref a], []⟩ [.ref a] [.ref a] _ _ env0 (bind s (.ref a)) (.cons rfl .nil) (hs H only sq)
    refine codeAny_mono go ?_
    intro r s2 h2
    rcases r with e | fl
    · exact absurd h2 (hx H e s2)
    · cases fl with
      | ret u =>
        obtain ⟨v, H2, os, bare, un, ok2, r2, q2⟩ := h2
        have q2 : v = .bl true := q2
        subst q2
        obtain rfl : u = Value.bool true := r2
        refine ⟨rfl, OldK.of_keep ?_, os, bare⟩
        intro b o hb
        rcases hq : H b with _ | u
        · exact un.keep b o hb hq (fun z => List.not_mem_nil (show b ∈ ([] : List Addr) from z)) (fun z => nomatch z)
        · rcases only b with z | ⟨ob, xs, z⟩
          · rw [hq] at z; cases z
          · obtain ⟨z1, _⟩ := ok b _ z
            obtain ⟨z2, _⟩ := ok2 b _ (un.frzs b ob _ z)
            rw [hb] at z1
            rw [z1]
            exact z2
      | next => exact h2.elim
      | brk => exact h2.elim
      | cont => exact h2.elim
  rcases hl : K.lookup a with _ | o
  · refine main (fun b => if b = a then some (.frz { cls := .type "list", data := .seq us.toArray } (.lst (ns.map V.int))) else none) (fun b => ?_) (Or.inl (Or.inr ⟨_, if_pos rfl⟩)) (fun b u z => ?_) fun b z => ?_
    · by_cases c : b = a
      · exact Or.inr ⟨_, _, if_pos c⟩
      · exact Or.inl (if_neg c)
    · by_cases c : b = a
      · dsimp only at z
        rw [if_pos c] at z
        cases z
        rw [c]
        exact ⟨at_, by rw [List.length_map]; exact len, us, _, rv, at_⟩
      · dsimp only at z
        rw [if_neg c] at z
        cases z
    · by_cases c : b = a
      · exact ⟨c, by rw [c]; exact hl⟩
      · exact absurd (if_neg c) z
  · have e := kin a o hl
    rw [at_] at e
    cases e
    exact main (fun _ => none) (fun _ => Or.inl rfl) (Or.inr ⟨_, us.toArray, _, hl, rfl, rfl, rfl, by rw [List.size_toArray, hin.length]; exact len, by simpa using rv⟩) (fun b u z => nomatch (show (none : Option HO) = some u from z)) fun b z => absurd rfl z
theorem walk_at {l : PySem.W.OpenLaw} {n : Nat} {q : Program} {loose : List Str} {XP : (Str → Option Value) → Heap → Prop} {YP : World → Heap → Prop} {d : DefRec} {K : Params → PySem.W.Frag} {CX : World → CXT} {sp : World → Sp} {x : Str}
    (hn : l.most = some n) (hz : n ≤ sizeLine) (hd : d.params.defaults = []) (hY : ∀ (w : World) (h : Heap), YP w h → (K w.params).In h)
    (F : ∀ (w : World) (mg : Str → Option Value) (f : Addr) (h : Heap), (K w.params).In h → h.Ns mainGlobals mg → mg d.name = some (.ref f) →
      ∃ fd : FuncData, (∀ (s : Shared) (u : Value), BindsTo s fd ⟨[u], []⟩ [(x, u)]) ∧ ∀ bs : Heap, (K w.params).In bs → bs.Ns mainGlobals mg → RunAt l.prog w (K w.params) mg bs (CX w) callerA f fd [x] (sp w))
    (hs : ∀ (w : World) (H : Hp) (a : Addr) (ns : List Int), ns.length ≤ n → Only H → SqL (K w.params) H a (ns.map V.int) → sp w [.ref a] H (fun v _ => v = .bl true) fun _ _ _ => False)
    (hx : ∀ (w : World) (H : Hp) (s : Shared) (e : Value) (s' : Shared), CX w [] H s (fun _ _ _ => False) e s' → False) : PySem.W.WalkO q loose XP YP l.row.toRowW d [] (fun f vs => PySem.call f vs) := by
  refine Att.attach_call hn hd ?_
  intro w s0 s1 mg mb f o pm cd doc a us ns Gr Y ho hdd hcd hmg hobj hints hlen hgens
  obtain ⟨fd, hb, hF⟩ := F w mg f _ (hY w _ Y) Gr.T.g hmg
  exact call_at (hY w _ Y) Gr.T.g Gr.T.b Gr.T.builtins Gr.T.nolimit hgens hobj hints (Nat.le_trans hlen hz) hF hb (fun H h1 h2 => hs w H a ns hlen h1 h2) fun H e s' => hx w H s1 e s'
end TvG

set_option linter.unusedVariables false
namespace Tv
open PySem L2 ClX PyProof.Rows
/-! ### repr of data, where nothing is under way -/
def rRepr (K : PySem.W.Frag) : List V → Hp → VK → Prop := fun xs H Q => ∃ x d, xs = [x] ∧ Dp K H x d ∧ PyData.showable d = true ∧ PyData.hasDict d = false ∧ PyData.depth d ≤ 40 ∧ (PyData.shown d).length ≤ sizeLine ∧ Q (.str (PyData.shown d)) H
theorem cr_repr {X : Cx} (hg : X.A.guards = some []) (hu : X.A.units + 64 < cLine) : CallR X (.builtin "repr") (rRepr X.K) := by
  intro pins s σ H xs us Q I rx h
  obtain ⟨x, d, rfl, hd, h1, h2, h3, h4, q⟩ := h
  cases rx with
  | cons r rr =>
    cases rr
    rename_i u
    obtain ⟨as, rd⟩ := Dp.reads I d x u hd r
    cases hd with
    | non =>
      obtain rfl : u = Value.none := r
      exact P.repr_of_none ⟨.str _, H, I.tok _, ⟨_, rfl⟩, q⟩
    | bl b =>
      obtain rfl : u = Value.bool b := r
      exact P.repr_of_bool ⟨.str _, H, I.tok _, ⟨_, rfl⟩, q⟩
    | int i =>
      obtain ⟨t, rfl⟩ := (show ∃ t, u = Value.int i t from r)
      exact P.repr_of_int (of_decide_eq_true h1) ⟨.str _, H, I.tok _, ⟨_, rfl⟩, q⟩
    | str z =>
      obtain ⟨t, rfl⟩ := (show ∃ t, u = Value.str z t from r)
      exact P.repr_of_str ⟨.str _, H, I.tok _, ⟨_, rfl⟩, q⟩ (hsz := h4)
    | @lst a xs ds hq hall =>
      obtain rfl : u = Value.ref a := r
      exact repr_of_reads' rd h1 (PyData.noDict_hsm h2) hg (by omega) (fun _ _ e => e) (fun h' u tk hk => ⟨.str _, H, I.kept hk, ⟨_, rfl⟩, q⟩) (hsz := h4)
    | @tup a xs ds hq hall =>
      obtain rfl : u = Value.ref a := r
      exact repr_of_reads' rd h1 (PyData.noDict_hsm h2) hg (by omega) (fun _ _ e => e) (fun h' u tk hk => ⟨.str _, H, I.kept hk, ⟨_, rfl⟩, q⟩) (hsz := h4)
section
variable {B : Book} {G : Hp} {X : Cx} {W : XK}
@[irreducible] def reprC (ts : List T) : M T := fun cs => match ts with
  | [t] => match dat cs t with
    | some d => if PyData.showable d = true ∧ PyData.hasDict d = false ∧ PyData.depth d ≤ 40 ∧ (PyData.shown d).length ≤ sizeLine then some (.ok (.str (PyData.shown d)), cs) else none
    | none => none
  | _ => none
theorem c_repr (hK : X.K = B.K) (hg : X.A.guards = some []) (hu : X.A.units + 64 < cLine) : SimC B G X W (.builtin "repr") reprC := by
  intro H F α cs xs ts o cs' r hs hm Q q
  unfold reprC at hm
  split at hm
  · rename_i t
    obtain ⟨v, rfl, rt⟩ := r.one
    cases e : dat cs t with
    | none => simp only [e] at hm; cases hm
    | some d =>
      simp only [e] at hm
      by_cases hc : PyData.showable d = true ∧ PyData.hasDict d = false ∧ PyData.depth d ≤ 40 ∧ (PyData.shown d).length ≤ sizeLine
      · rw [if_pos hc] at hm
        cases hm
        obtain ⟨h1, h2, h3, h4⟩ := hc
        exact ⟨_, cr_repr hg hu, v, d, rfl, by rw [hK]; exact dp_at rt hs e, h1, h2, h3, h4, q.here hs (.str _)⟩
      · rw [if_neg hc] at hm; cases hm
  · cases hm
end
/-! ### the law, run from the top -/
section
variable {P : Program} {w : World} {K : PySem.W.Frag} {mg : Str → Option Value} {base : Heap} {B : Book}
theorem fn_lawG {st : Stmt} {f : Addr} {fd : FuncData} {N : List Str} {k : Nat} {mb : SM} (F : C8.Fun K "law" "law" st f fd) (S : FnScope N ["_law_script"] (C8.fnScope st)) (hBK : B.K = K) (hr : Room (k + 1) callerA)
    (hb : ∀ (cdv : Value) (outer : List PySem.Env) (s : Shared) (H : Hp) (E : XK) (G : Hp), Room k (callerA.deeper (PyProof.Rows.envOfC "law" (C8.fnScope st) s.heap.objs.size f cdv)) → (callerA.deeper (PyProof.Rows.envOfC "law" (C8.fnScope st) s.heap.objs.size f cdv)).guards = some [] →
      SimB B G (cxOf C8.CX0 P w K mg base N "law" (C8.fnScope st) f cdv callerA outer s H E).nox E0 (C8.fnBody st) mb)
    (hm : ∀ ns : List Int, ns.length ≤ 63 → ∃ cs', mDef 1 N.length mb [.ro (ns.map .int)] [] = some (.ok (.bl true), cs')) : TvG.RunAt P w K mg base C8.CX0 callerA f fd ["_law_script"] (spLaw K) := by
  obtain ⟨oc, od, dV, kV, doc, pm, an, cdv, ct, osl, rfl, lk, hcd⟩ := F.ex
  refine TvG.run_at lk hcd S (fun vs H Q E h => ?_) hr fun fr s H vs Q E hr2 h => ?_
  · obtain ⟨a, ns, rfl, _⟩ := h
    rfl
  · obtain ⟨a, ns, rfl, hS, hl, k2⟩ := h
    have gd : (callerA.deeper (PyProof.Rows.envOfC "law" (C8.fnScope st) s.heap.objs.size f cdv)).guards = some [] := rfl
    obtain ⟨cs', h1⟩ := hm ns hl
    have hrun := body_ok (B := B) (np := 1) (N := N) (X := (cxOf C8.CX0 P w K mg base N "law" (C8.fnScope st) f cdv callerA fr s H E).nox) (E := E0) (body := C8.fnBody st) (mb := mb) (n := N.length) (vs := [.ref a]) (H := H) (Q := Q) rfl (fun G => hb cdv fr s H E G hr2 gd) (by
      refine ⟨fun _ => none, H, [], [], _, _, cs', ⟨Same.refl _, rfl, List.nodup_nil, (fun _ h => by cases h), (fun _ _ _ h => by simp at h), (fun _ _ _ h => by simp at h), (fun _ _ h => by cases h), (fun _ _ h => by cases h)⟩, .cons (.ro (by rw [hBK]; exact hS) ?_) .nil, h1, fun v H' F' α' e1 s1 r1 => ?_⟩
      · clear h1 hl hS k2
        induction ns with
        | nil => exact .nil
        | cons n ns ih => exact .cons (.int n) ih
      · cases r1
        exact k2 H')
    obtain ⟨t, ht, q⟩ := hrun
    exact ⟨t, ht.nox, q⟩
end
end Tv

namespace Tv
open PySem L2 Ts
/-! ### try: .. except C as e: x = .. -/
section
variable {B : Book} {G : Hp} {X : Cx} {W : XK}
/-- a value in the suite of a handler, with what the caught error keeps -/
def EGen (B : Book) (G : Hp) (X : Cx) (i c : Nat) (e : Expr) (hm : T → M T) : Prop := ∀ a oe d pn, Zc (.ref (B.at_ c)) d oe → (∃ vs, oe.data = .fields vs) → ∀ σ H F α cs cs' t u, σ[i]? = some (some (V.ref a)) → ExAt B F α H c (some t) d → Hs B G F H α cs →
  hm t cs = some (.ok u, cs') → ∀ Q : VK, (∀ v H' F' α', Ext F α F' α' → Hs B G F' H' α' cs' → Rep B F' α' v u → Q v H') → uE (X.suite a ((a, oe) :: pn)) e σ H Q
def ESim (B : Book) (X : Cx) (i c : Nat) (e : Expr) (hm : T → Option T) : Prop := ∀ a oe d pn, Zc (.ref (B.at_ c)) d oe → (∃ vs, oe.data = .fields vs) → ∀ σ H F α t u, σ[i]? = some (some (V.ref a)) → ExAt B F α H c (some t) d →
  hm t = some u → ∀ Q : VK, (∀ v, Rep B F α v u → Q v H) → uE (X.suite a ((a, oe) :: pn)) e σ H Q
def ASim (B : Book) (X : Cx) (i c : Nat) (es : List Expr) (hm : T → Option (List T)) : Prop := ∀ a oe d pn, Zc (.ref (B.at_ c)) d oe → (∃ vs, oe.data = .fields vs) → ∀ σ H F α t us, σ[i]? = some (some (V.ref a)) → ExAt B F α H c (some t) d →
  hm t = some us → ∀ Q : List V → Hp → Prop, (∀ vs, RepL B F α vs us → Q vs H) → uA (X.suite a ((a, oe) :: pn)) es σ H Q
def TSim (B : Book) (X : Cx) (i c : Nat) (e : Expr) (b : Bool) : Prop := ∀ a oe d pn, Zc (.ref (B.at_ c)) d oe → (∃ vs, oe.data = .fields vs) → ∀ σ H F α t, σ[i]? = some (some (V.ref a)) → ExAt B F α H c (some t) d →
  ∀ Q : Bool → Hp → Prop, Q b H → uT (X.suite a ((a, oe) :: pn)) e σ H Q
def xPure (m : T → Option T) : T → M T := fun t cs => (m t).map fun u => (.ok u, cs)
def xC (u : T) : T → Option T := fun _ => some u
def xPay : T → Option T := some
def xIf {α : Type} (b : Bool) (p q : α) : α := if b = true then p else q
def xNil : T → Option (List T) := fun _ => some []
def xCons (m : T → Option T) (r : T → Option (List T)) : T → Option (List T) := fun t => match m t, r t with
  | some u, some us => some (u :: us)
  | _, _ => none
def xTup (r : T → Option (List T)) : T → M T := fun t cs => match r t with
  | some us => if us.length ≤ sizeLine then some (.ok (.tup us), cs) else none
  | none => none
def xLst (r : T → Option (List T)) : T → M T := fun t cs => match r t with
  | some us => if us.length ≤ sizeLine then some (.ok (.lst us), cs) else none
  | none => none
section
variable {i c : Nat}
theorem eg_of {e : Expr} {m : T → Option T} (h : ESim B X i c e m) : EGen B G X i c e (xPure m) := by
  intro a oe d pn hz hf σ H F α cs cs' t u hi hx hs hm Q q
  unfold xPure at hm
  cases e1 : m t with
  | none => rw [e1] at hm; cases hm
  | some u' =>
    rw [e1] at hm
    cases hm
    exact h a oe d pn hz hf σ H F α t u hi hx e1 Q fun v r => q v H F α (Ext.refl _ _) hs r
theorem es_c {e : Expr} {v : V} {t : T} (h : ∀ Y : Cx, PE Y e (tC v)) (r : ∀ F α, Rep B F α v t) : ESim B X i c e (xC t) := by
  intro a oe d pn hz hf σ H F α t' u hi hx hm Q q
  cases hm
  exact ⟨_, h _, q v (r F α)⟩
theorem es_pay {e0 : Expr} {f : Str} {pos : Pos} (T : XfC X.K (B.at_ c)) (hno : PySem.W.findIn X.K (.ref (B.at_ c)) f = some none) (hnm : B.names c = [f]) (hv : ∀ a oe pn, PE (X.suite a ((a, oe) :: pn)) e0 (tVar i)) (hb : ∀ Y : Cx, attributeBase e0 f Y.env (eval e0 Y.env) = eval e0 Y.env := by exact fun _ => rfl) :
    ESim B X i c (.Attribute e0 f pos) xPay := by
  intro a oe d pn hz hf σ H F α t u hi hx hm Q q
  cases hm
  cases d with
  | none => cases hx
  | some dd =>
    obtain ⟨f', v, e1, e2, r⟩ := hx
    rw [hnm] at e1
    cases e1
    refine ⟨_, pe_xf T hno hz hf (hv a oe pn) (hb _), V.ref a, hi, rfl, rfl, dd, _, v, rfl, e2, ?_, q v r⟩
    simp [List.lookup]
theorem es_ifE {t x y : Expr} {pos : Pos} {b : Bool} {m n : T → Option T} (ht : TSim B X i c t b) (hx : ESim B X i c x m) (hy : ESim B X i c y n) : ESim B X i c (.IfExp t x y pos) (xIf b m n) := by
  intro a oe d pn hz hf σ H F α t' u hi hxa hm Q q
  refine ⟨_, pe_ifExp (pt_u _ t) (pe_u _ x) (pe_u _ y), ?_⟩
  refine ht a oe d pn hz hf σ H F α t' hi hxa _ ?_
  cases b with
  | true => exact hx a oe d pn hz hf σ H F α t' u hi hxa hm Q q
  | false => exact hy a oe d pn hz hf σ H F α t' u hi hxa hm Q q
theorem eg_ifE {t x y : Expr} {pos : Pos} {b : Bool} {m n : T → M T} (ht : TSim B X i c t b) (hx : EGen B G X i c x m) (hy : EGen B G X i c y n) : EGen B G X i c (.IfExp t x y pos) (xIf b m n) := by
  intro a oe d pn hz hf σ H F α cs cs' t' u hi hxa hs hm Q q
  refine ⟨_, pe_ifExp (pt_u _ t) (pe_u _ x) (pe_u _ y), ?_⟩
  refine ht a oe d pn hz hf σ H F α t' hi hxa _ ?_
  cases b with
  | true => exact hx a oe d pn hz hf σ H F α cs cs' t' u hi hxa hs hm Q q
  | false => exact hy a oe d pn hz hf σ H F α cs cs' t' u hi hxa hs hm Q q
theorem as_nil : ASim B X i c [] xNil := by
  intro a oe d pn hz hf σ H F α t u hi hx hm Q q
  cases hm
  exact ⟨_, pa_nil, q [] .nil⟩
theorem as_cons {e : Expr} {es : List Expr} {m : T → Option T} {r : T → Option (List T)} (h : ESim B X i c e m) (hr : ASim B X i c es r) (hs' : ∀ Y : Cx, starEach (e :: es) Y.env = (false, eval e Y.env) :: starEach es Y.env := by exact fun _ => rfl) : ASim B X i c (e :: es) (xCons m r) := by
  intro a oe d pn hz hf σ H F α t us hi hx hm Q q
  unfold xCons at hm
  cases e1 : m t with
  | none => rw [e1] at hm; cases hm
  | some u =>
    cases e2 : r t with
    | none => rw [e1, e2] at hm; cases hm
    | some us' =>
      rw [e1, e2] at hm
      cases hm
      refine ⟨_, pa_cons (pe_u _ e) (pa_u _ es) (hs' _), ?_⟩
      refine h a oe d pn hz hf σ H F α t u hi hx e1 _ fun v rv => ?_
      exact hr a oe d pn hz hf σ H F α t us' hi hx e2 _ fun vs rvs => q _ (.cons rv rvs)
theorem eg_tup {es : List Expr} {x1} {pos : Pos} {r : T → Option (List T)} (h : ASim B X i c es r) : EGen B G X i c (.Tuple es x1 pos) (xTup r) := by
  intro a oe d pn hz hf σ H F α cs cs' t u hi hx hs hm Q q
  unfold xTup at hm
  cases e1 : r t with
  | none => simp only [e1] at hm; cases hm
  | some us =>
    simp only [e1] at hm
    by_cases hl : us.length ≤ sizeLine
    · rw [if_pos hl] at hm
      cases hm
      refine ⟨_, pe_tup (pa_u _ es), ?_⟩
      refine h a oe d pn hz hf σ H F α t us hi hx e1 _ fun vs rv => ?_
      refine ⟨by rw [rv.length]; exact hl, fun p np => ?_⟩
      obtain ⟨s2, x2⟩ := hs.frozen (o := .tup vs) np
      exact q _ _ _ _ x2 s2 (.tup (SqT.of upd_same) (rv.ext x2))
    · rw [if_neg hl] at hm; cases hm
theorem eg_lst {es : List Expr} {pos : Pos} {r : T → Option (List T)} (h : ASim B X i c es r) : EGen B G X i c (.List es pos) (xLst r) := by
  intro a oe d pn hz hf σ H F α cs cs' t u hi hx hs hm Q q
  unfold xLst at hm
  cases e1 : r t with
  | none => simp only [e1] at hm; cases hm
  | some us =>
    simp only [e1] at hm
    by_cases hl : us.length ≤ sizeLine
    · rw [if_pos hl] at hm
      cases hm
      refine ⟨_, pe_lst (pa_u _ es), ?_⟩
      refine h a oe d pn hz hf σ H F α t us hi hx e1 _ fun vs rv => ?_
      refine ⟨by rw [rv.length]; exact hl, fun p np => ?_⟩
      obtain ⟨s2, x2⟩ := hs.frozen (o := .lst vs) np
      exact q _ _ _ _ x2 s2 (.lst upd_same (rv.ext x2))
    · rw [if_neg hl] at hm; cases hm
theorem ts_is {x : Str} {e0 ce : Expr} {p pos : Pos} {cv : V} {cu : Value} {b : Bool} (C : ExcC X.K (B.at_ c)) (hcv : ∀ u, RelV cv u → u = cu) (hk : PySem.W.kitOne X.K (.ref (B.at_ c)) cu = some b)
    (hp : ∀ a oe pn r, CallR (X.suite a ((a, oe) :: pn)) (.builtin "isinstance") r → PE (X.suite a ((a, oe) :: pn)) (.Call (.Name x p) [e0, ce] [] pos) (tCB r (tCons (tVar i) (tCons (tC cv) tNil)))) :
    TSim B X i c (.Call (.Name x p) [e0, ce] [] pos) b := by
  intro a oe d pn hz hf σ H F α t hi hx Q q
  cases d with
  | none => cases hx
  | some dd =>
    obtain ⟨f', v, e1, e2, r⟩ := hx
    refine ⟨_, pt_val (hp a oe pn _ (call_isD C hz hf)), ?_⟩
    exact ⟨V.ref a, hi, cv, cu, b, dd, _, rfl, hcv, rfl, rfl, e2, hk, _, rfl, q⟩
theorem ts_not {e : Expr} {pos : Pos} {b : Bool} (h : TSim B X i c e b) : TSim B X i c (.UnaryOp .Not e pos) (!b) := by
  intro a oe d pn hz hf σ H F α t hi hx Q q
  exact ⟨_, pt_not (pt_u _ e), h a oe d pn hz hf σ H F α t hi hx _ q⟩
theorem ts_and {e g : Expr} {pos : Pos} {b k : Bool} (h : TSim B X i c e b) (h2 : TSim B X i c g k) : TSim B X i c (.BoolOp .And [e, g] pos) (b && k) := by
  intro a oe d pn hz hf σ H F α t hi hx Q q
  refine ⟨_, PW.pt (pw_and (pt_u _ e) (pw_and1 (pt_u _ g))), ?_⟩
  refine h a oe d pn hz hf σ H F α t hi hx _ ?_
  cases b with
  | true => exact h2 a oe d pn hz hf σ H F α t hi hx _ q
  | false => exact q
end
/-- what a handler of class c does: the slots are forgotten, slot j is set -/
def sTry1 (n j c : Nat) (hm : T → M T) (mb : SM) : SM := fun env cs => match mb env cs with
  | some (.ex c' x, cs1) => match x with
    | some t => if c' = c then (match hm t cs1 with
      | some (.ok u, cs2) => some (.nx ((List.replicate n none).set j (some u)), cs2)
      | _ => none) else none
    | none => none
  | r => r
theorem t_try1 {x nm : Str} {c i j n : Nat} {body : List Stmt} {b₀ : Stmt} {np pos pos' : Pos} {hm : T → M T} {mb : SM} {e : Expr}
    (hs : X.stack = X.env :: X.outer) (hf : X.env.frame = some X.env.locals) (hN : X.N.Nodup) (hi : X.N[i]? = some nm) (hln : X.env.kindOf nm = some .local) (hc : Names X x (.ref (B.at_ c))) (hn : X.N.length = n) (hij : i ≠ j) (hjn : j < n)
    (hexm : PySem.W.exmOne X.K (.ref (B.at_ c)) (.ref (B.at_ c)) = some true)
    (hb : ∀ (W2 : WX) pn xe, Takes (X.tr pn xe) W2 → PassesOwn (model X.prog X.w) X.A X.env xe → SimB B G (X.tr pn xe) (fun cls d H => ∀ σ : L2.St, σ.length = n → W2 cls d σ H) body mb)
    (he : EGen B G X i c e hm)
    (hset : ∀ a oe pn te, PE (X.suite a ((a, oe) :: pn)) e te → PSs (X.suite a ((a, oe) :: pn)) [b₀] (tAsg te (gName j))) :
    SimS B G X W (.Try body [.ExceptHandler (some (.Name x np)) (some nm) [b₀] pos'] [] [] pos) (sTry1 n j c hm mb) := by
  intro σ H F α env cs fl cs' he0 hs0 hm0 D q
  refine ⟨_, ps_try_as (i := i) (tb := fun W2 D σ H => ∀ pn xe, Takes (X.tr pn xe) W2 → PassesOwn (model X.prog X.w) X.A X.env xe → uSs (X.tr pn xe) body D σ H)
    (ts := fun a cls d D σ H => ∀ oe pn, Zc cls d oe → (∃ vs, oe.data = .fields vs) → uSs (X.suite a ((a, oe) :: pn)) [b₀] D σ H) (Wout := fun _ _ _ _ => False) hs hf hN hi hln hc takes0
    (fun W2 pn xe tk pw => ⟨fun pins s σ H D I h => (pss_u (X.tr pn xe) body).run pins s σ H D I (h pn xe tk pw)⟩)
    (fun a oe cls d pn hz hfl => ⟨fun pins s σ H D I h => (pss_u (X.suite a ((a, oe) :: pn)) [b₀]).run pins s σ H D I (h oe pn hz hfl)⟩), ?_⟩
  intro pn xe tk pw
  unfold sTry1 at hm0
  cases e1 : mb env cs with
  | none => rw [e1] at hm0; cases hm0
  | some p =>
    obtain ⟨f1, cs1⟩ := p
    rw [e1] at hm0
    refine hb _ pn xe tk pw σ H F α env cs f1 cs1 he0 hs0 e1 _ ?_
    cases f1 with
    | nx env1 => cases hm0; exact q
    | bk env1 => cases hm0; exact q
    | ct env1 => cases hm0; exact q
    | rt t => cases hm0; exact q
    | ex c' x =>
      cases x with
      | none => cases hm0
      | some t =>
        simp only at hm0
        by_cases ec : c' = c
        · subst ec
          rw [if_pos rfl] at hm0
          cases e2 : hm t cs1 with
          | none => rw [e2] at hm0; cases hm0
          | some p2 =>
            obtain ⟨o2, cs2⟩ := p2
            rw [e2] at hm0
            cases o2 with
            | ex _ _ => cases hm0
            | ok u =>
              cases hm0
              intro H' F' α' d e3 s3 r3 σ1 hσ1
              refine ⟨true, hexm, fun _ a na oe pn2 hz hfl => ?_, fun h => nomatch h⟩
              refine ⟨_, hset a oe pn2 _ (pe_u _ e), ?_⟩
              have hil : i < σ1.length := by
                rw [hσ1, ← hn]
                exact (List.getElem?_eq_some_iff.mp hi).1
              refine he a oe d pn2 hz hfl _ H' F' α' cs1 cs' t u (List.getElem?_set_self hil) r3 s3 e2 _ fun v H4 F4 α4 e4 s4 r4 => ?_
              refine q _ H4 F4 α4 (e3.trans e4) s4 ⟨by simp only [List.length_set, List.length_replicate]; exact hσ1, fun k t2 hk => ?_⟩
              by_cases ekj : k = j
              · subst ekj
                have h1 : k < (List.replicate n (none : Option T)).length := by rw [List.length_replicate]; exact hjn
                rw [List.getElem?_set_self h1] at hk
                cases hk
                refine ⟨v, ?_, r4⟩
                rw [List.getElem?_set_ne hij, List.getElem?_set_self (by rw [List.length_set, hσ1]; exact hjn)]
              · rw [List.getElem?_set_ne (Ne.symm ekj), List.getElem?_replicate] at hk
                split at hk <;> cases hk
        · rw [if_neg ec] at hm0; cases hm0
end
end Tv

set_option linter.unusedVariables false
namespace Tv
open PySem L2
section
variable {cs : Cs} {env : Env}
/-- a while loop, by what holds ahead of each test and a number that falls -/
theorem while_inv {mt : Env → M Bool} {body : SM} {Q : Fl → Cs → Prop} (I : Nat → Env → Cs → Prop)
    (step : ∀ n env cs, I n env cs → EV (mt env) cs fun b cs1 => if b = true then SV (body env) cs1 (fun fl cs2 => match fl with | .nx e => ∃ m, m < n ∧ I m e cs2 | .ct e => ∃ m, m < n ∧ I m e cs2 | .bk e => Q (.nx e) cs2 | fl => Q fl cs2) else Q (.nx env) cs1) :
    ∀ (f n : Nat) (env : Env) (cs : Cs), n < f → I n env cs → SV (whileL mt body f env) cs Q
  | 0, n, _, _, h, _ => absurd h (Nat.not_lt_zero n)
  | f + 1, n, env, cs, h, hI => by
    obtain ⟨b, cs1, e1, h1⟩ := step n env cs hI
    cases b with
    | false =>
      rw [if_neg (by simp)] at h1
      exact ⟨_, cs1, by unfold whileL; simp only [e1], h1⟩
    | true =>
      rw [if_pos rfl] at h1
      obtain ⟨fl, cs2, e2, h2⟩ := h1
      have key : ∀ e, (∃ m, m < n ∧ I m e cs2) → (body env cs1 = some (.nx e, cs2) ∨ body env cs1 = some (.ct e, cs2)) → SV (whileL mt body (f + 1) env) cs Q := fun e ⟨m, hm, hI2⟩ he => by
        obtain ⟨fl3, cs3, e3, q⟩ := while_inv I step f m e cs2 (by omega) hI2
        refine ⟨fl3, cs3, ?_, q⟩
        unfold whileL
        rcases he with he | he <;> simp only [e1, he] <;> exact e3
      cases fl with
      | nx e => exact key e h2 (.inl e2)
      | ct e => exact key e h2 (.inr e2)
      | bk e => exact ⟨_, cs2, by unfold whileL; simp only [e1, e2], h2⟩
      | rt t => exact ⟨_, cs2, by unfold whileL; simp only [e1, e2], h2⟩
      | ex c x => exact ⟨_, cs2, by unfold whileL; simp only [e1, e2], h2⟩
theorem ev_rev {m : ME} {Q : T → Cs → Prop} : EV (mRev m env) cs Q ↔ EV (m env) cs fun t cs => ∃ ts, lstOf cs t = some ts ∧ Q (.lst ts.reverse) cs := by
  unfold mRev
  rw [ev_bind]
  refine ev_cong fun t cs => ⟨fun ⟨a, c, e, q⟩ => ?_, fun ⟨ts, e, q⟩ => ⟨_, _, by simp only [e], q⟩⟩
  cases e2 : lstOf cs t with
  | none => simp only [e2] at e; cases e
  | some ts => simp only [e2] at e; cases e; exact ⟨ts, rfl, q⟩
theorem ev_revO {m : ME} {Q : T → Cs → Prop} : EV (mRevO m env) cs Q ↔ EV (m env) cs fun t cs => ∃ ts, lstOf cs t = some ts ∧ Q (.own cs.length) (cs ++ [.lst ts.reverse]) := by
  unfold mRevO
  rw [ev_bind]
  refine ev_cong fun t cs => ⟨fun ⟨a, c, e, q⟩ => ?_, fun ⟨ts, e, q⟩ => ⟨_, _, by simp only [e], q⟩⟩
  cases e2 : lstOf cs t with
  | none => simp only [e2] at e; cases e
  | some ts => simp only [e2] at e; cases e; exact ⟨ts, rfl, q⟩
theorem ev_get {kvs : List (Str × T)} {m : ME} {Q : T → Cs → Prop} : EV (mGet kvs m env) cs Q ↔ EV (m env) cs fun t cs => ∃ x, t = .str x ∧ Q ((kvs.lookup x).getD .non) cs := by
  unfold mGet
  rw [ev_bind]
  refine ev_cong fun t cs => ⟨fun ⟨a, c, e, q⟩ => ?_, fun ⟨ts, e, q⟩ => ⟨_, _, by subst e; rfl, q⟩⟩
  cases t with
  | str x => cases e; exact ⟨x, rfl, q⟩
  | _ => cases e
theorem ev_cm {c : Nat} {m : List T → M T} {a : MA} {Q : T → Cs → Prop} : EV (mCm c m a env) cs Q ↔ EV (a env) cs fun ts cs => CV m (.cls c :: ts) cs Q := by
  unfold mCm
  rw [ev_bind]
  rfl
theorem ev_calS {c nf : Nat} {mi : List T → M T} {tbl : List (Nat × List T)} {a : MA} {Q : T → Cs → Prop} : EV (mCalS c nf mi tbl a env) cs Q ↔ EV (a env) cs fun ts cs => ∃ dts, tbl.lookup ts.length = some dts ∧ CV (mMake c nf mi) (ts ++ dts) cs Q := by
  unfold mCalS
  rw [ev_bind]
  refine ev_cong fun ts cs => ?_
  cases e2 : tbl.lookup ts.length with
  | none => exact ⟨fun ⟨_, _, e, _⟩ => (by cases e), fun ⟨_, e, _⟩ => (by cases e)⟩
  | some dts => exact ⟨fun h => ⟨dts, rfl, h⟩, fun ⟨_, e, h⟩ => (by cases e; exact h)⟩
theorem ev_neg {m : ME} {Q : T → Cs → Prop} : EV (mNeg m env) cs Q ↔ EV (m env) cs fun t cs => ∃ i, t = .int i ∧ Q (.int (-i)) cs := by
  unfold mNeg
  rw [ev_bind]
  refine ev_cong fun t cs => ⟨fun ⟨a, c, e, q⟩ => ?_, fun ⟨i, e, q⟩ => ⟨_, _, by subst e; rfl, q⟩⟩
  cases t with
  | int i => cases e; exact ⟨i, rfl, q⟩
  | _ => cases e
theorem ev_chain {r r' : T → T → M T} {a b c : ME} {Q : T → Cs → Prop} : EV (mChain r r' a b c env) cs Q ↔ EV (a env) cs fun t cs => EV (b env) cs fun u cs => EV (r t u) cs fun z cs => ∃ k, z = .bl k ∧ if k = true then EV (c env) cs fun w cs => EV (r' u w) cs Q else Q (.bl false) cs := by
  unfold mChain
  rw [ev_bind]
  refine ev_cong fun t cs => ?_
  rw [ev_bind]
  refine ev_cong fun u cs => ?_
  rw [ev_bind]
  refine ev_cong fun z cs => ?_
  cases z with
  | bl k =>
    cases k with
    | true => simp only [if_true, T.bl.injEq, exists_eq_left', ev_bind]
    | false => simp only [T.bl.injEq, exists_eq_left', Bool.false_eq_true, if_false]; exact ev_ret
  | _ => exact ⟨fun ⟨_, _, e, _⟩ => (by cases e), fun ⟨_, e, _⟩ => (by cases e)⟩
end
/-! ### operations -/
section
variable {cs : Cs} {Q : T → Cs → Prop}
theorem ev_pop0 {k : Nat} {us : List T} {u : T} (h : cs[k]? = some (.lst (us ++ [u]))) : EV (popM (.own k) []) cs Q ↔ Q u (cs.set k (.lst us)) := ev_some (by
  unfold popM
  simp only [h]
  have e : (us ++ [u])[(us ++ [u]).length - 1]? = some u := by
    rw [List.length_append, List.length_singleton, Nat.add_sub_cancel, List.getElem?_append_right (Nat.le_refl _), Nat.sub_self]
    rfl
  simp only [e, List.dropLast_concat])
theorem ev_popI {k : Nat} {us : List T} {i : Int} {u : T} (h : cs[k]? = some (.lst us)) (h0 : 0 ≤ i) (h1 : i < us.length) (h2 : us.length < 1000) (h3 : us[i.toNat]? = some u) : EV (popM (.own k) [.int i]) cs Q ↔ Q u (cs.set k (.lst (us.eraseIdx i.toNat))) := ev_some (by
  unfold popM
  simp only [h]
  have e : seqIndex? i us.length = some i.toNat := by
    have h4 := Ts.seqIndex_nat (j := i.toNat) (n := us.length) (by omega)
    rwa [Int.toNat_of_nonneg h0] at h4
  rw [if_pos (by omega), e]
  simp only [h3])
def flatOk : T → Bool
  | .non => true
  | .bl _ => true
  | .int _ => true
  | .str x => PyData.strOk x
  | _ => false
theorem flat_dat : ∀ {ts : List T}, ts.all flatOk = true → ∃ ds, datL0 ts = some ds ∧ PyData.canLayAll0 ds = true ∧ PyData.depthAll ds = 0 ∧ ds.length = ts.length
  | [], _ => ⟨[], rfl, rfl, rfl, rfl⟩
  | t :: ts, h => by
    obtain ⟨h1, h2⟩ := Bool.and_eq_true_iff.mp (show (flatOk t && ts.all flatOk) = true from h)
    obtain ⟨ds, e1, e2, e3, e4⟩ := flat_dat h2
    have key : ∃ d, dat0 t = some d ∧ PyData.canLay0 d = true ∧ PyData.depth d = 0 := by
      cases t with
      | str x => exact ⟨_, rfl, h1, rfl⟩
      | non => exact ⟨_, rfl, rfl, rfl⟩
      | bl b => exact ⟨_, rfl, rfl, rfl⟩
      | int i => exact ⟨_, rfl, rfl, rfl⟩
      | _ => cases h1
    obtain ⟨d, g1, g2, g3⟩ := key
    refine ⟨d :: ds, by unfold datL0; simp only [g1, e1], by rw [PyData.canLayAll0, g2, e2]; rfl, ?_, by rw [List.length_cons, List.length_cons, e4]⟩
    rw [PyData.depthAll, g3, e3]
    rfl
theorem shaped_list {ds : List PyData} (h : PyData.canLayAll0 ds = true) (h2 : PyData.depthAll ds ≤ 60) : SeqAt.shaped (.list ds) = true := by
  unfold SeqAt.shaped
  rw [PyData.canLay0, h, Bool.true_and]
  refine decide_eq_true ?_
  rw [PyData.depth]
  omega
theorem eqvAll_nil (ds : List PyData) : PyData.eqv (.list ds) (.list []) = ds.isEmpty := by
  cases ds <;> rfl
theorem ev_neNil {t : T} {ts : List T} (h : (∃ k, t = .own k ∧ cs[k]? = some (.lst ts)) ∨ t = .lst ts ∨ t = .ro ts) (hf : ts.all flatOk = true) : EV (neT t (.lst [])) cs Q ↔ Q (.bl (!ts.isEmpty)) cs := ev_some (by
  obtain ⟨ds, e1, e2, e3, e4⟩ := flat_dat hf
  have hd : dat cs t = some (.list ds) := by
    rcases h with ⟨k, rfl, h⟩ | rfl | rfl
    · unfold dat; simp only [h, e1]; rfl
    · show dat0 _ = _; unfold dat0; rw [e1]; rfl
    · show dat0 _ = _; unfold dat0; rw [e1]; rfl
  have hn : dat cs (.lst []) = some (.list []) := rfl
  have ht : ∀ a, t ≠ .str a := by
    rintro a rfl
    rcases h with ⟨k, h, _⟩ | h | h <;> cases h
  unfold neT
  rw [eqvT_D ht]
  unfold eqvD
  simp only [hd, hn, shaped_list e2 (by omega), Bool.true_and]
  rw [show SeqAt.shaped (.list []) = true from by decide +kernel]
  simp only [if_true, eqvAll_nil]
  have : ds.isEmpty = ts.isEmpty := by
    cases ds <;> cases ts <;> simp_all
  rw [this]
  rfl)
theorem ev_ixN {t : T} {ts : List T} {n : Nat} {u : T} (hs : ∀ z, t ≠ .str z) (h : seqOf cs t = some ts) (h2 : ts[n]? = some u) : EV (ixT t (.int (n : Int))) cs Q ↔ Q u cs := by
  refine ev_ixSeq hs h ?_
  unfold atI ixN
  have := (List.getElem?_eq_some_iff.mp h2).1
  rw [if_pos (by omega), if_pos (by omega)]
  exact h2
end
/-! ### cells -/
theorem get_app {cs l : Cs} {k : Nat} {c : Cell} (h : cs[k]? = some c) : (cs ++ l)[k]? = some c := by
  rw [List.getElem?_append_left (List.getElem?_eq_some_iff.mp h).1]
  exact h
theorem get_last {cs : Cs} {c : Cell} : (cs ++ [c])[cs.length]? = some c := by
  rw [List.getElem?_append_right (Nat.le_refl _), Nat.sub_self]
  rfl
theorem get_lt {cs : Cs} {k : Nat} {c : Cell} (h : cs[k]? = some c) : k < cs.length := (List.getElem?_eq_some_iff.mp h).1
theorem get_set {cs : Cs} {k : Nat} {c d : Cell} (h : cs[k]? = some c) : (cs.set k d)[k]? = some d := List.getElem?_set_self (get_lt h)
theorem get_ne {cs : Cs} {j k : Nat} {c d : Cell} (h : cs[k]? = some c) (n : j ≠ k) : (cs.set j d)[k]? = some c := by rw [List.getElem?_set_ne n]; exact h
theorem seq_own {cs : Cs} {k : Nat} {us : List T} (h : cs[k]? = some (.lst us)) : seqOf cs (.own k) = some us := by
  show lstOf cs (.own k) = _
  unfold lstOf
  simp only [h]
/-- what stood stands, but for D and L -/
structure Kp (D L : Nat) (cs cs' : Cs) : Prop where
  kp : ∀ k c, cs[k]? = some c → k ≠ D → k ≠ L → cs'[k]? = some c
theorem Kp.refl (D L : Nat) (cs : Cs) : Kp D L cs cs := ⟨fun _ _ h _ _ => h⟩
theorem Kp.trans {D L : Nat} {a b c : Cs} (h : Kp D L a b) (g : Kp D L b c) : Kp D L a c := ⟨fun k x e n1 n2 => g.kp k x (h.kp k x e n1 n2) n1 n2⟩
theorem Kp.app {D L : Nat} {a b l : Cs} (h : Kp D L a b) : Kp D L a (b ++ l) := ⟨fun k x e n1 n2 => get_app (h.kp k x e n1 n2)⟩
theorem Kp.setD {D L : Nat} {a b : Cs} {c : Cell} (h : Kp D L a b) : Kp D L a (b.set D c) := ⟨fun k x e n1 n2 => get_ne (h.kp k x e n1 n2) (Ne.symm n1)⟩
theorem Kp.setL {D L : Nat} {a b : Cs} {c : Cell} (h : Kp D L a b) : Kp D L a (b.set L c) := ⟨fun k x e n1 n2 => get_ne (h.kp k x e n1 n2) (Ne.symm n2)⟩
/-- the drawing deal: D holds the cells' list L and the mixed number -/
structure Deal (D L : Nat) (cs : Cs) : Prop where
  ex : ∃ (xs : List Int) (m : Int), cs[D]? = some (.lst [.own L, .int m]) ∧ cs[L]? = some (.lst (xs.map .int)) ∧ xs.length ≤ 63 ∧ (∀ x ∈ xs, 0 ≤ x) ∧ 0 ≤ m ∧ m < 2147483647
theorem Deal.ne {D L : Nat} {cs : Cs} (h : Deal D L cs) : D ≠ L := by
  obtain ⟨xs, m, h1, h2, _⟩ := h.ex
  rintro rfl
  rw [h1] at h2
  have := Option.some.inj h2
  cases xs with
  | nil => cases this
  | cons x xs => simp at this
theorem Deal.app {D L : Nat} {cs l : Cs} (h : Deal D L cs) : Deal D L (cs ++ l) := let ⟨xs, m, h1, h2, r⟩ := h.ex; ⟨⟨xs, m, get_app h1, get_app h2, r⟩⟩
theorem Deal.set {D L k : Nat} {cs : Cs} {c : Cell} (h : Deal D L cs) (n1 : k ≠ D) (n2 : k ≠ L) : Deal D L (cs.set k c) := let ⟨xs, m, h1, h2, r⟩ := h.ex; ⟨⟨xs, m, get_ne h1 n1, get_ne h2 n2, r⟩⟩
theorem Deal.ltD {D L : Nat} {cs : Cs} (h : Deal D L cs) : D < cs.length := let ⟨_, _, h1, _⟩ := h.ex; get_lt h1
theorem Deal.ltL {D L : Nat} {cs : Cs} (h : Deal D L cs) : L < cs.length := let ⟨_, _, _, h1, _⟩ := h.ex; get_lt h1
/-- a draw has gone -/
structure Wnt (D L : Nat) (cs cs' : Cs) : Prop where
  d : Deal D L cs'
  k : Kp D L cs cs'
theorem Wnt.trans {D L : Nat} {a b c : Cs} (h : Wnt D L a b) (g : Wnt D L b c) : Wnt D L a c := ⟨g.d, h.k.trans g.k⟩
theorem Wnt.app {D L : Nat} {a b l : Cs} (h : Wnt D L a b) : Wnt D L a (b ++ l) := ⟨h.d.app, h.k.app⟩
theorem Wnt.refl {D L : Nat} {a : Cs} (h : Deal D L a) : Wnt D L a a := ⟨h, Kp.refl _ _ _⟩
theorem ints_flat (xs : List Int) : (xs.map T.int).all flatOk = true := by
  induction xs with
  | nil => rfl
  | cons x xs ih => rw [List.map_cons, List.all_cons, ih]; rfl
/-! ### what is known of written things -/
section
variable {cs : Cs} {Q : T → Cs → Prop}
theorem ix_tup' {us : List T} {i : Int} : EV (ixT (.tup us) (.int i)) cs Q ↔ ∃ u, atI us i = some u ∧ Q u cs :=
  ⟨fun ⟨a, c, e, q⟩ => by
    have e : ((atI us i).map fun u => (Out.ok u, cs)) = some (.ok a, c) := e
    cases h : atI us i with
    | none => rw [h] at e; cases e
    | some u => rw [h] at e; cases e; exact ⟨_, rfl, q⟩, fun ⟨u, h, q⟩ => (ev_ixTup h).mpr q⟩
theorem ix_lst' {us : List T} {i : Int} : EV (ixT (.lst us) (.int i)) cs Q ↔ ∃ u, atI us i = some u ∧ Q u cs :=
  ⟨fun ⟨a, c, e, q⟩ => by
    have e : ((atI us i).map fun u => (Out.ok u, cs)) = some (.ok a, c) := e
    cases h : atI us i with
    | none => rw [h] at e; cases e
    | some u => rw [h] at e; cases e; exact ⟨_, rfl, q⟩, fun ⟨u, h, q⟩ => (ev_ixLst h).mpr q⟩
theorem len_lst' {us : List T} : EV (lenC [.lst us]) cs Q ↔ Q (.int us.length) cs := ev_lenC (fun z => by intro e; cases e) rfl
theorem len_tup' {us : List T} : EV (lenC [.tup us]) cs Q ↔ Q (.int us.length) cs := ev_lenC (fun z => by intro e; cases e) rfl
theorem len_ro' {us : List T} : EV (lenC [.ro us]) cs Q ↔ Q (.int us.length) cs := ev_lenC (fun z => by intro e; cases e) rfl
theorem str_int' {i : Int} : EV (strC [.int i]) cs Q ↔ i.natAbs.log2 < 1920 ∧ Q (.str (toString i)) cs :=
  ⟨fun ⟨a, c, e, q⟩ => by
    have e : (if i.natAbs.log2 < 1920 then some (Out.ok (T.str (toString i)), cs) else none) = some (.ok a, c) := e
    have h := if_some' e
    rw [if_pos h] at e; cases e; exact ⟨h, q⟩, fun ⟨h, q⟩ => (ev_strI h).mpr q⟩
theorem at0 {a : T} {l : List T} : atI (a :: l) 0 = some a := by
  unfold atI ixN
  rw [if_pos (by omega), if_pos (by rw [List.length_cons]; omega)]
  rfl
theorem at1 {a b : T} {l : List T} : atI (a :: b :: l) 1 = some b := by
  unfold atI ixN
  rw [if_pos (by omega), if_pos (by simp only [List.length_cons]; omega)]
  rfl
theorem at2 {a b c : T} {l : List T} : atI (a :: b :: c :: l) 2 = some c := by
  unfold atI ixN
  rw [if_pos (by omega), if_pos (by simp only [List.length_cons]; omega)]
  rfl
theorem at3 {a b c d : T} {l : List T} : atI (a :: b :: c :: d :: l) 3 = some d := by
  unfold atI ixN
  rw [if_pos (by omega), if_pos (by simp only [List.length_cons]; omega)]
  rfl
theorem at4 {a b c d e : T} {l : List T} : atI (a :: b :: c :: d :: e :: l) 4 = some e := by
  unfold atI ixN
  rw [if_pos (by omega), if_pos (by simp only [List.length_cons]; omega)]
  rfl
theorem objOf_obj {c : Nat} {fs : List T} : objOf cs (.obj c fs) = some (c, fs) := rfl
theorem bt_str {x : Str} : isBT cs .str (.str x) = true := rfl
theorem lk_hit {α : Type} {k : Nat} {b : α} {l : List (Nat × α)} : List.lookup k ((k, b) :: l) = some b := by simp
theorem lk_miss {α : Type} {k a : Nat} {b : α} {l : List (Nat × α)} (h : (k == a) = false) : List.lookup k ((a, b) :: l) = List.lookup k l := by rw [List.lookup_cons, h]
theorem tb_hit {c : Nat} {m : List T → M T} {l : TbO} : TbO.at_ ((c, m) :: l) c = some m := by unfold TbO.at_; simp
theorem clsT_obj {c : Nat} {fs : List T} : clsT cs (.obj c fs) = some c := rfl
end
end Tv
local macro_rules | `(tactic| fail "ev2") => `(tactic| simp (config := { failIfUnchanged := true }) only [Tv.ev_rev, Tv.ev_revO, Tv.ev_get, Tv.ev_cm, Tv.ev_calS, Tv.ev_neg, Tv.ev_chain])
local macro_rules | `(tactic| fail "ev3") => `(tactic| simp (config := { failIfUnchanged := true }) only [Tv.ix_tup', Tv.ix_lst', Tv.len_lst', Tv.len_tup', Tv.len_ro', Tv.str_int', Tv.ev_strS, Tv.at0, Tv.at1, Tv.at2, Tv.at3, Tv.at4, Tv.objOf_obj, Tv.bt_str, Tv.lk_hit, Tv.lk_miss, Nat.reduceBEq, Option.some.injEq, exists_eq_left', exists_eq_left, Prod.mk.injEq, exists_eq', exists_eq, and_assoc, List.getElem?_cons_zero, List.getElem?_cons_succ, exists_and_left, exists_and_right, true_and, and_true, Tv.T.str.injEq, Tv.T.int.injEq])
local macro_rules | `(tactic| fail "sx") => `(tactic| repeat (first | fail "sv1" | fail "ev1" | fail "ev2" | fail "ev3"))
local macro_rules | `(tactic| fail "sw") => `(tactic| repeat (first | fail "sv1" | fail "ev1" | fail "ev2"))

set_option linter.unusedVariables false
namespace Tv
open PySem L2 TL
/-! ### words joined and split by one sign -/
theorem cut_at {c : Nat} : ∀ {a b r s : List Nat}, c ∉ a → c ∉ b → a ++ c :: r = b ++ c :: s → a = b ∧ r = s
  | [], [], r, s, _, _, h => ⟨rfl, (List.cons.inj h).2⟩
  | [], y :: b, r, s, _, hb, h => absurd ((List.cons.inj h).1 ▸ List.mem_cons_self) hb
  | x :: a, [], r, s, ha, _, h => absurd ((List.cons.inj h).1 ▸ List.mem_cons_self) ha
  | x :: a, y :: b, r, s, ha, hb, h => by
    obtain ⟨e1, e2⟩ := List.cons.inj h
    obtain ⟨e3, e4⟩ := cut_at (a := a) (b := b) (fun z => ha (List.mem_cons_of_mem _ z)) (fun z => hb (List.mem_cons_of_mem _ z)) e2
    exact ⟨by rw [e1, e3], e4⟩
def free (c : Nat) (x : Str) : Prop := c ∉ x.cps.toList
theorem cps_app (a b : Str) : (a ++ b).cps.toList = a.cps.toList ++ b.cps.toList := by
  show (a.cps ++ b.cps).toList = _
  rw [Array.toList_append]
theorem str_ext {a b : Str} (h : a.cps.toList = b.cps.toList) : a = b := by
  obtain ⟨a⟩ := a
  obtain ⟨b⟩ := b
  have h2 : a = b := Array.toList_inj.mp h
  rw [h2]
theorem join_two (y p q : Str) (r : List Str) : Str.join y (p :: q :: r) = p ++ y ++ Str.join y (q :: r) := rfl
theorem join_inj {c : Nat} : ∀ {A B : List Str}, A ≠ [] → B ≠ [] → (∀ x ∈ A, free c x) → (∀ x ∈ B, free c x) → Str.join ⟨#[c]⟩ A = Str.join ⟨#[c]⟩ B → A = B
  | [], _, h, _, _, _, _ => absurd rfl h
  | _ :: _, [], _, h, _, _, _ => absurd rfl h
  | [a], [b], _, _, _, _, h => by rw [show a = b from h]
  | [a], b :: b2 :: bs, _, _, ha, _, h => by
    have e : a = b ++ ⟨#[c]⟩ ++ Str.join ⟨#[c]⟩ (b2 :: bs) := h
    refine absurd ?_ (ha a List.mem_cons_self)
    rw [e, cps_app, cps_app]
    simp
  | a :: a2 :: as, [b], _, _, _, hb, h => by
    have e : a ++ ⟨#[c]⟩ ++ Str.join ⟨#[c]⟩ (a2 :: as) = b := h
    refine absurd ?_ (hb b List.mem_cons_self)
    rw [← e, cps_app, cps_app]
    simp
  | a :: a2 :: as, b :: b2 :: bs, _, _, ha, hb, h => by
    have e : a ++ ⟨#[c]⟩ ++ Str.join ⟨#[c]⟩ (a2 :: as) = b ++ ⟨#[c]⟩ ++ Str.join ⟨#[c]⟩ (b2 :: bs) := h
    have e2 := congrArg (fun x : Str => x.cps.toList) e
    simp only [cps_app, List.append_assoc] at e2
    obtain ⟨e3, e4⟩ := cut_at (ha a List.mem_cons_self) (hb b List.mem_cons_self) (show a.cps.toList ++ c :: (Str.join ⟨#[c]⟩ (a2 :: as)).cps.toList = b.cps.toList ++ c :: (Str.join ⟨#[c]⟩ (b2 :: bs)).cps.toList from e2)
    rw [str_ext e3, join_inj (A := a2 :: as) (B := b2 :: bs) (by simp) (by simp) (fun x hx => ha x (List.mem_cons_of_mem _ hx)) (fun x hx => hb x (List.mem_cons_of_mem _ hx)) (str_ext e4)]
theorem split_ne (x : Str) (c : Nat) (hx : Txt.split x ⟨#[c]⟩ = []) : False := by
  unfold Txt.split at hx
  split at hx
  · cases hx
  · split at hx
    · cases hx
    · obtain ⟨p, r, e⟩ := StrLaws.partsFrom_ne x (⟨#[c]⟩ : Str).length 0 (Builtin.Str.occurrences x ⟨#[c]⟩ 0 x.length (x.length + 1))
      rw [StrLaws.partsBetween_eq, e] at hx
      cases hx
theorem split_join {c : Nat} {ws : List Str} (h0 : ws ≠ []) (h : ∀ x ∈ ws, free c x) : Txt.split (Txt.join ⟨#[c]⟩ ws) ⟨#[c]⟩ = ws := by
  rw [TL.join_eq]
  exact join_inj (fun e => split_ne _ c e) h0 (StrLaws.split_free _ c) h (StrLaws.join_split _ _)
/-! ### numbers as words -/
def num (i : Int) : Str := toString i
theorem num_cps {n : Nat} : (num (n : Int)).cps.toList = (Nat.toDigits 10 n).map Char.toNat := PySem.W.KIN.signs_num n
theorem num_L {n : Nat} : (num (n : Int)).cps.toList = numL n := num_cps
theorem num_digits {n : Nat} : ∀ c ∈ (num (n : Int)).cps.toList, 48 ≤ c ∧ c ≤ 57 := fun c hc => by
  rw [num_L] at hc
  exact numL_digits n c hc
theorem num_len' (x : Str) : x.length = x.cps.toList.length := by
  show x.cps.size = _
  rw [Array.length_toList]
theorem num_length {n k : Nat} (hk : 0 < k) (h : n < 10 ^ k) : (num (n : Int)).length ≤ k ∧ 1 ≤ (num (n : Int)).length := by
  rw [num_len', num_L]
  refine ⟨numL_len hk h, ?_⟩
  have := numL_ne n
  cases e : numL n with
  | nil => exact absurd e this
  | cons => simp
theorem num_int {n k : Nat} (hk : 0 < k) (hk2 : k ≤ 4300) (h : n < 10 ^ k) : PySem.intText? (num (n : Int)) = some (n : Int) := by
  rw [intText_digits (num_digits (n := n)) (by rw [num_L]; exact numL_ne n) (Nat.le_trans (num_length hk h).1 hk2), num_L, numL_val]
theorem num_inj {m n : Nat} (h : num (m : Int) = num (n : Int)) : m = n := numL_inj (by rw [← num_L, ← num_L, h])
theorem val_lt : ∀ (cs : List Nat), (∀ c ∈ cs, 48 ≤ c ∧ c ≤ 57) → NumText.digitsVal cs < 10 ^ cs.length
  | cs, h => by
    have key : ∀ (n : Nat) (cs : List Nat), cs.length = n → (∀ c ∈ cs, 48 ≤ c ∧ c ≤ 57) → NumText.digitsVal cs < 10 ^ n := by
      intro n
      induction n with
      | zero => intro cs e _; rw [List.length_eq_zero_iff.mp e]; decide
      | succ n ih =>
        intro cs e h
        have hne : cs ≠ [] := by rintro rfl; cases e
        have e2 := (List.dropLast_concat_getLast hne).symm
        rw [e2] at h ⊢
        rw [NumText.digitsVal_snoc, Nat.pow_succ]
        have := ih cs.dropLast (by rw [List.length_dropLast, e]; rfl) fun d hd => h d (List.mem_append_left _ hd)
        have := h (cs.getLast hne) (List.mem_append_right _ (List.mem_singleton.mpr rfl))
        omega
    exact key _ cs rfl h
/-- the first sign is no 0 -/
theorem num_first {n : Nat} (h : 0 < n) : ∃ c r, (num (n : Int)).cps.toList = c :: r ∧ 49 ≤ c ∧ c ≤ 57 := by
  have hd := num_digits (n := n)
  have hv : NumText.digitsVal (num (n : Int)).cps.toList = n := by rw [num_L, numL_val]
  cases e : (num (n : Int)).cps.toList with
  | nil => rw [num_L] at e; exact absurd e (numL_ne n)
  | cons c r =>
    rw [e] at hd hv
    have hc := hd c List.mem_cons_self
    refine ⟨c, r, rfl, ?_, hc.2⟩
    rcases Nat.lt_or_ge 48 c with h1 | h1
    · exact h1
    · have h48 : c = 48 := by omega
      subst h48
      rw [NumText.digitsVal_zero] at hv
      have hl := val_lt r fun d hd' => hd d (List.mem_cons_of_mem _ hd')
      rw [hv] at hl
      have hr : 0 < r.length := by
        cases r with
        | nil => rw [← hv] at h; exact absurd h (by decide)
        | cons => simp
      have := (num_length hr hl).1
      rw [num_len', e, List.length_cons] at this
      omega
/-! ### signs -/
def letters : Str := "abcdefghijklmnopqrstuvwxyz"
def tens : Str := "0123456789"
theorem letters_mem (c : Nat) : decide (c ∈ letters.cps.toList) = decide (97 ≤ c ∧ c ≤ 122) := by
  have e : letters.cps.toList = List.range' 97 26 := by decide +kernel
  rw [e]
  refine decide_eq_decide.mpr ?_
  rw [List.mem_range'_1]
  omega
theorem tens_mem (c : Nat) : decide (c ∈ tens.cps.toList) = decide (48 ≤ c ∧ c ≤ 57) := by
  have e : tens.cps.toList = List.range' 48 10 := by decide +kernel
  rw [e]
  refine decide_eq_decide.mpr ?_
  rw [List.mem_range'_1]
  omega
/-- what a sign is asked -/
def signT (z : Str) : T → Option T
  | .str y => (sign? y).map fun c => .bl (decide (c ∈ z.cps.toList))
  | _ => none
theorem signs_map (z : Str) (cs : List Nat) : (cs.map fun c => T.str ⟨#[c]⟩).filterMap (signT z) = (cs.map fun c => decide (c ∈ z.cps.toList)).map T.bl := by
  induction cs with
  | nil => rfl
  | cons c cs ih =>
    show T.bl _ :: (cs.map fun c => T.str ⟨#[c]⟩).filterMap (signT z) = _
    rw [ih]
    rfl
theorem bls_map (bs : List Bool) : blsT (bs.map T.bl) = some bs := by
  induction bs with
  | nil => rfl
  | cons b bs ih =>
    show (match some b, blsT (bs.map T.bl) with | some b, some bs => some (b :: bs) | _, _ => none) = _
    rw [ih]
theorem ev_all {bs : List Bool} {cs : Cs} {Q : T → Cs → Prop} : EV (allC [.lst (bs.map T.bl)]) cs Q ↔ Q (.bl (bs.all id)) cs := ev_some (by
  show (match lstOf cs (.lst (bs.map T.bl)) with | some us => (blsT us).map fun (bs : List Bool) => (Out.ok (T.bl (bs.all id)), cs) | none => none) = _
  show ((blsT (bs.map T.bl)).map fun (bs : List Bool) => (Out.ok (T.bl (bs.all id)), cs)) = _
  rw [bls_map]
  rfl)
theorem ev_any {bs : List Bool} {cs : Cs} {Q : T → Cs → Prop} : EV (anyC [.lst (bs.map T.bl)]) cs Q ↔ Q (.bl (bs.any id)) cs := ev_some (by
  show ((blsT (bs.map T.bl)).map fun (bs : List Bool) => (Out.ok (T.bl (bs.any id)), cs)) = _
  rw [bls_map]
  rfl)
theorem all_id {α : Type} (xs : List α) (f : α → Bool) : (xs.map f).all id = xs.all f := by
  rw [List.all_map]
  rfl
theorem ev_inSign {c : Nat} {z : Str} {cs : Cs} {Q : T → Cs → Prop} : EV (inT (.str ⟨#[c]⟩) (.str z)) cs Q ↔ Q (.bl (decide (c ∈ z.cps.toList))) cs := ev_some rfl
theorem ev_inStrs {x : Str} {us : List Str} {cs : Cs} {Q : T → Cs → Prop} : EV (inT (.str x) (.tup (us.map T.str))) cs Q ↔ Q (.bl (decide (x ∈ us))) cs := ev_some (by
  have h1 : (us.map T.str).all flatT = true := by
    induction us with
    | nil => rfl
    | cons u us ih => rw [List.map_cons, List.all_cons, ih]; rfl
  have h2 : inV (.str x) (us.map V.str) = decide (x ∈ us) := by
    induction us with
    | nil => rfl
    | cons u us ih =>
      have ih := ih (by
        rw [List.map_cons, List.all_cons] at h1
        exact (Bool.and_eq_true_iff.mp h1).2)
      rw [List.map_cons]
      unfold inV at ih ⊢
      rw [List.any_cons, ih]
      by_cases e : x = u
      · subst e
        rw [show eqV (V.str x) (V.str x) = true from by simp [eqV], decide_eq_true List.mem_cons_self]
        rfl
      · rw [show eqV (V.str u) (V.str x) = false from by simp [eqV, Ne.symm e], Bool.false_or]
        exact decide_eq_decide.mpr ⟨fun h => List.mem_cons_of_mem _ h, fun h => (List.mem_cons.mp h).resolve_left e⟩
  unfold inT inB
  show ((if (flatT (.str x) && (us.map T.str).all flatT) = true then some (inV (atomV (.str x)) ((us.map T.str).map atomV)) else none).map fun b => (Out.ok (T.bl b), cs)) = _
  rw [h1, List.map_map, show (atomV ∘ T.str) = V.str from rfl, show atomV (.str x) = V.str x from rfl, h2]
  rfl)
theorem ev_eqI0 {i : Int} {cs : Cs} {Q : T → Cs → Prop} : EV (neT (.int i) .non) cs Q ↔ Q (.bl true) cs := ev_some (by unfold neT; rfl)
theorem strOk_lt {x : Str} {n : Nat} (hn : n ≤ 1114112) (h : ∀ c ∈ x.cps.toList, c < n) : PyData.strOk x = true := by
  show Array.all _ _ = true
  rw [Array.all_eq_true_iff_forall_mem]
  intro c hc
  have := h c (by simpa using hc)
  exact decide_eq_true (by omega)
/-- a kind's or an occasion's name -/
def nameB (x : Str) : Bool := !decide (x ∈ (["any", "none", "anew", "lift", "term"] : List Str)) && (decide (1 ≤ x.length) && decide (x.length ≤ 4) && x.cps.toList.all fun c => decide (97 ≤ c ∧ c ≤ 122))
def digB (x : Str) : Bool := (decide (1 ≤ x.length) && decide (x.length ≤ 19) && x.cps.toList.all fun c => decide (48 ≤ c ∧ c ≤ 57)) && (x == "0" || x.cps.toList.head? != some 48)
theorem nameB_facts {x : Str} (h : nameB x = true) : x.length ≤ 4 ∧ PyData.strOk x = true ∧ (∀ c ∈ x.cps.toList, 97 ≤ c ∧ c ≤ 122) ∧ 1 ≤ x.length := by
  unfold nameB at h
  simp only [Bool.and_eq_true, decide_eq_true_eq, List.all_eq_true] at h
  obtain ⟨_, ⟨h1, h2⟩, h3⟩ := h
  exact ⟨h2, strOk_lt (n := 123) (by decide) fun c hc => by have := h3 c hc; omega, h3, h1⟩
theorem digB_facts {x : Str} (h : digB x = true) : x.length ≤ 19 ∧ 1 ≤ x.length ∧ (∀ c ∈ x.cps.toList, 48 ≤ c ∧ c ≤ 57) ∧ PyData.strOk x = true := by
  unfold digB at h
  simp only [Bool.and_eq_true, decide_eq_true_eq, List.all_eq_true] at h
  obtain ⟨⟨⟨h1, h2⟩, h3⟩, _⟩ := h
  exact ⟨h2, h1, h3, strOk_lt (n := 58) (by decide) fun c hc => by have := h3 c hc; omega⟩
theorem num_digB {i : Int} (h0 : 0 ≤ i) (h1 : i < 10 ^ 19) : digB (num i) = true := by
  obtain ⟨n, rfl⟩ : ∃ n : Nat, i = (n : Int) := ⟨i.toNat, by omega⟩
  have h19 : (10 : Nat) ^ 19 = 10000000000000000000 := by decide
  have h19' : (10 : Int) ^ 19 = 10000000000000000000 := by decide
  obtain ⟨l1, l2⟩ := num_length (n := n) (k := 19) (by decide) (by omega)
  unfold digB
  rw [decide_eq_true l2, decide_eq_true l1, show (num (n : Int)).cps.toList.all (fun c => decide (48 ≤ c ∧ c ≤ 57)) = true from List.all_eq_true.mpr fun c hc => decide_eq_true (num_digits c hc)]
  by_cases h : n = 0
  · subst h; decide +kernel
  · obtain ⟨c, r, e, c1, c2⟩ := num_first (n := n) (by omega)
    rw [e]
    have : ((c :: r).head? != some 48) = true := by
      rw [List.head?_cons]
      simp
      omega
    rw [this, Bool.or_true]
    rfl
/-- the number that a word of digits tells -/
def valI (x : Str) : Int := ((NumText.digitsVal x.cps.toList : Nat) : Int)
theorem val_num {n : Nat} : valI (num (n : Int)) = n := by unfold valI; rw [num_L, numL_val]
theorem val_int {x : Str} (h : digB x = true) : PySem.intText? x = some (valI x) ∧ 0 ≤ valI x ∧ valI x < 10 ^ 19 := by
  obtain ⟨h1, h2, h3, _⟩ := digB_facts h
  have hl := num_len' x
  refine ⟨intText_digits h3 (by intro e; rw [e] at hl; simp at hl; omega) (by omega), by unfold valI; omega, ?_⟩
  have := val_lt x.cps.toList h3
  have h4 : (10 : Nat) ^ x.cps.toList.length ≤ 10 ^ 19 := Nat.pow_le_pow_right (by decide) (by omega)
  unfold valI
  have h19 : (10 : Nat) ^ 19 = 10000000000000000000 := by decide
  have h19' : (10 : Int) ^ 19 = 10000000000000000000 := by decide
  omega
/-- a word of digits is the text of its number -/
theorem num_val {x : Str} (h : digB x = true) : num (valI x) = x := by
  obtain ⟨h1, h2, h3, _⟩ := digB_facts h
  have hl := num_len' x
  refine str_ext ?_
  unfold valI
  rw [num_cps]
  unfold digB at h
  cases e : x.cps.toList with
  | nil => rw [e] at hl; simp at hl; omega
  | cons c r =>
    rw [e] at h3
    have hc := h3 c List.mem_cons_self
    have key : (c :: r).length = ((c :: r).length - 1) + 1 := by simp
    have hx : (c :: r).length - 1 = 0 ∨ ∃ c' r', c :: r = c' :: r' ∧ 49 ≤ c' := by
      by_cases hz : x = "0"
      · subst hz
        have : (("0" : Str)).cps.toList = [48] := by decide +kernel
        rw [this] at e
        cases e
        exact .inl rfl
      · have h5 : (x.cps.toList.head? != some 48) = true := by
          have h6 := (Bool.and_eq_true_iff.mp h).2
          rwa [show (x == "0") = false from beq_false_of_ne hz, Bool.false_or] at h6
        rw [e, List.head?_cons] at h5
        refine .inr ⟨c, r, rfl, ?_⟩
        have : c ≠ 48 := by intro z; subst z; simp at h5
        omega
    rw [NumText.toDigits_digitsVal ((c :: r).length - 1) (c :: r) key h3 hx, List.map_map]
    have : ∀ l : List Nat, (∀ d ∈ l, 48 ≤ d ∧ d ≤ 57) → l.map (Char.toNat ∘ Char.ofNat) = l := by
      intro l hl
      induction l with
      | nil => rfl
      | cons d l ih =>
        have hd := hl d List.mem_cons_self
        rw [List.map_cons, ih fun z hz => hl z (List.mem_cons_of_mem _ hz)]
        have : (Char.toNat ∘ Char.ofNat) d = d := by
          obtain ⟨d1, d2⟩ := hd
          have : d = 48 ∨ d = 49 ∨ d = 50 ∨ d = 51 ∨ d = 52 ∨ d = 53 ∨ d = 54 ∨ d = 55 ∨ d = 56 ∨ d = 57 := by omega
          rcases this with rfl | rfl | rfl | rfl | rfl | rfl | rfl | rfl | rfl | rfl <;> rfl
        rw [this]
    exact this _ h3
/-! ### the words of a text -/
theorem join_mem {y : Str} : ∀ {ws : List Str} {p : Str}, p ∈ ws → (∀ c ∈ p.cps.toList, c ∈ (Str.join y ws).cps.toList) ∧ p.length ≤ (Str.join y ws).length
  | [w], p, h => by
    rw [List.mem_singleton.mp h]
    exact ⟨fun c hc => hc, Nat.le_refl _⟩
  | w :: w2 :: ws, p, h => by
    have e : (Str.join y (w :: w2 :: ws)).cps.toList = w.cps.toList ++ y.cps.toList ++ (Str.join y (w2 :: ws)).cps.toList := by
      rw [join_two, cps_app, cps_app]
    have el : (Str.join y (w :: w2 :: ws)).length = w.length + y.length + (Str.join y (w2 :: ws)).length := by
      rw [num_len', e, List.length_append, List.length_append, ← num_len', ← num_len', ← num_len']
    rcases List.mem_cons.mp h with rfl | h
    · exact ⟨fun c hc => by rw [e]; simp [hc], by rw [el]; omega⟩
    · obtain ⟨h1, h2⟩ := join_mem (y := y) h
      exact ⟨fun c hc => by rw [e]; exact List.mem_append_right _ (h1 c hc), by rw [el]; omega⟩
theorem split_mem {x p : Str} {c : Nat} (h : p ∈ Txt.split x ⟨#[c]⟩) : (PyData.strOk x = true → PyData.strOk p = true) ∧ p.length ≤ x.length := by
  have hj := StrLaws.join_split x ⟨#[c]⟩
  obtain ⟨h1, h2⟩ := join_mem (y := ⟨#[c]⟩) h
  rw [hj] at h1 h2
  refine ⟨fun ho => ?_, h2⟩
  have hx : ∀ d ∈ x.cps.toList, d < 1114112 := fun d hd => by
    have ho : Array.all x.cps _ = true := ho
    rw [Array.all_eq_true_iff_forall_mem] at ho
    exact of_decide_eq_true (ho d (by simpa using hd))
  exact strOk_lt (Nat.le_refl _) fun d hd => hx d (h1 d hd)
theorem join_parts : ∀ (ws : List Str), ws ≠ [] → ∀ c : Nat, ws.length ≤ (Str.join ⟨#[c]⟩ ws).length + 1
  | [w], _, c => by simp
  | w :: w2 :: ws, _, c => by
    have ih := join_parts (w2 :: ws) (by simp) c
    have el : (Str.join ⟨#[c]⟩ (w :: w2 :: ws)).length = w.length + 1 + (Str.join ⟨#[c]⟩ (w2 :: ws)).length := by
      rw [join_two, num_len', cps_app, cps_app, List.length_append, List.length_append, ← num_len', ← num_len']
      rfl
    rw [List.length_cons, el]
    omega
theorem split_many {x : Str} {c : Nat} : (Txt.split x ⟨#[c]⟩).length ≤ x.length + 1 := by
  have := join_parts (Txt.split x ⟨#[c]⟩) (fun e => split_ne x c e) c
  rwa [StrLaws.join_split] at this
theorem ev_split {x : Str} {y : Str} {c : Nat} (hy : y = ⟨#[c]⟩) {cs : Cs} {Q : T → Cs → Prop} (h : x.length + 2 ≤ sizeLine) : EV (splitM (.str x) [.str y]) cs Q ↔ Q (.lst ((Txt.split x ⟨#[c]⟩).map .str)) cs := ev_some (by
  subst hy
  show (if ((⟨#[c]⟩ : Str).length == 0) = false ∧ x.length + 2 ≤ sizeLine then some (Out.ok (T.lst ((Txt.split x ⟨#[c]⟩).map .str)), cs) else none) = _
  rw [if_pos ⟨rfl, h⟩])
theorem ev_intS {x : Str} (h : digB x = true) {cs : Cs} {Q : T → Cs → Prop} : EV (intC [.str x]) cs Q ↔ Q (.int (valI x)) cs := ev_some (by
  show (if x.length ≤ 640 then (PySem.intText? x).map fun n => (Out.ok (T.int n), cs) else none) = _
  rw [if_pos (by have := (digB_facts h).1; omega), (val_int h).1]
  rfl)
def cntB (x : Str) : Bool := digB x && !(x == "0")
theorem cntB_val {x : Str} (h : cntB x = true) : 1 ≤ valI x ∧ valI x < 10 ^ 19 := by
  obtain ⟨h1, h2⟩ := Bool.and_eq_true_iff.mp h
  obtain ⟨_, h3, h4⟩ := val_int h1
  refine ⟨?_, h4⟩
  by_cases h5 : 0 < valI x
  · omega
  · have h6 : valI x = 0 := by omega
    have h7 := num_val h1
    rw [h6] at h7
    rw [← h7] at h2
    exact absurd h2 (by decide +kernel)
theorem cnt_num {i : Int} (h0 : 1 ≤ i) (h1 : i < 10 ^ 19) : cntB (num i) = true ∧ valI (num i) = i := by
  obtain ⟨n, rfl⟩ : ∃ n : Nat, i = (n : Int) := ⟨i.toNat, by omega⟩
  refine ⟨?_, val_num⟩
  unfold cntB
  rw [num_digB (by omega) h1, Bool.true_and]
  have : num (n : Int) ≠ "0" := fun e => by
    have h2 : num (n : Int) = num ((0 : Nat) : Int) := by rw [e]; decide +kernel
    have := num_inj h2
    omega
  rw [beq_false_of_ne this]
  rfl
end Tv

set_option linter.unusedVariables false
namespace Tv
open PySem L2
/-! ### what raises -/
def XV (m : Cs → Option (Out T × Cs)) (cs : Cs) (c : Nat) (x : Option T) (cs' : Cs) : Prop := m cs = some (.ex c x, cs')
section
variable {cs cs' cs1 : Cs} {env : Env} {c : Nat} {x : Option T}
theorem xv_def {np n : Nat} {mb : SM} {ts : List T} (hl : ts.length = np) (h : SV (mb (ts.map some ++ List.replicate (n - ts.length) none)) cs fun fl c1 => fl = .ex c x ∧ c1 = cs') : XV (mDef np n mb ts) cs c x cs' := by
  obtain ⟨fl, c1, e, rfl, rfl⟩ := h
  show mDef np n mb ts cs = _
  unfold mDef
  rw [if_pos hl, e]
theorem xa_cons {m : ME} {r : MA} (h : XV (m env) cs c x cs') : aCons m r env cs = some (.ex c x, cs') := by
  unfold aCons M.bind
  rw [show m env cs = _ from h]
theorem xv_call {r : List T → M T} {a : MA} (h : a env cs = some (.ex c x, cs')) : XV (mCall r a env) cs c x cs' := by
  show mCall r a env cs = _
  unfold mCall M.bind
  rw [h]
theorem xv_cal {m : List T → M T} {dts : List T} {a : MA} {ts : List T} (h : a env cs = some (.ok ts, cs1)) (g : XV (m (ts ++ dts)) cs1 c x cs') : XV (mCal m dts a env) cs c x cs' := by
  show mCal m dts a env cs = _
  unfold mCal M.bind
  rw [h]
  exact g
theorem xv_cm {k : Nat} {m : List T → M T} {a : MA} {ts : List T} (h : a env cs = some (.ok ts, cs1)) (g : XV (m (.cls k :: ts)) cs1 c x cs') : XV (mCm k m a env) cs c x cs' := by
  show mCm k m a env cs = _
  unfold mCm M.bind
  rw [h]
  exact g
theorem sv_setX {i : Nat} {m : ME} {Q : Fl → Cs → Prop} (h : XV (m env) cs c x cs') (q : Q (.ex c x) cs') : SV (sSet i m env) cs Q := by
  refine ⟨.ex c x, cs', ?_, q⟩
  unfold sSet M.go
  rw [show m env cs = _ from h]
theorem sv_exprX {m : ME} {Q : Fl → Cs → Prop} (h : XV (m env) cs c x cs') (q : Q (.ex c x) cs') : SV (sExpr m env) cs Q := by
  refine ⟨.ex c x, cs', ?_, q⟩
  unfold sExpr M.go
  rw [show m env cs = _ from h]
theorem sv_try1 {n j k : Nat} {hm : T → M T} {mb : SM} {Q : Fl → Cs → Prop} (h : SV (mb env) cs fun fl cs1 => match fl with
    | .ex c' x => ∃ t, x = some t ∧ c' = k ∧ EV (hm t) cs1 fun u cs2 => Q (.nx ((List.replicate n none).set j (some u))) cs2
    | fl => Q fl cs1) : SV (sTry1 n j k hm mb env) cs Q := by
  obtain ⟨fl, cs1, e, h⟩ := h
  cases fl with
  | ex c' x =>
    obtain ⟨t, rfl, rfl, u, cs2, e2, q⟩ := h
    exact ⟨_, cs2, by unfold sTry1; simp only [e, e2, if_true], q⟩
  | nx e1 => exact ⟨_, cs1, by unfold sTry1; simp only [e], h⟩
  | bk e1 => exact ⟨_, cs1, by unfold sTry1; simp only [e], h⟩
  | ct e1 => exact ⟨_, cs1, by unfold sTry1; simp only [e], h⟩
  | rt t => exact ⟨_, cs1, by unfold sTry1; simp only [e], h⟩
theorem ev_pure {m : T → Option T} {t : T} {Q : T → Cs → Prop} : EV (xPure m t) cs Q ↔ ∃ u, m t = some u ∧ Q u cs := by
  unfold xPure
  constructor
  · rintro ⟨a, c1, e, q⟩
    cases h : m t with
    | none => rw [h] at e; cases e
    | some u => rw [h] at e; cases e; exact ⟨_, rfl, q⟩
  · rintro ⟨u, h, q⟩
    exact ⟨u, cs, by rw [h]; rfl, q⟩
end
/-! ### texts -/
section
variable {cs : Cs} {Q : T → Cs → Prop}
theorem ev_ninSign {c : Nat} {z : Str} : EV (ninT (.str ⟨#[c]⟩) (.str z)) cs Q ↔ Q (.bl (!decide (c ∈ z.cps.toList))) cs := ev_some rfl
theorem ev_ninStrs {x : Str} {us : List Str} : EV (ninT (.str x) (.tup (us.map T.str))) cs Q ↔ Q (.bl (!decide (x ∈ us))) cs := by
  have h := @ev_inStrs x us cs (fun t cs1 => t = .bl (decide (x ∈ us)) ∧ cs1 = cs)
  obtain ⟨a, c1, e, rfl, rfl⟩ := h.mpr ⟨rfl, rfl⟩
  refine ev_some ?_
  unfold inT at e
  unfold ninT
  cases hb : inB c1 (.str x) (.tup (us.map T.str)) with
  | none => rw [hb] at e; cases e
  | some b =>
    rw [hb] at e
    cases e
    rfl
theorem ev_eqNil {ts : List T} (hf : ts.all flatOk = true) : EV (eqT (.lst ts) (.lst [])) cs Q ↔ Q (.bl ts.isEmpty) cs := by
  have h := (@ev_neNil cs (fun t c1 => t = .bl (!ts.isEmpty) ∧ c1 = cs) (.lst ts) ts (.inr (.inl rfl)) hf).mpr ⟨rfl, rfl⟩
  obtain ⟨a, c1, e, rfl, rfl⟩ := h
  refine ev_some ?_
  unfold neT at e
  unfold eqT
  cases hb : eqvT c1 (.lst ts) (.lst []) with
  | none => rw [hb] at e; cases e
  | some b =>
    rw [hb] at e
    have e2 : (!b) = !ts.isEmpty := by
      have := e
      simp only [Option.map_some, Option.some.injEq, Prod.mk.injEq, Out.ok.injEq, T.bl.injEq, and_true] at this
      exact this
    have e3 : b = ts.isEmpty := by cases b <;> cases hte : ts.isEmpty <;> rw [hte] at e2 <;> first | rfl | cases e2
    rw [e3]
    rfl
theorem ev_addS {a b : Str} (h : a.length + b.length ≤ sizeLine) : EV (addT (.str a) (.str b)) cs Q ↔ Q (.str (a ++ b)) cs := ev_some (by
  show (if a.length + b.length ≤ sizeLine then _ else _) = _
  rw [if_pos h])
theorem ev_slS {a : Str} {lo hi : Option Int} (h : a.length ≤ sizeLine) : EV (slT (.str a) lo hi) cs Q ↔ Q (.str (cutS a lo hi)) cs := ev_some (by
  show (if a.length ≤ sizeLine then _ else _) = _
  rw [if_pos h])
end
theorem strOk_all {x : Str} : PyData.strOk x = true ↔ ∀ c ∈ x.cps.toList, c < 1114112 := by
  have h1 : PyData.strOk x = x.cps.toList.all fun c => decide (c < 1114112) := by
    show Array.all _ _ = _
    rw [← Array.all_toList]
  rw [h1, List.all_eq_true]
  simp
theorem cut_signs {x : Str} {lo hi : Option Int} : ∀ c ∈ (cutS x lo hi).cps.toList, c ∈ x.cps.toList := fun c h => by
  have h : c ∈ (List.take (HT.sIx x.length x.length hi - HT.sIx x.length 0 lo) (List.drop (HT.sIx x.length 0 lo) x.cps.toList)) := h
  exact List.mem_of_mem_drop (List.mem_of_mem_take h)
theorem cut_len {x : Str} {lo hi : Option Int} : (cutS x lo hi).length ≤ x.length := by
  rw [num_len', num_len']
  show (List.take (HT.sIx x.length x.length hi - HT.sIx x.length 0 lo) (List.drop (HT.sIx x.length 0 lo) x.cps.toList)).length ≤ _
  rw [List.length_take, List.length_drop]
  omega
theorem strOk_cut {x : Str} {lo hi : Option Int} (h : PyData.strOk x = true) : PyData.strOk (cutS x lo hi) = true := strOk_all.mpr fun c hc => strOk_all.mp h c (cut_signs c hc)
theorem strs_flat {ws : List Str} (h : ∀ w ∈ ws, PyData.strOk w = true) : (ws.map T.str).all flatOk = true := by
  rw [List.all_eq_true]
  intro t ht
  obtain ⟨w, hw, rfl⟩ := List.mem_map.mp ht
  exact h w hw
/-- the signs of a text that are not in another -/
def outT (z : Str) : T → Option T
  | .str x => match x.cps.toList with
    | [c] => if c ∈ z.cps.toList then none else some (.str x)
    | _ => none
  | _ => none
theorem out_map (z : Str) (cs : List Nat) : ((cs.map fun c => T.str ⟨#[c]⟩).filterMap (outT z)) = (cs.filter fun c => !decide (c ∈ z.cps.toList)).map fun c => T.str ⟨#[c]⟩ := by
  induction cs with
  | nil => rfl
  | cons c cs ih =>
    rw [List.map_cons, List.filterMap_cons, List.filter_cons]
    by_cases h : c ∈ z.cps.toList
    · rw [show outT z (T.str ⟨#[c]⟩) = none from if_pos h]
      simp only [h, decide_true, Bool.not_true, Bool.false_eq_true, if_false]
      exact ih
    · rw [show outT z (T.str ⟨#[c]⟩) = some (T.str ⟨#[c]⟩) from if_neg h]
      simp only [h, decide_false, Bool.not_false, if_true, List.map_cons]
      rw [ih]
theorem filter_emp {α : Type} (xs : List α) (p : α → Bool) (f : α → T) : ((xs.filter fun c => !p c).map f).isEmpty = xs.all p := by
  induction xs with
  | nil => rfl
  | cons x xs ih =>
    rw [List.filter_cons, List.all_cons]
    cases h : p x with
    | true => simp only [Bool.not_true, Bool.false_eq_true, if_false, Bool.true_and]; exact ih
    | false => rfl
/-- words that a test keeps -/
theorem lv_keep {ck : Cs → Bool} {own : List Nat} {g : T → Env → Option Env} {mt : Env → M Bool} {me : ME} {Q : List T → Cs → Prop} (p : Str → Bool) {ws : List Str} {env : Env} {cs : Cs} (hc : ck cs = true)
    (h : ∀ w ∈ ws, ∃ env1, g (.str w) (wipeE env own) = some env1 ∧ EV (mt env1) cs (fun b cs' => b = p w ∧ cs' = cs) ∧ EV (me env1) cs fun u cs' => u = .str w ∧ cs' = cs) (q : Q ((ws.filter p).map T.str) cs) :
    LV ck own g mt me (ws.map T.str) env cs Q := by
  refine lv_pure (fun t => match t with | .str w => if p w = true then some (.str w) else none | _ => none) hc ?_ ?_
  · intro t ht
    obtain ⟨w, hw, rfl⟩ := List.mem_map.mp ht
    obtain ⟨env1, e1, h1, h2⟩ := h w hw
    refine ⟨env1, e1, h1.mono ?_⟩
    rintro b cs' ⟨rfl, rfl⟩
    refine ⟨rfl, ?_⟩
    cases e : p w with
    | false => exact .inl ⟨rfl, by simp [e]⟩
    | true =>
      refine .inr ⟨rfl, h2.mono ?_⟩
      rintro u cs'' ⟨rfl, rfl⟩
      exact ⟨rfl, by simp [e]⟩
  · have : (ws.map T.str).filterMap (fun t => match t with | .str w => if p w = true then some (.str w) else none | _ => none) = (ws.filter p).map T.str := by
      clear q h
      induction ws with
      | nil => rfl
      | cons w ws ih =>
        rw [List.map_cons, List.filterMap_cons, List.filter_cons]
        cases e : p w with
        | false => simp only [e, Bool.false_eq_true, if_false]; exact ih
        | true => simp only [e, if_true, List.map_cons]; rw [ih]
    rw [this]
    exact q
end Tv

set_option linter.unusedVariables false
/-! enumerate(list, start) -/
namespace Ts
open PySem PySem.Spec PyProof.Rows L2
def IteS (K : PySem.W.Frag) (a : Addr) (k : Int) : It :=
  ⟨fun i H => ∃ (xs : List V) (x : V), SqL K H a xs ∧ xs[i]? = some x, fun i H v H' => ∃ T x, v = .ref T ∧ H T = none ∧ H' = upd H T (.tup [.int (k + (i : Nat)), x]) ∧ ∀ xs, SqL K H a xs → xs[i]? = some x, fun i H => ∃ xs : List V, SqL K H a xs ∧ xs.length = i⟩
theorem lit_ne {h : Heap} {it a : Addr} {i : Nat} {its : Array Value} (hi : h.IsListIter it a i) (p : h.IsList a its) : a ≠ it := by
  intro z
  obtain ⟨o, ho, hc, n, hd⟩ := p
  obtain ⟨o', ho', hc', _⟩ := hi
  subst z
  have e2 := Option.some.inj (ho.symm.trans ho')
  subst e2
  rw [hc] at hc'
  exact absurd hc' (by intro z; injection z with z; exact absurd z (by decide))
theorem enl_ne {h : Heap} {e it a : Addr} {i : Int} {old : Value} {its : Array Value} (he : IsEnum h e it i old) (p : h.IsList a its) : e ≠ a := by
  intro z
  obtain ⟨o, ho, hc, n, hd⟩ := p
  subst z
  have := he.symm.trans ho
  have e2 := Option.some.inj this
  subst e2
  exact absurd hc (by intro z; injection z with z; exact absurd z (by decide))
theorem turn_enumS {P : Program} {w : World} {K : PySem.W.Frag} {elts : List Expr} {kk : Nat} {tpos : Pos} (a e it : Addr) (k : Int) :
    Turn P w K (.Tuple elts kk tpos) (IteS K a k) [e, it] e (fun i h => (∃ old, IsEnum h e it (k + ((i : Nat) : Int)) old) ∧ h.IsListIter it a i ∧ e ≠ it) where
  mem := by simp
  obj := fun i h st b hb => by
    obtain ⟨⟨old, he⟩, ⟨o, ho, hc, hd⟩, _⟩ := st
    have e' : b = e ∨ b = it := by simpa using hb
    rcases e' with z | z
    · rw [z]; exact ⟨_, he, fun v q => nomatch q⟩
    · rw [z]; exact ⟨o, ho, fun v q => by rw [hd] at q; cases q⟩
  keep := fun i h h' st k => let ⟨⟨old, he⟩, hi, hne⟩ := st; ⟨⟨old, k e (by simp) _ he⟩, hi.at fun o q => k it (by simp) o q, hne⟩
  item := by
    intro X hP hw hK hc i pins s σ H E I hf st hg
    subst hP hw hK
    obtain ⟨⟨old, he⟩, hit, hne⟩ := st
    obtain ⟨xs, x, hq, hx⟩ := hg
    obtain ⟨its, rv, p, hz⟩ := I.list hq
    have p : s.heap.IsList a its.toArray := p.isList
    obtain ⟨u, hu, ru⟩ := rv.get hx
    have hel : e < s.heap.objs.size := Heap.lt_size he
    have hil : it < s.heap.objs.size := by obtain ⟨_, q, _⟩ := hit; exact Heap.lt_size q
    have hh : X.A.in1.handled = none := by rw [show X.A.in1.handled = X.A.handled from rfl]; exact I.ok.hd hc
    have hlt : i < its.toArray.size := by
      have := (List.getElem?_eq_some_iff.mp hu).1
      simpa using this
    refine wpAny_pyNext_enum_itemC (Draws.list hh it a (lit_ne hit p) its.toArray) he ⟨hit, p⟩ hlt hne (by simp [enl_ne he p, hne]) fun u' h' tk hu' ho hst' hT hsz hk => ?_
    have eu : u' = u := by
      have h1 : its[i]? = some u' := by simpa using hu'
      rw [hu] at h1
      exact (Option.some.inj h1).symm
    subst eu
    refine ⟨_, rfl, wpAny_letOwnedTupleGo_enum (s := { s with heap := h', toks := tk + 1 }) ho fun h'' he' sb => ?_⟩
    have hT2 : h''.get? s.heap.objs.size = some { cls := .type "tuple", data := .seq #[.int (k + (i : Nat)) tk, u'] } := (sb.2 _ (Nat.ne_of_gt hel)).trans hT
    have new : ObjOk X.prog X.w (upd H s.heap.objs.size (.tup [.int (k + (i : Nat)), x])) h'' s.heap.objs.size (.tup [.int (k + (i : Nat)), x]) :=
      ⟨by show 2 ≤ sizeLine; decide, [.int (k + (i : Nat)) tk, u'], .cons ⟨_, rfl⟩ (.cons ru .nil), ⟨_, hT2, rfl, _, rfl⟩⟩
    have I1 : Inv X pins σ (upd H s.heap.objs.size (.tup [.int (k + (i : Nat)), x])) { s with heap := h'', toks := tk + 1 } :=
      I.turnedNew (ch := [e, it]) (fun b ob hb q => (sb.2 b (fun z => hb (by simp [z]))).trans (hk b ob (fun z => hb (by simp [z])) (fun z => hb (by simp [z])) q)) hf (Nat.le_refl _) new
    refine ⟨.ref s.heap.objs.size, _, I1, rfl, ⟨_, x, rfl, I.hok.fresh (Nat.le_refl _), rfl, fun ys hy => by rw [I.list_inj hy hq]; exact hx⟩, ⟨⟨u', ?_⟩, hst'.1.at fun o q => (sb.2 it (Ne.symm hne)).trans q, hne⟩, fun b hb => ?_⟩
    · have e1 : k + ((i + 1 : Nat) : Int) = k + (i : Int) + 1 := by omega
      rw [e1]; exact he'
    · have hb' : b < s.heap.objs.size := by
        have e' : b = e ∨ b = it := by simpa using hb
        rcases e' with z | z
        · rw [z]; exact hel
        · rw [z]; exact hil
      rw [upd_ne (Nat.ne_of_lt hb')]
      exact (hf b hb).1
  done := by
    intro X hP hw hK hc i pins s σ H E I hf st hg
    subst hP hw hK
    obtain ⟨⟨old, he⟩, hit, hne⟩ := st
    obtain ⟨xs, hq, hx⟩ := hg
    obtain ⟨its, rv, p, hz⟩ := I.list hq
    have p : s.heap.IsList a its.toArray := p.isList
    obtain ⟨f0, f1, f2, f3, f4, f5⟩ := hf it (by simp)
    have hl := rv.length
    have hh : X.A.in1.handled = none := by rw [show X.A.in1.handled = X.A.handled from rfl]; exact I.ok.hd hc
    have ei : i = its.toArray.size := by
      rw [← hx]
      simp [hl]
    subst ei
    exact wpAny_pyNext_enum_endD (Draws.list hh it a (lit_ne hit p) its.toArray) he ⟨hit, p⟩ fun h' eb => ⟨rfl, I.turned (t' := s.toks) (fun b o hb q => eb b o hb q) f0 f1 f3 f4 f5⟩
  self := fun A i s Q E st h => let ⟨⟨_, he⟩, _⟩ := st; wpAny_pyIter_enum he h
theorem walk_enumS {K : PySem.W.Frag} {a : Addr} {k : Int} {xs : List V} : Walk (IteS K a k) xs.length (fun H => SqL K H a xs) (YPair (fun i => some (.int (k + (i : Nat)))) (fun i => xs[i]?)) := by
  refine ⟨fun i _ hi q => ⟨xs, xs[i], q, by simp [hi]⟩, fun _ q => ⟨xs, q, rfl⟩, fun i H v H' _ q y => ?_⟩
  obtain ⟨T, x, h1, h2, h3, h4⟩ := y
  exact ⟨T, .int (k + (i : Nat)), x, h1, h2, h3, rfl, h4 xs q⟩
def iEnumS (K : PySem.W.Frag) (k : Int) (ta : TE) : TI := fun σ H R => ta σ H fun v H1 => ∃ a xs, v = .ref a ∧ SqL K H1 a xs ∧ R (IteS K a k) H1
theorem pi_enumS {X : Cx} {e : Expr} {ta : TE} {k : Int} {j : Nat} {p p2 pos tpos : Pos} {elts : List Expr} {kk : Nat} (hg : Gl X "enumerate") (hm : X.mg "enumerate" = none) (hk0 : -(2 ^ 63) ≤ k) (hk1 : k < 2 ^ 63) (ha : PE X e ta)
    (hs : starEach [e, .Constant (.int k) j p2] X.env = (false, eval e X.env) :: starEach [.Constant (.int k) j p2] X.env := by rfl) (hs2 : starEach [.Constant (.int k) j p2] X.env = (false, eval (.Constant (.int k) j p2) X.env) :: starEach [] X.env := by rfl)
    (hp : (backTo pos (starEach [.Constant (.int k) j p2] X.env)).any (·.1) = false := by rfl) :
    PI X (.Tuple elts kk tpos) (.Call (.Name "enumerate" p) [e, .Constant (.int k) j p2] [] pos) (iEnumS X.K k ta) := by
  refine ⟨fun pins s σ H R I h => ?_⟩
  refine Call_ (ld_blt I hg hm boot_enumerate (PyProof.Rows.callWith_type1 (args_cons (thn (ha.run pins s σ H _ I h) fun v s1 ⟨x, H1, I1, r1, q1⟩ => ?_) hs) hs hp))
  obtain ⟨a, xs, ex, hq, q⟩ := q1
  subst ex
  cases r1
  refine one_arg (X := X) (ta := tC (.int k)) pe_int I1 (show tC (.int k) σ H1 (fun u H2 => u = .int k ∧ H2 = H1) from ⟨rfl, rfl⟩) (fun u s2 y H2 I2 r2 q2 => ?_) hs2
  obtain ⟨rfl, rfl⟩ := q2
  obtain ⟨t, rfl⟩ := r2
  have fin : ∀ {h' : Heap}, (∀ b o, s2.heap.get? b = some o → h'.get? b = some o) → ∀ b ∈ [s2.heap.objs.size + 1, s2.heap.objs.size], FpOk X pins H2 b := fun {h'} hk b hb => by
    have e' : b = s2.heap.objs.size + 1 ∨ b = s2.heap.objs.size := by simpa using hb
    have hle : s2.heap.objs.size ≤ b := by
      rcases e' with z | z
      · rw [z]; exact Nat.le_add_right _ _
      · rw [z]; exact Nat.le_refl _
    exact I2.fpOk hle (I2.hok.fresh hle)
  obtain ⟨its, rv, p', hz⟩ := I2.list hq
  refine enum_begins (begins_list a its.toArray) p'.isList hk0 hk1 fun h' he hit hsz hk => wpAny_pyIter_enum he ?_
  have I3 : Inv X pins σ H2 { s2 with heap := h' } := I2.kept (t' := s2.toks) hk
  exact ⟨s2.heap.objs.size + 1, [s2.heap.objs.size + 1, s2.heap.objs.size], _, _, H2, rfl, I3, turn_enumS a (s2.heap.objs.size + 1) s2.heap.objs.size k, ⟨⟨.none, by simpa using he⟩, ⟨_, hit, rfl, rfl⟩, Nat.succ_ne_self _⟩, fin hk, q⟩
end Ts

/-! ### a, *b = .. -/
namespace Ts
open PySem PySem.Spec PySem.Calls PyProof.Rows L2 PySem.W
section
variable {prog : Program} {w : World} {A : Around} {E : Value → Shared → Prop} {s : Shared}
/-- the first item, the others in a new list -/
theorem unpack_star {a : Addr} {x : Value} {xs : List Value} {Q : List Value → Shared → Prop} (la : s.heap.IsList a (x :: xs).toArray) (nh : A.handled = none) (few : xs.length < 16384)
    (fin : ∀ (g : Heap) (tk : Nat), (∀ b o, s.heap.get? b = some o → g.get? b = some o) → Q [x, .ref g.objs.size] { s with heap := g.push (seqObj "list" xs.toArray 0), toks := tk }) :
    wpAny (model prog w) A (unpackItems (.ref a) 2 (some 1)) Q E s := by
  obtain ⟨oa, ga, ca⟩ := la
  have below : a < s.heap.objs.size := Heap.lt_size ga
  have ne : a ≠ s.heap.objs.size := Nat.ne_of_lt below
  have la : s.heap.IsList a (x :: xs).toArray := ⟨oa, ga, ca⟩
  have big := sizeLine_eq
  unfold unpackItems notIterableAtAll
  refine wpAny_bind (wpAny_bind (wpAny_specialOf la.typeIs slot_list_iter.lookup (wpAny_pure ?_)))
  simp only [Bool.false_eq_true, if_false]
  refine wpAny_bind (wpAny_holding (wpAny_pyIter_list la (wpAny_bind (wpAny_holding ?_))))
  have two := Nat.lt_of_lt_of_le Nat.zero_lt_one (Nat.le_add_left 1 xs.length)
  refine kun_draw (items := (x :: xs).toArray) ne 1 0 _ _ ⟨_, Heap.get?_push_size _ rfl, rfl, rfl⟩ (la.push _) (by simp) fun g1 it1 sb1 => ?_
  have la1 : g1.IsList a (x :: xs).toArray := (la.push _).extBut sb1.extBut ne
  have la2 := la1
  obtain ⟨o2, go2, _⟩ := la2
  have it2 := it1
  obtain ⟨o3, go3, _⟩ := it2
  show wpAny _ _ (holding [x] (collect (.ref s.heap.objs.size)) >>= fun rest => if rest.length < 0 then _ else newList (rest.take rest.length) >>= fun d => pure ([x] ++ [d] ++ rest.drop rest.length)) _ _ _
  have W := Walks.list (prog := prog) (w := w) (A := A.in1) nh s.heap.objs.size a ne (x :: xs).toArray
  refine wpAny_bind (wpAny_holding (kun_collect (s := { s with heap := g1 }) (.inr (.inr (.inl rfl))) W (fun _ _ st => st.1.typeIs) (k := 1) (by simp) ⟨it1, la1⟩ (Heap.lt_size go3) (Heap.lt_size go2) (fun g2 tk keep => ?_) (by simp; omega)))
  show wpAny _ _ (if xs.length < 0 then _ else newList (xs.take xs.length) >>= fun d => pure ([x] ++ [d] ++ xs.drop xs.length)) _ _ _
  rw [if_neg (Nat.not_lt_zero _), List.take_length, List.drop_length]
  refine wpAny_bind (wpAny_newList (wpAny_pure (fin g2 tk fun b o e => ?_)) (by omega))
  have nb : b ≠ s.heap.objs.size := Nat.ne_of_lt (Heap.lt_size e)
  exact keep b o nb (sb1.extBut b o nb (Heap.get?_push_of_some _ e))
end
def gStar (K : PySem.W.Frag) (t : TGs) : TG := fun v σ H Q => ∃ a x xs, v = .ref a ∧ SqL K H a (x :: xs) ∧ xs.length < 16384 ∧ ∀ D, H D = none → t [x, .ref D] σ (upd H D (.lst xs)) Q
theorem pg_star {X : Cx} {es : List Expr} {k : Nat} {t : TGs} {pos : Pos} (hc : X.calm = true) (h : PGs X es t)
    (hn : (assignEach es X.env).length = 2 := by rfl) (hst : (assignEach es X.env).findIdx? (·.1) = some 1 := by rfl) : PG X (.Tuple es k pos) (gStar X.K t) := by
  refine ⟨fun pins s σ H v u Q I r hw => ?_⟩
  obtain ⟨a, x, xs, rfl, hq, few, hw⟩ := hw
  cases r
  obtain ⟨its, rv, p, _⟩ := I.list hq
  cases rv with
  | @cons _ y _ ys ry rys =>
    have hl := rys.length
    rw [assign_Tuple]
    refine wpAny_bind (wpAny_standAt ?_)
    unfold unpack
    rw [hn, hst]
    refine wpAny_bind (wpAny_holding (unpack_star p.isList (I.ok.hd hc) (by omega) fun g tk keep => ?_))
    have I1 : Inv X pins σ H { s with heap := g, toks := tk } := I.kept keep
    have fresh : H g.objs.size = none := I1.hok.fresh (Nat.le_refl _)
    have I2 : Inv X pins σ (upd H g.objs.size (.lst xs)) { s with heap := g.push (seqObj "list" ys.toArray 0), toks := tk } :=
      I1.laid (t' := tk) (fun b u e => Heap.get?_push_of_some _ e) (Nat.le_refl _) ⟨by rw [sizeLine_eq]; omega, ys, 0, rys, Heap.get?_push_size _ rfl⟩
    exact h.run pins _ σ _ _ _ Q I2 (.cons ry (.cons (show RelV (.ref g.objs.size) (Value.ref g.objs.size) from rfl) .nil)) (hw _ fresh)
theorem pgs_consS {X : Cx} {e : Expr} {es : List Expr} {p : Pos} {t : TG} {u : TGs} (h1 : PG X e t) (h2 : PGs X es u)
    (hs : (assignEach (.Starred e p :: es) X.env).map (·.2) = assign e X.env :: (assignEach es X.env).map (·.2) := by rfl) : PGs X (.Starred e p :: es) (gCons t u) := by
  refine ⟨fun pins s σ H vs us Q I r h => ?_⟩
  obtain ⟨v, vr, e1, h⟩ := h
  subst e1
  cases r with
  | cons r rr =>
    rw [hs]
    refine assignInOrder_cons (thn (h1.run pins s σ H _ _ _ I r h) fun _ s1 ⟨σ1, H1, I1, q1⟩ => ?_)
    exact h2.run pins s1 σ1 H1 _ _ Q I1 rr q1
end Ts

set_option linter.unusedVariables false
namespace Tv
open PySem L2 ClX PyProof.Rows
/-! ### all ints, all texts -/
def intsT : List T → Option (List Int)
  | [] => some []
  | .int i :: ts => match intsT ts with
    | some ns => some (i :: ns)
    | none => none
  | _ => none
def textsT : List T → Option (List Str)
  | [] => some []
  | .str i :: ts => match textsT ts with
    | some ns => some (i :: ns)
    | none => none
  | _ => none
theorem ints_some : ∀ {ts : List T} {ns : List Int}, intsT ts = some ns → ts = ns.map .int
  | [], ns, h => by cases h; rfl
  | t :: ts, ns, h => by
    cases t with
    | int i =>
      unfold intsT at h
      cases e : intsT ts with
      | none => rw [e] at h; cases h
      | some ms => rw [e] at h; cases h; rw [ints_some e]; rfl
    | _ => cases h
theorem texts_some : ∀ {ts : List T} {ns : List Str}, textsT ts = some ns → ts = ns.map .str
  | [], ns, h => by cases h; rfl
  | t :: ts, ns, h => by
    cases t with
    | str i =>
      unfold textsT at h
      cases e : textsT ts with
      | none => rw [e] at h; cases h
      | some ms => rw [e] at h; cases h; rw [texts_some e]; rfl
    | _ => cases h
theorem ints_map (ns : List Int) : intsT (ns.map .int) = some ns := by
  induction ns with
  | nil => rfl
  | cons n ns ih => rw [List.map_cons, intsT, ih]
theorem texts_map (ns : List Str) : textsT (ns.map .str) = some ns := by
  induction ns with
  | nil => rfl
  | cons n ns ih => rw [List.map_cons, textsT, ih]
theorem rep_ints {B : Book} {F : Hp} {α : List Addr} : ∀ {vs : List V} {ns : List Int}, RepL B F α vs (ns.map T.int) → vs = ns.map V.int
  | _, [], h => by cases h; rfl
  | _, n :: ns, h => by
    cases h with
    | cons r rr => cases r; rw [rep_ints rr]; rfl
theorem rep_texts {B : Book} {F : Hp} {α : List Addr} : ∀ {vs : List V} {ns : List Str}, RepL B F α vs (ns.map T.str) → vs = ns.map V.str
  | _, [], h => by cases h; rfl
  | _, n :: ns, h => by
    cases h with
    | cons r rr => cases r; rw [rep_texts rr]; rfl
theorem ints_rep {B : Book} {F : Hp} {α : List Addr} : ∀ (ns : List Int), RepL B F α (ns.map V.int) (ns.map T.int)
  | [] => .nil
  | n :: ns => .cons (.int n) (ints_rep ns)
theorem texts_rep {B : Book} {F : Hp} {α : List Addr} : ∀ (ns : List Str), RepL B F α (ns.map V.str) (ns.map T.str)
  | [] => .nil
  | n :: ns => .cons (.str n) (texts_rep ns)
section
variable {B : Book} {G : Hp} {X : Cx} {W : XK}
/-! ### len(set(xs)) -/
@[irreducible] def lenSetM (t : T) : M T := fun cs => match seqOf cs t with
  | some ts => if ts.length ≤ 1000 then match intsT ts with
    | some ns => some (.ok (.int (Ts.uqs 0 ns : Nat)), cs)
    | none => match textsT ts with
      | some ns => some (.ok (.int (Ts.uqs Str.empty ns : Nat)), cs)
      | none => none
    else none
  | none => none
def mLenSet (m : ME) : ME := fun env => (m env).bind fun t => lenSetM t
theorem s_lenSet {a : Expr} {m : ME} {p p2 q pos : Pos} (hK : X.K = B.K) (hg : Gl X "len") (hm : X.mg "len" = none) (hg2 : Gl X "set") (hm2 : X.mg "set" = none) (ha : SimE B G X W a m) (hc : X.calm = true := by rfl)
    (na : starEach [a] X.env = (false, eval a X.env) :: starEach [] X.env := by rfl) : SimE B G X W (.Call (.Name "len" p) [.Call (.Name "set" p2) [a] [] q] [] pos) (mLenSet m) := by
  intro σ H F α env cs o cs' he hs hm' Q qq
  refine ⟨_, Ts.pe_lenSetQ hg hm hg2 hm2 (pe_u X a) hc na, ?_⟩
  refine ha.then he hs hm' qq.exn fun t cs1 v H1 F1 α1 h1 e1 s1 r1 => ?_
  unfold lenSetM at h1
  cases e2 : seqOf cs1 t with
  | none => simp only [e2] at h1; cases h1
  | some ts =>
    simp only [e2] at h1
    obtain ⟨l, vs, rfl, hq, hr⟩ := seq_at r1 s1 e2
    have hl := if_some' h1
    rw [if_pos hl] at h1
    rw [hK]
    refine ⟨l, rfl, ?_⟩
    cases e3 : intsT ts with
    | some ns =>
      simp only [e3] at h1
      cases h1
      have et := ints_some e3
      subst et
      have ev := rep_ints hr
      subst ev
      rw [List.length_map] at hl
      exact .inl ⟨ns, hq, hl, qq _ H1 F1 α1 e1 s1 (.int _)⟩
    | none =>
      simp only [e3] at h1
      cases e4 : textsT ts with
      | none => simp only [e4] at h1; cases h1
      | some ns =>
        simp only [e4] at h1
        cases h1
        have et := texts_some e4
        subst et
        have ev := rep_texts hr
        subst ev
        rw [List.length_map] at hl
        exact .inr ⟨ns, hq, hl, qq _ H1 F1 α1 e1 s1 (.int _)⟩
/-! ### sorted, ints -/
def insI (x : Int) : List Int → List Int
  | [] => [x]
  | y :: ys => if x ≤ y then x :: y :: ys else y :: insI x ys
def sortI : List Int → List Int
  | [] => []
  | x :: xs => insI x (sortI xs)
theorem insI_perm (x : Int) : ∀ ys : List Int, (insI x ys).Perm (x :: ys)
  | [] => List.Perm.refl _
  | y :: ys => by
    unfold insI
    by_cases h : x ≤ y
    · rw [if_pos h]
    · rw [if_neg h]
      exact ((insI_perm x ys).cons y).trans (List.Perm.swap x y ys)
theorem sortI_perm : ∀ xs : List Int, (sortI xs).Perm xs
  | [] => List.Perm.refl _
  | x :: xs => (insI_perm x _).trans ((sortI_perm xs).cons x)
theorem insI_sorted (x : Int) : ∀ {ys : List Int}, ys.Pairwise (· ≤ ·) → (insI x ys).Pairwise (· ≤ ·)
  | [], _ => List.pairwise_singleton _ _
  | y :: ys, h => by
    unfold insI
    have h1 := List.pairwise_cons.mp h
    by_cases e : x ≤ y
    · rw [if_pos e]
      refine List.pairwise_cons.mpr ⟨fun z hz => ?_, h⟩
      rcases List.mem_cons.mp hz with rfl | hz
      · exact e
      · exact Int.le_trans e (h1.1 z hz)
    · rw [if_neg e]
      refine List.pairwise_cons.mpr ⟨fun z hz => ?_, insI_sorted x h1.2⟩
      rcases List.mem_cons.mp ((insI_perm x ys).mem_iff.mp hz) with rfl | hz
      · omega
      · exact h1.1 z hz
theorem sortI_sorted : ∀ xs : List Int, (sortI xs).Pairwise (· ≤ ·)
  | [] => .nil
  | x :: xs => insI_sorted x (sortI_sorted xs)
theorem sortI_uniq {xs ys : List Int} (h : ys.Perm xs) (s : ys.Pairwise (· ≤ ·)) : ys = sortI xs :=
  List.Perm.eq_of_pairwise (le := (· ≤ ·)) (fun a b _ _ => Int.le_antisymm) s (sortI_sorted xs) (h.trans (sortI_perm xs).symm)
@[irreducible] def sortedC (ts : List T) : M T := fun cs => match ts with
  | [t] => match seqOf cs t with
    | some us => match intsT us with
      | some ns => some (.ok (.lst ((sortI ns).map .int)), cs)
      | none => none
    | none => none
  | _ => none
theorem c_sorted (hK : X.K = B.K) : SimC B G X W (.builtin "sorted") sortedC := by
  intro H F α cs xs ts o cs' r hs hm Q q
  unfold sortedC at hm
  split at hm
  · rename_i t
    obtain ⟨v, rfl, rt⟩ := r.one
    cases e : seqOf cs t with
    | none => simp only [e] at hm; cases hm
    | some us =>
      simp only [e] at hm
      obtain ⟨a, vs, rfl, hq, hr⟩ := seq_at rt hs e
      cases e2 : intsT us with
      | none => simp only [e2] at hm; cases hm
      | some ns =>
        simp only [e2] at hm
        cases hm
        have et := ints_some e2
        subst et
        have ev := rep_ints hr
        subst ev
        rw [← hK] at hq
        refine ⟨_, Ts.cr_sortedQ, a, ns, rfl, hq, fun ys p h1 h2 np => ?_⟩
        have ey := sortI_uniq h1 h2
        subst ey
        obtain ⟨s1, x1⟩ := hs.frozen (o := .lst ((sortI ns).map V.int)) np
        exact q _ _ _ _ x1 s1 (.lst upd_same (ints_rep _))
  · cases hm
/-! ### list(range(n)) -/
def mLstRg (m : ME) : ME := fun env => (m env).bind fun t => fun cs => match t with
  | .int n => if -(2 ^ 62) ≤ n ∧ n ≤ 2 ^ 24 then some (.ok (.lst ((List.range n.toNat).map fun (i : Nat) => .int i)), cs) else none
  | _ => none
theorem rg0 (n : Int) : rgV 0 n = (List.range n.toNat).map fun (i : Nat) => V.int i := by
  unfold rgV
  rw [Int.sub_zero]
  exact List.map_congr_left fun i _ => by rw [Int.zero_add]
theorem rgT_rep {F : Hp} {α : List Addr} : ∀ (l : List Nat), RepL B F α (l.map fun (i : Nat) => V.int i) (l.map fun (i : Nat) => T.int i)
  | [] => .nil
  | i :: l => .cons (.int _) (rgT_rep l)
theorem s_lstRg {a : Expr} {m : ME} {p p2 q pos : Pos} (hg : Gl X "list") (hm : X.mg "list" = none) (hg2 : Gl X "range") (hm2 : X.mg "range" = none) (ha : SimE B G X W a m) (hc : X.calm = true := by rfl)
    (na : starEach [a] X.env = (false, eval a X.env) :: starEach [] X.env := by rfl) (nb : starEach [.Call (.Name "range" p2) [a] [] q] X.env = (false, eval (.Call (.Name "range" p2) [a] [] q) X.env) :: starEach [] X.env := by rfl) :
    SimE B G X W (.Call (.Name "list" p) [.Call (.Name "range" p2) [a] [] q] [] pos) (mLstRg m) := by
  intro σ H F α env cs o cs' he hs hm' Q qq
  refine ⟨_, pe_listRg hc hg hm (prg_1 hg2 hm2 (pe_u X a) na) nb, ?_⟩
  show uE X a σ H _
  refine ha.then he hs hm' qq.exn fun t cs1 v H1 F1 α1 h1 e1 s1 r1 => ?_
  cases r1 with
  | int n =>
    have hz := if_some h1
    dsimp only at h1
    rw [if_pos hz] at h1
    cases h1
    refine ⟨n, rfl, ⟨by omega, by omega, by omega, by omega, by omega⟩, fun p np => ?_⟩
    rw [rg0]
    obtain ⟨s2, x2⟩ := s1.frozen (o := .lst ((List.range n.toNat).map fun (i : Nat) => V.int i)) np
    exact qq _ _ _ _ (e1.trans x2) s2 (.lst upd_same (rgT_rep _))
  | _ => cases h1
/-! ### a, *b = xs -/
def sStar (i j : Nat) (m : ME) : SM := fun env => (m env).go fun t cs => match lstOf cs t with
  | some (u :: us) => if us.length < 16384 then some (.nx ((env.set i (some u)).set j (some (.lst us))), cs) else none
  | _ => none
theorem t_star {st : Stmt} {e : Expr} {i j : Nat} {m : ME} (hK : X.K = B.K) (hp : PS X st (tAsg (uE X e) (Ts.gStar X.K (gCons (gName i) (gCons (gName j) gNil))))) (h : SimE B G X W e m) : SimS B G X W st (sStar i j m) := by
  intro σ H F α env cs fl cs' he hs hm D q
  refine ⟨_, hp, ?_⟩
  refine h.go he hs hm q.exn fun t cs1 v H1 F1 α1 h1 e1 s1 r1 => ?_
  cases e2 : lstOf cs1 t with
  | none => simp only [e2] at h1; cases h1
  | some ts =>
    simp only [e2] at h1
    obtain ⟨a, vs, rfl, hq, hr⟩ := lst_at r1 s1 e2
    cases ts with
    | nil => cases h1
    | cons u us =>
      have hz := if_some h1
      dsimp only at h1
      rw [if_pos hz] at h1
      cases h1
      cases hr with
      | @cons v0 _ vs0 _ r0 rr =>
        have hl := rr.length
        refine ⟨a, v0, vs0, rfl, by rw [hK]; exact hq, by omega, fun D0 nD => ?_⟩
        obtain ⟨s2, x2⟩ := s1.frozen (o := .lst vs0) nD
        refine ⟨v0, _, rfl, ?_⟩
        refine ⟨.ref D0, [], rfl, ?_⟩
        refine ⟨rfl, ?_⟩
        exact q _ _ _ _ (e1.trans x2) s2 ((((he.ext e1).ext x2).set i (r0.ext x2)).set j (.lst upd_same (rr.ext x2)))
/-! ### enumerate(xs, k) -/
def mEnumS (k : Nat) (m : ME) : Env → M Seq := fun env => (m env).bind fun t => fun cs => match t with
  | .lst us => some (.ok (fr (enumFrom k us)), cs)
  | _ => none
theorem enumS_at {F1 : Hp} {α1 : List Addr} {J : It} {k : Nat} {us : List T} {xs : List V} {Gw : Hp → Prop} (r : RepL B F1 α1 xs us) (w : Walk J xs.length Gw (YPair (fun i => some (.int ((k : Int) + (i : Nat)))) (fun i => xs[i]?))) (hG : ∀ H2, Same F1 H2 → Gw H2) : WalkT B F1 α1 J (fr (enumFrom k us)) := by
  refine ⟨Gw, _, by rw [enumFrom_length, ← r.length]; exact w, fun G H2 F2 α2 cs2 e s _ => hG H2 (e.s.trans s.same), fun G i H x H' F2 α2 cs2 t e s _ y ht => ?_⟩
  obtain ⟨Tt, x1, y1, rfl, nT, rfl, e1, e2⟩ := y
  cases e1
  rw [enumFrom_get] at ht
  cases hu : us[i]? with
  | none => rw [hu] at ht; cases ht
  | some u =>
    rw [hu] at ht
    cases ht
    obtain ⟨v, hv, rv⟩ := r.get hu
    have e2 : xs[i]? = some y1 := e2
    rw [e2] at hv
    cases hv
    obtain ⟨s3, e3⟩ := s.frozen (o := .tup [.int ((k : Int) + (i : Nat)), y1]) nT
    refine ⟨_, e3, s3, .tup (SqT.of upd_same) (.cons ?_ (.cons ((rv.ext e).ext e3) .nil))⟩
    rw [show ((k + i : Nat) : Int) = (k : Int) + (i : Nat) by omega]
    exact .int _
theorem i_enumS {e : Expr} {k j : Nat} {elts : List Expr} {kk : Nat} {p p2 pos tpos : Pos} {m : ME} (hK : X.K = B.K) (hg : Gl X "enumerate") (hm : X.mg "enumerate" = none) (hk : (k : Int) < 2 ^ 63) (ha : SimE B G X W e m)
    (hs1 : starEach [e, .Constant (.int k) j p2] X.env = (false, eval e X.env) :: starEach [.Constant (.int k) j p2] X.env := by rfl) (hs2 : starEach [.Constant (.int k) j p2] X.env = (false, eval (.Constant (.int k) j p2) X.env) :: starEach [] X.env := by rfl)
    (hp : (backTo pos (starEach [.Constant (.int k) j p2] X.env)).any (·.1) = false := by rfl) :
    SimI B G X W (.Tuple elts kk tpos) (.Call (.Name "enumerate" p) [e, .Constant (.int k) j p2] [] pos) (mEnumS k m) := by
  intro σ H F α env cs o cs' he hs hm' R q
  refine ⟨_, Ts.pi_enumS (k := k) hg hm (by omega) hk (pe_u X e) hs1 hs2 hp, ?_⟩
  rcases bind_some hm' with ⟨t, cs1, h1, h2⟩ | ⟨c, x, h1, rfl⟩
  · cases t with
    | lst us =>
      cases h2
      refine ha σ H F α env cs _ _ he hs h1 _ fun v H1 F1 α1 e1 s1 r1 => ?_
      cases r1 with
      | @lst a xs _ hq hr =>
        rw [hK]
        exact ⟨a, xs, rfl, SqL.of (s1.same _ _ hq), q _ H1 F1 α1 e1 s1 (enumS_at hr Ts.walk_enumS fun H2 s2 => SqL.of (s2 _ _ hq))⟩
    | _ => cases h2
  · exact ha σ H F α env cs _ _ he hs h1 _ q
end
end Tv

set_option linter.unusedVariables false
/-! != of lists and tuples, item by item, by own == -/
namespace TsN
open PySem PySem.SeqAt
open AutoSeq1 (wpAny_loadPart')
open MeetsSeq MeetsSeq2 MeetsSeq3 SeqRoads2 GQ
section
variable {prog : Program} {w : World} {A : Around} {R : Result → Shared → Prop}
/-- each turn finds both lists as they are, and the two items equal -/
structure Turns (prog : Program) (w : World) (A : Around) (E : Value → Shared → Prop) (a b : Addr) (N : Nat) (I : Nat → Shared → Prop) : Prop where
  at_ : ∀ i s, I i s → ∃ (xs ys : Array Value) (n m : Nat), s.heap.get? a = some { cls := .type "list", data := .seq xs n } ∧ s.heap.get? b = some { cls := .type "list", data := .seq ys m } ∧ xs.size = N ∧ ys.size = N ∧
    ∀ (h1 : i < xs.size) (h2 : i < ys.size), wpAny (model prog w) A.in1 (eqBool xs[i] ys[i]) (fun r s' => r = true ∧ I (i + 1) s') E s
theorem ne_loop {a b : Addr} {N : Nat} {I : Nat → Shared → Prop} (T : Turns prog w A (fun e s' => R (.error e) s') a b N I) (fin : ∀ s, I N s → R (.ok (.ret (.bool false))) s) :
    ∀ (k i : Nat), i + k = N → ∀ s, I i s → wpAny (model prog w) A.in1 (Builtin.«list.__eq__.loop» ⟨[.ref a, .ref b, rawInt i, rawInt 3], []⟩) (FinOf prog w A R) (fun e s' => R (.error e) s') s
  | 0, i, hk, s, h => by
    obtain ⟨xs, ys, n, m, ga, gb, zx, zy, _⟩ := T.at_ _ _ h
    have q : R (.ok (.ret (.bool false))) s := fin s (by rw [← hk, Nat.add_zero]; exact h)
    have ox : xs[((i : Nat) : Int).toNat]? = none := by simp; omega
    have oy : ys[((i : Nat) : Int).toNat]? = none := by simp; omega
    obtain ⟨hp, g, d, tk, os⟩ := s
    wp_walk using wpAny_loadPart' ga, wpAny_loadPart' gb
    rw [ox, oy]
    wp_walk using wpAny_loadPart' ga, wpAny_loadPart' gb
    show R (.ok (.ret (.bool (xs.size != ys.size)))) _
    rw [zx, zy]
    simpa using q
  | k + 1, i, hk, s, h => by
    obtain ⟨xs, ys, n, m, ga, gb, zx, zy, turn⟩ := T.at_ _ _ h
    have lx : i < xs.size := by omega
    have ly : i < ys.size := by omega
    have t := turn lx ly
    have ox : xs[((i : Nat) : Int).toNat]? = some xs[i] := by simp [lx]
    have oy : ys[((i : Nat) : Int).toNat]? = some ys[i] := by simp [ly]
    have up : ((i : Int) + 1) = ((i + 1 : Nat) : Int) := by omega
    obtain ⟨hp, g, d, tk, os⟩ := s
    wp_walk using wpAny_loadPart' ga, wpAny_loadPart' gb
    rw [ox, oy]
    refine wpAny_bind (wpAny_mono t (fun r s2 q => ?_) fun _ _ x => x)
    obtain ⟨rfl, q⟩ := q
    have rec_ := ne_loop T fin k (i + 1) (by omega) s2 q
    obtain ⟨hp2, g2, d2, tk2, os2⟩ := s2
    wp_walk
    rw [up]
    exact ⟨plainId_quiet plain_eq_loop _, codeAny_builtin entry_eq_loop (by rw [Around.under_plainId plain_eq_loop _]; exact rec_)⟩
theorem list_ne {a b : Addr} {N : Nat} {I : Nat → Shared → Prop} (T : Turns prog w A (fun e s' => R (.error e) s') a b N I) (fin : ∀ s, I N s → R (.ok (.ret (.bool false))) s) {s : Shared} (h : I 0 s) :
    wpAny (model prog w) A.in1 (Builtin.«list.__ne__» ⟨[.ref a, .ref b], []⟩) (FinOf prog w A R) (fun e s' => R (.error e) s') s := by
  obtain ⟨xs, ys, n, m, ga, gb, zx, zy, _⟩ := T.at_ _ _ h
  have loop := ne_loop (A := A) (R := R) T fin N 0 (Nat.zero_add _) s h
  have sub := AutoSeq1.sub_list_list
  have ne : ¬ (xs.size != ys.size) = true := by simp [zx, zy]
  obtain ⟨hp, g, d, tk, os⟩ := s
  wp_walk using wpAny_loadPart' ga, wpAny_loadPart' gb
  exact ⟨plainId_quiet plain_eq_loop _, codeAny_builtin entry_eq_loop (by rw [Around.under_plainId plain_eq_loop _]; exact loop)⟩
theorem tup_ne {a b : Addr} {xs ys : Array Value} {n m : Nat} {da db : Option Addr} {sa sb : Array (Option Value)} (zsz : xs.size = ys.size) (I : Nat → Shared → Prop)
    (turn : ∀ i (h1 : i < xs.size) (h2 : i < ys.size) s, I i s → wpAny (model prog w) A.in1 (eqBool xs[i] ys[i]) (fun r s' => r = true ∧ I (i + 1) s') (fun e s' => R (.error e) s') s)
    (fin : ∀ s, I xs.size s → R (.ok (.ret (.bool false))) s) {s : Shared} (ga : s.heap.get? a = some { cls := .type "tuple", dict := da, data := .seq xs n, slots := sa }) (gb : s.heap.get? b = some { cls := .type "tuple", dict := db, data := .seq ys m, slots := sb }) (h : I 0 s) :
    wpAny (model prog w) A.in1 (Builtin.«tuple.__ne__» ⟨[.ref a, .ref b], []⟩) (FinOf prog w A R) (fun e s' => R (.error e) s') s := by
  have sub := AutoSeq1.sub_tuple_tuple
  have zl : (xs.toList.zip ys.toList).length = xs.size := by simp [zsz]
  obtain ⟨hp, g, d, tk, os⟩ := s
  wp_walk using wpAny_loadPart' ga, wpAny_loadPart' gb, wpAny_forIn_list _ (fun rest b s' => b.1 = none ∧ ∃ i, rest = (xs.toList.zip ys.toList).drop i ∧ i ≤ xs.size ∧ I i s') _
  case turn =>
    rintro ⟨y, x⟩ rest b s' ⟨nb, i, er, le, hI⟩
    have lt : i < xs.size := by
      refine Nat.lt_of_not_le fun ge => ?_
      rw [List.drop_of_length_le (by omega)] at er
      cases er
    have lt2 : i < ys.size := zsz ▸ lt
    rw [List.drop_eq_getElem_cons (by omega)] at er
    obtain ⟨exy, er2⟩ := List.cons.inj er
    have ey : y = xs[i] := by simpa using congrArg Prod.fst exy
    have ex : x = ys[i] := by simpa using congrArg Prod.snd exy
    subst ey ex
    refine wpAny_bind (wpAny_mono (turn i lt lt2 s' hI) (fun r s2 q => ?_) fun _ _ x => x)
    obtain ⟨rfl, q⟩ := q
    wp_walk
    exact ⟨rfl, i + 1, er2, lt, q⟩
  case fin =>
    rintro ⟨b1, b2⟩ s' ⟨nb, i, er, le, hI⟩
    simp only at nb
    subst nb
    have ge : xs.size ≤ i := by
      refine Nat.le_of_not_lt fun lt => ?_
      rw [List.drop_eq_getElem_cons (by omega)] at er
      cases er
    have q : R (.ok (.ret (.bool false))) s' := fin s' ((Nat.le_antisymm le ge) ▸ hI)
    wp_walk
    simpa [Builtin.Tuple.tupleCompareSizes, zsz] using q
  case h => exact ⟨rfl, 0, rfl, Nat.zero_le _, h⟩
end
section
variable {prog : Program} {w : World} {A : Around} {E : Value → Shared → Prop} {s : Shared}
theorem rc_list {a b : Addr} {N : Nat} {Q : Value → Shared → Prop} (hu : A.units < cLine) (I : Nat → Shared → Prop) (T : Turns prog w A E a b N I)
    (fin : ∀ s, I N s → Q (.bool false) s) (h : I 0 s) : wpAny (model prog w) A (richCompare .NotEq (.ref a) (.ref b)) Q E s := by
  obtain ⟨xs, ys, n, m, ga, gb, _, _, _⟩ := T.at_ _ _ h
  refine wpAny_richCompare_same_room (op := .NotEq) ⟨_, ga, rfl⟩ ⟨_, gb, rfl⟩ F.slot_list_ne (call_here F.slot_list_ne ⟨_, ga, rfl⟩ F.entry_list_ne (F.args_list_ne_2 _ _) ?_) hu
  exact list_ne (R := wants (fun v s' => v ≠ .notImplemented ∧ Q v s') E) T (fun s' q => ⟨(fun x => nomatch x), fin s' q⟩) h
theorem rc_tup {a b : Addr} {xs ys : Array Value} {Q : Value → Shared → Prop} (zsz : xs.size = ys.size) (hu : A.units < cLine) (I : Nat → Shared → Prop)
    (ha : s.heap.IsTuple a xs) (hb : s.heap.IsTuple b ys)
    (turn : ∀ i (h1 : i < xs.size) (h2 : i < ys.size) s, I i s → wpAny (model prog w) A.in1 (eqBool xs[i] ys[i]) (fun r s' => r = true ∧ I (i + 1) s') E s)
    (fin : ∀ s, I xs.size s → Q (.bool false) s) (h : I 0 s) : wpAny (model prog w) A (richCompare .NotEq (.ref a) (.ref b)) Q E s := by
  obtain ⟨⟨ca, da, ta, sa⟩, ga, ea, n, ra⟩ := ha
  obtain ⟨⟨cb, db, tb, sb⟩, gb, eb, m, rb⟩ := hb
  simp only at ea ra eb rb
  subst ea ra eb rb
  refine wpAny_richCompare_same_room (op := .NotEq) ⟨_, ga, rfl⟩ ⟨_, gb, rfl⟩ F.slot_tuple_ne (call_here F.slot_tuple_ne ⟨_, ga, rfl⟩ F.entry_tuple_ne (F.args_tuple_ne_2 _ _) ?_) hu
  exact tup_ne (R := wants (fun v s' => v ≠ .notImplemented ∧ Q v s') E) zsz I turn (fun s' q => ⟨(fun x => nomatch x), fin s' q⟩) ga gb h
end
end TsN

namespace TsN
open PySem PySem.Spec PyProof.Rows L2 TsO
section
variable {X : Cx} {CX : CXT} {n : Nat} {sp : Sp} {E : XK} {D : Eqv}
/-- instances with their own ==, by any reading of it that ends in True -/
def DOwn (K : PySem.W.Frag) (f : Addr) (sp : Sp) (E : XK) : Eqv := fun x y H => ∃ a C dx fs b C' dy gs, x = .ref a ∧ y = .ref b ∧ H a = some (.ins C dx fs) ∧ H b = some (.ins C' dy gs) ∧ EqC K C f ∧ PySem.W.notFirst K C (.ref C') = true ∧
  sp [x, y] H (fun z H' => z = .bl true ∧ Ext H H') E
theorem rc_own {f : Addr} (F : FnR X.prog X.w X.K X.mg X.base CX n f sp) (hx : Passes CX X E) : RcG X n (DOwn X.K f sp E) := by
  intro A pins s σ H x y u v sb I rx ry d
  obtain ⟨a, C, dx, fs, b, C', dy, gs, rfl, rfl, ha, hb, hc, hn, q⟩ := d
  cases rx
  cases ry
  obtain ⟨mA, J, _⟩ := ins_get I.hok ha
  obtain ⟨mB, J', _⟩ := ins_get I.hok hb
  obtain ⟨od, J, _⟩ := J.look
  obtain ⟨od', J', _⟩ := J'.look
  obtain ⟨m, hF⟩ := I.fr
  have e0 : Env0 X.prog X.w X.K X.mg X.base A X.stack s H := by
    have e := I.env0
    exact ⟨by rw [sb.fr]; exact e.frames, e.mod, e.bs, e.bsz, e.funs, e.frf, e.hok, e.bare⟩
  refine PySem.W.cmp_K (op := .Eq) (tb := .ref C') sb.room.units0 hF I.ok.mod.kin J J'.type hn hc.eq hc.fn ?_
  refine wpAny_mono (run_in (us := [.ref a, .ref b]) (ws := [.ref a, .ref b]) F sb.room e0 hx I (.cons rfl (.cons rfl .nil)) q) (fun w s' z => ?_) fun _ _ x => x
  obtain ⟨z', H', I', rz, e, ex⟩ := z
  subst e
  cases (show w = Value.bool true from rz)
  exact ⟨rfl, H', I', ex⟩
/-- x != y, two lists or two tuples whose items are all equal -/
def rNeG (K : PySem.W.Frag) (D : Eqv) : R2 := fun x y H Q => (DList D x y H ∨ DTup K D x y H) ∧ ∀ H', Ext H H' → Q (.bl false) H'
theorem op_neG (hD : Mon D) (h : EqG X n D) (hr : Room (n + 1) X.A) : OpR X (compareOp .NotEq) (rNeG X.K D) := by
  intro pins s σ H x y v u Q I rx ry hq
  obtain ⟨d, q⟩ := hq
  have sb : Sub X (n + 1) X.A := ⟨hr, rfl⟩
  show wpAny (model X.prog X.w) X.A (richCompare .NotEq v u) (EP X pins σ Q) X.xe s
  rcases d with d | d
  · obtain ⟨a, b, xs, ys, rfl, rfl, ha, hb, p⟩ := d
    cases rx
    cases ry
    refine rc_list (N := xs.length) hr.units0 (fun _ s' => LoopI X pins σ H s') ⟨fun i s' l => ?_⟩ (fun s' l => ?_) ⟨H, I, Ext.rfl'⟩
    · obtain ⟨H1, I1, e1⟩ := id l
      obtain ⟨_, us, k, r, e⟩ := I1.hok a _ (e1 _ _ ha)
      obtain ⟨_, ws, k2, r2, e2⟩ := I1.hok b _ (e1 _ _ hb)
      exact ⟨us.toArray, ws.toArray, k, k2, e, e2, by rw [List.size_toArray, ← r.length], by rw [List.size_toArray, ← r2.length, ← p.1], fun h1 h2 => turnG hD h sb p r r2 i h1 h2 s' l⟩
    · obtain ⟨H1, I1, e1⟩ := l
      exact ⟨.bl false, H1, I1, rfl, q H1 e1⟩
  · obtain ⟨a, b, xs, ys, rfl, rfl, ha, hb, p⟩ := d
    cases rx
    cases ry
    obtain ⟨us, r, e, _⟩ := I.tuple ha
    obtain ⟨ws, r2, e2, _⟩ := I.tuple hb
    refine rc_tup (by rw [List.size_toArray, List.size_toArray, ← r.length, ← r2.length]; exact p.1) hr.units0 (fun _ s' => LoopI X pins σ H s') e e2 (fun i h1 h2 s' l => turnG hD h sb p r r2 i h1 h2 s' l) (fun s' l => ?_) ⟨H, I, Ext.rfl'⟩
    obtain ⟨H1, I1, e1⟩ := l
    exact ⟨.bl false, H1, I1, rfl, q H1 e1⟩
end
end TsN
namespace Tv
open PySem L2 ClX PyProof.Rows
/-! ### equal trees, by the own == of the classes within -/
def eqOwn (ownF : Nat → Bool) (l : TbO) (t u : T) : Bool := match clsT [] t, clsT [] u with
  | some c, some d => ownF d && pureT t && pureT u && (match l.at_ c with
    | some m => (match m [t, u] [] with
      | some (.ok (.bl true), _) => true
      | _ => false)
    | none => false)
  | none, none => flatT t && T.beq t u
  | _, _ => false
def eqDN (ownF : Nat → Bool) (l : TbO) : Nat → T → T → Bool
  | 0, t, u => eqOwn ownF l t u
  | n + 1, t, u => match t, u with
    | .tup ts, .tup us => ts.length == us.length && (ts.zip us).all fun p => eqDN ownF l n p.1 p.2
    | .lst ts, .lst us => ts.length == us.length && (ts.zip us).all fun p => eqDN ownF l n p.1 p.2
    | t, u => eqOwn ownF l t u
/-- != and == of two tuples, two lists -/
def nePO (ownF : Nat → Bool) (l : TbO) (n : Nat) (t u : T) : M T := fun cs => match t, u with
  | .tup ts, .tup us => if (pureL ts && pureL us && eqDN ownF l n t u) = true then some (.ok (.bl false), cs) else neO ownF l t u cs
  | .lst ts, .lst us => if (pureL ts && pureL us && eqDN ownF l n t u) = true then some (.ok (.bl false), cs) else neO ownF l t u cs
  | t, u => neO ownF l t u cs
def eqPO (ownF : Nat → Bool) (l : TbO) (n : Nat) (t u : T) : M T := fun cs => match t, u with
  | .tup ts, .tup us => if (pureL ts && pureL us && eqDN ownF l n t u) = true then some (.ok (.bl true), cs) else eqO ownF l t u cs
  | .lst ts, .lst us => if (pureL ts && pureL us && eqDN ownF l n t u) = true then some (.ok (.bl true), cs) else eqO ownF l t u cs
  | t, u => eqO ownF l t u cs
section
variable {B : Book} {G : Hp} {X : Cx} {W : XK} {ownF : Nat → Bool} {l : TbO} {n : Nat}
/-- what the tree's test says of the heap -/
def DN (B : Book) (ownF : Nat → Bool) (l : TbO) (k : Nat) : Eqv := fun x y H => ∃ t u, Rep B H [] x t ∧ Rep B H [] y u ∧ eqDN ownF l k t u = true
theorem mon_DN (k : Nat) : Mon (DN B ownF l k) := fun x y H H' e ⟨t, u, r1, r2, h⟩ => ⟨t, u, r1.mono (fun a o q => e a o q) (List.prefix_refl _), r2.mono (fun a o q => e a o q) (List.prefix_refl _), h⟩
theorem prs_of {H : Hp} {k : Nat} : ∀ {xs ys : List V} {ts us : List T}, RepL B H [] xs ts → RepL B H [] ys us → ts.length = us.length → ((ts.zip us).all fun p => eqDN ownF l k p.1 p.2) = true → Prs (DN B ownF l k) xs ys H
  | _, _, _, _, .nil, .nil, _, _ => Prs.nil
  | _, _, _, _, .nil, .cons _ _, h, _ => by cases h
  | _, _, _, _, .cons _ _, .nil, h, _ => by cases h
  | _, _, _, _, .cons r rr, .cons r2 rr2, h, a => by
    rw [List.zip_cons_cons, List.all_cons] at a
    obtain ⟨a1, a2⟩ := Bool.and_eq_true_iff.mp a
    exact Prs.cons ⟨_, _, r, r2, a1⟩ (prs_of rr rr2 (Nat.succ.inj h) a2)
theorem eqV_refl (v : V) (h : flatV v = true) : eqV v v = true := by
  cases v with
  | non => rfl
  | bl b => exact beq_self_eq_true b
  | int b => exact beq_self_eq_true b
  | str b => exact beq_self_eq_true b
  | _ => cases h
theorem g_own (hl : EqTb B X n ownF l) (hx : Passes (L2.CX X.prog X.w) X W) : EqG X n (fun x y H => ∃ t u, Rep B H [] x t ∧ Rep B H [] y u ∧ eqOwn ownF l t u = true) := by
  intro A pins s σ H x y u v sb I rx ry d
  obtain ⟨t, w, r1, r2, h⟩ := d
  unfold eqOwn at h
  have hs : Hs B (fun _ => none) H H [] [] := Hs.all H
  cases e1 : clsT [] t with
  | none =>
    cases e2 : clsT [] w with
    | some d => simp only [e1, e2] at h; cases h
    | none =>
      simp only [e1, e2] at h
      obtain ⟨h1, h2⟩ := Bool.and_eq_true_iff.mp h
      have e := T.of_beq t w h2
      subst e
      obtain ⟨ex, fx⟩ := flat_at r1 h1
      obtain ⟨ey, fy⟩ := flat_at r2 h1
      exact eqG_flat.mono (Nat.zero_le n) A pins s σ H x y u v sb I rx ry ⟨fx, fy, by rw [ex, ey]; exact eqV_refl _ (by rw [← ex]; exact fx)⟩
  | some c =>
    cases e2 : clsT [] w with
    | none => simp only [e1, e2] at h; cases h
    | some d =>
      simp only [e1, e2] at h
      obtain ⟨h, h4⟩ := Bool.and_eq_true_iff.mp h
      obtain ⟨h, h3⟩ := Bool.and_eq_true_iff.mp h
      obtain ⟨h1, h2⟩ := Bool.and_eq_true_iff.mp h
      cases e3 : l.at_ c with
      | none => simp only [e3] at h4; cases h4
      | some m =>
        simp only [e3] at h4
        obtain ⟨⟨f, Ff, hc⟩, nf, ty⟩ := hl (c, m) (TbO.mem e3)
        obtain ⟨a, dx, fs, rfl, ha⟩ := cls_at r1 hs e1
        obtain ⟨b, dy, gs, rfl, hb⟩ := cls_at r2 hs e2
        refine RcG.eqG (TsN.rc_own (E := W) Ff hx) (fun x y H d => ?_) A pins s σ H _ _ u v sb I rx ry ⟨a, _, dx, fs, b, _, dy, gs, rfl, rfl, ha, hb, hc, nf (.obj d) (fun e he => by cases he; exact h1), ?_⟩
        · obtain ⟨a, _, _, _, b, _, _, _, rfl, rfl, _⟩ := d
          exact ⟨a, b, rfl, rfl⟩
        · cases e4 : m [t, w] [] with
          | none => rw [e4] at h4; cases h4
          | some p =>
            obtain ⟨o4, cs4⟩ := p
            rw [e4] at h4
            cases o4 with
            | ex c' x' => cases h4
            | ok z =>
              cases z with
              | bl k =>
                cases k with
                | false => cases h4
                | true =>
                  refine ⟨_, H, [], [], [t, w], _, _, Hs.all H, .cons r1 (.cons r2 .nil), e4, fun v' H' F' α' ee ss rr => ?_⟩
                  cases rr
                  exact ⟨rfl, fun a o q => (ee.s.trans ss.same) a o q⟩
              | _ => cases h4
theorem g_DN (hl : EqTb B X n ownF l) (hx : Passes (L2.CX X.prog X.w) X W) (hK : X.K = B.K) : ∀ k, EqG X (n + k) (DN B ownF l k)
  | 0 => fun A pins s σ H x y u v sb I rx ry d => g_own hl hx A pins s σ H x y u v sb I rx ry d
  | k + 1 => fun A pins s σ H x y u v sb I rx ry d => by
    obtain ⟨t, w, r1, r2, h⟩ := d
    have own : eqOwn ownF l t w = true → wpAny (model X.prog X.w) A (eqBool u v) (fun r s' => r = true ∧ ∃ H', Inv X pins σ H' s' ∧ L2.Ext H H') X.xe s :=
      fun h => (g_own hl hx).mono (Nat.le_add_right n (k + 1)) A pins s σ H x y u v sb I rx ry ⟨t, w, r1, r2, h⟩
    have ih := g_DN hl hx hK k
    cases r1 with
    | @tup a xs ts hq hr =>
      cases r2 with
      | @tup b ys us hq2 hr2 =>
        have h : (ts.length == us.length && (ts.zip us).all fun p => eqDN ownF l k p.1 p.2) = true := h
        obtain ⟨h1, h2⟩ := Bool.and_eq_true_iff.mp h
        exact eqG_tup (mon_DN k) ih A pins s σ H _ _ u v sb I rx ry ⟨a, b, xs, ys, rfl, rfl, by rw [hK]; exact hq, by rw [hK]; exact hq2, prs_of hr hr2 (beq_iff_eq.mp h1) h2⟩
      | _ => exact own h
    | @lst a xs ts hq hr =>
      cases r2 with
      | @lst b ys us hq2 hr2 =>
        have h : (ts.length == us.length && (ts.zip us).all fun p => eqDN ownF l k p.1 p.2) = true := h
        obtain ⟨h1, h2⟩ := Bool.and_eq_true_iff.mp h
        exact eqG_list (mon_DN k) ih A pins s σ H _ _ u v sb I rx ry ⟨a, b, xs, ys, rfl, rfl, hq, hq2, prs_of hr hr2 (beq_iff_eq.mp h1) h2⟩
      | _ => exact own h
    | _ => exact own h
theorem o_nePO (hK : X.K = B.K) (hu : X.A.units + 64 < cLine) (hl : EqTb B X n ownF l) {k : Nat} (hr : Room (n + k + 1) X.A) (hx : Passes (L2.CX X.prog X.w) X W) : SimO B G X W (compareOp .NotEq) (nePO ownF l (k + 1)) := by
  intro H F α cs x y t u o cs' rx ry hs hm Q q
  have fall : neO ownF l t u cs = some (o, cs') → uOp X (compareOp .NotEq) x y H Q := fun h => o_neO hK hu hl (hr.mono (by omega)) hx H F α cs x y t u o cs' rx ry hs h Q q
  have ret : ∀ {a b : Addr}, (DList (DN B ownF l k) x y H ∨ DTup X.K (DN B ownF l k) x y H) → some (Out.ok (T.bl false), cs) = some (o, cs') → uOp X (compareOp .NotEq) x y H Q := fun d e => by
    cases e
    exact ⟨_, TsN.op_neG (mon_DN k) (g_DN hl hx hK k) hr, d, fun H' e => q _ H' F α (Ext.refl _ _) (hs.grow e) (.bl false)⟩
  cases rx with
  | @tup a xs ts hq hr1 =>
    cases ry with
    | @tup b ys us hq2 hr2 =>
      have hm : (if (pureL ts && pureL us && eqDN ownF l (k + 1) (.tup ts) (.tup us)) = true then some (Out.ok (T.bl false), cs) else neO ownF l (.tup ts) (.tup us) cs) = some (o, cs') := hm
      by_cases e : (pureL ts && pureL us && eqDN ownF l (k + 1) (.tup ts) (.tup us)) = true
      · rw [if_pos e] at hm
        obtain ⟨h0, h⟩ := Bool.and_eq_true_iff.mp e
        obtain ⟨p1, p2⟩ := Bool.and_eq_true_iff.mp h0
        have h : (ts.length == us.length && (ts.zip us).all fun p => eqDN ownF l k p.1 p.2) = true := h
        obtain ⟨h1, h2⟩ := Bool.and_eq_true_iff.mp h
        exact ret (a := a) (b := b) (.inr ⟨a, b, xs, ys, rfl, rfl, by rw [hK]; exact Ts.Same.sqt hs.same hq, by rw [hK]; exact Ts.Same.sqt hs.same hq2, prs_of (hr1.pure hs.same p1) (hr2.pure hs.same p2) (beq_iff_eq.mp h1) h2⟩) hm
      · rw [if_neg e] at hm
        exact fall hm
    | _ => exact fall hm
  | @lst a xs ts hq hr1 =>
    cases ry with
    | @lst b ys us hq2 hr2 =>
      have hm : (if (pureL ts && pureL us && eqDN ownF l (k + 1) (.lst ts) (.lst us)) = true then some (Out.ok (T.bl false), cs) else neO ownF l (.lst ts) (.lst us) cs) = some (o, cs') := hm
      by_cases e : (pureL ts && pureL us && eqDN ownF l (k + 1) (.lst ts) (.lst us)) = true
      · rw [if_pos e] at hm
        obtain ⟨h0, h⟩ := Bool.and_eq_true_iff.mp e
        obtain ⟨p1, p2⟩ := Bool.and_eq_true_iff.mp h0
        have h : (ts.length == us.length && (ts.zip us).all fun p => eqDN ownF l k p.1 p.2) = true := h
        obtain ⟨h1, h2⟩ := Bool.and_eq_true_iff.mp h
        exact ret (a := a) (b := b) (.inl ⟨a, b, xs, ys, rfl, rfl, hs.same _ _ hq, hs.same _ _ hq2, prs_of (hr1.pure hs.same p1) (hr2.pure hs.same p2) (beq_iff_eq.mp h1) h2⟩) hm
      · rw [if_neg e] at hm
        exact fall hm
    | _ => exact fall hm
  | _ => exact fall hm
theorem o_eqPO (hK : X.K = B.K) (hu : X.A.units + 64 < cLine) (hl : EqTb B X n ownF l) {k : Nat} (hr : Room (n + k + 1) X.A) (hx : Passes (L2.CX X.prog X.w) X W) : SimO B G X W (compareOp .Eq) (eqPO ownF l (k + 1)) := by
  intro H F α cs x y t u o cs' rx ry hs hm Q q
  have fall : eqO ownF l t u cs = some (o, cs') → uOp X (compareOp .Eq) x y H Q := fun h => o_eqO hK hu hl (hr.mono (by omega)) hx H F α cs x y t u o cs' rx ry hs h Q q
  have ret : ∀ {D : Eqv}, RcG X (n + k + 1) D → D x y H → some (Out.ok (T.bl true), cs) = some (o, cs') → uOp X (compareOp .Eq) x y H Q := fun rc d e => by
    cases e
    exact ⟨_, op_eqG rc hr, d, fun H' e => q _ H' F α (Ext.refl _ _) (hs.grow e) (.bl true)⟩
  cases rx with
  | @tup a xs ts hq hr1 =>
    cases ry with
    | @tup b ys us hq2 hr2 =>
      have hm : (if (pureL ts && pureL us && eqDN ownF l (k + 1) (.tup ts) (.tup us)) = true then some (Out.ok (T.bl true), cs) else eqO ownF l (.tup ts) (.tup us) cs) = some (o, cs') := hm
      by_cases e : (pureL ts && pureL us && eqDN ownF l (k + 1) (.tup ts) (.tup us)) = true
      · rw [if_pos e] at hm
        obtain ⟨h0, h⟩ := Bool.and_eq_true_iff.mp e
        obtain ⟨p1, p2⟩ := Bool.and_eq_true_iff.mp h0
        have h : (ts.length == us.length && (ts.zip us).all fun p => eqDN ownF l k p.1 p.2) = true := h
        obtain ⟨h1, h2⟩ := Bool.and_eq_true_iff.mp h
        exact ret (rcG_tup (mon_DN k) (g_DN hl hx hK k)) ⟨a, b, xs, ys, rfl, rfl, by rw [hK]; exact Ts.Same.sqt hs.same hq, by rw [hK]; exact Ts.Same.sqt hs.same hq2, prs_of (hr1.pure hs.same p1) (hr2.pure hs.same p2) (beq_iff_eq.mp h1) h2⟩ hm
      · rw [if_neg e] at hm
        exact fall hm
    | _ => exact fall hm
  | @lst a xs ts hq hr1 =>
    cases ry with
    | @lst b ys us hq2 hr2 =>
      have hm : (if (pureL ts && pureL us && eqDN ownF l (k + 1) (.lst ts) (.lst us)) = true then some (Out.ok (T.bl true), cs) else eqO ownF l (.lst ts) (.lst us) cs) = some (o, cs') := hm
      by_cases e : (pureL ts && pureL us && eqDN ownF l (k + 1) (.lst ts) (.lst us)) = true
      · rw [if_pos e] at hm
        obtain ⟨h0, h⟩ := Bool.and_eq_true_iff.mp e
        obtain ⟨p1, p2⟩ := Bool.and_eq_true_iff.mp h0
        have h : (ts.length == us.length && (ts.zip us).all fun p => eqDN ownF l k p.1 p.2) = true := h
        obtain ⟨h1, h2⟩ := Bool.and_eq_true_iff.mp h
        exact ret (rcG_list (mon_DN k) (g_DN hl hx hK k)) ⟨a, b, xs, ys, rfl, rfl, hs.same _ _ hq, hs.same _ _ hq2, prs_of (hr1.pure hs.same p1) (hr2.pure hs.same p2) (beq_iff_eq.mp h1) h2⟩ hm
      · rw [if_neg e] at hm
        exact fall hm
    | _ => exact fall hm
  | _ => exact fall hm
end
end Tv

set_option linter.unusedVariables false
namespace Tv
open PySem L2
/-! ### sequences as arguments -/
structure SqA (cs : Cs) (t : T) (us : List T) : Prop where
  sq : seqOf cs t = some us
  ki : kiT cs t = some .lst ∨ kiT cs t = some .tup
  it : ∃ ck, itT cs t = some (us, ck) ∧ ck cs = true
  ns : ∀ z, t ≠ .str z
  ro : ∀ z, t ≠ .ro z
theorem SqA.lst {cs : Cs} {us : List T} : SqA cs (.lst us) us := ⟨rfl, .inl rfl, ⟨_, rfl, rfl⟩, (fun z e => by cases e), (fun z e => by cases e)⟩
theorem SqA.tup {cs : Cs} {us : List T} : SqA cs (.tup us) us := ⟨rfl, .inr rfl, ⟨_, rfl, rfl⟩, (fun z e => by cases e), (fun z e => by cases e)⟩
theorem ckOwn_refl {cs : Cs} {k : Nat} {us : List T} (h : cs[k]? = some (.lst us)) : ckOwn k us cs = true := by
  unfold ckOwn
  rw [h]
  exact beqL_refl us
theorem SqA.own {cs : Cs} {k : Nat} {us : List T} (h : cs[k]? = some (.lst us)) : SqA cs (.own k) us := by
  refine ⟨seq_own h, .inl ?_, ⟨_, ?_, ckOwn_refl h⟩, (fun z e => by cases e), (fun z e => by cases e)⟩
  · show kiT cs (.own k) = _
    unfold kiT
    simp only [h]
  · show itT cs (.own k) = _
    unfold itT
    simp only [h]
theorem SqA.of_own {cs : Cs} {k : Nat} {us : List T} (h : SqA cs (.own k) us) : cs[k]? = some (.lst us) := by
  have h1 : lstOf cs (.own k) = some us := h.sq
  unfold lstOf at h1
  cases e : cs[k]? with
  | none => simp only [e] at h1; cases h1
  | some c =>
    simp only [e] at h1
    cases c with
    | lst ws => cases h1; rfl
    | _ => cases h1
theorem SqA.cases {cs : Cs} {t : T} {us : List T} (h : SqA cs t us) : t = .lst us ∨ t = .tup us ∨ ∃ k, t = .own k ∧ cs[k]? = some (.lst us) := by
  cases t with
  | lst ws => left; have : some ws = some us := h.sq; cases this; rfl
  | tup ws => right; left; have : some ws = some us := h.sq; cases this; rfl
  | own k => exact .inr (.inr ⟨k, rfl, h.of_own⟩)
  | ro ws => exact absurd rfl (h.ro ws)
  | _ => have := h.sq; cases this
theorem SqA.set {cs : Cs} {t : T} {us : List T} {j c : Nat} {fs : List T} {d : Cell} (h : SqA cs t us) (hj : cs[j]? = some (.obj c fs)) : SqA (cs.set j d) t us := by
  rcases h.cases with rfl | rfl | ⟨k, rfl, e⟩
  · exact .lst
  · exact .tup
  · exact .own (get_ne e fun z => by rw [z, e] at hj; cases hj)
theorem SqA.app {cs l : Cs} {t : T} {us : List T} (h : SqA cs t us) : SqA (cs ++ l) t us := by
  rcases h.cases with rfl | rfl | ⟨k, rfl, e⟩
  · exact .lst
  · exact .tup
  · exact .own (get_app e)
section
variable {cs : Cs} {env : Env} {Q : T → Cs → Prop}
theorem ev_lenSet {m : ME} : EV (mLenSet m env) cs Q ↔ EV (m env) cs fun t cs => EV (lenSetM t) cs Q := by
  unfold mLenSet
  rw [ev_bind]
theorem ev_lenSetI {t : T} {ns : List Int} (h : seqOf cs t = some (ns.map T.int)) (hl : ns.length ≤ 1000) : EV (lenSetM t) cs Q ↔ Q (.int (Ts.uqs 0 ns : Nat)) cs := ev_some (by
  unfold lenSetM
  simp only [h, List.length_map, ints_map]
  rw [if_pos hl])
theorem ev_lenSetS {t : T} {ns : List Str} (h : seqOf cs t = some (ns.map T.str)) (hl : ns.length ≤ 1000) : EV (lenSetM t) cs Q ↔ Q (.int (Ts.uqs Str.empty ns : Nat)) cs := ev_some (by
  unfold lenSetM
  simp only [h, List.length_map]
  rw [if_pos hl]
  cases ns with
  | nil => rfl
  | cons n ns =>
    have e : intsT ((n :: ns).map T.str) = none := rfl
    simp only [e, texts_map])
theorem ev_sorted {t : T} {ns : List Int} (h : seqOf cs t = some (ns.map T.int)) : EV (sortedC [t]) cs Q ↔ Q (.lst ((sortI ns).map T.int)) cs := ev_some (by
  unfold sortedC
  simp only [h, ints_map])
theorem ev_lstRg {m : ME} : EV (mLstRg m env) cs Q ↔ EV (m env) cs fun t cs => ∃ n, t = .int n ∧ (-(2 ^ 62) ≤ n ∧ n ≤ 2 ^ 24) ∧ Q (.lst ((List.range n.toNat).map fun (i : Nat) => .int i)) cs := by
  unfold mLstRg
  rw [ev_bind]
  refine ev_cong fun t cs => ⟨fun ⟨a, c, e, q⟩ => ?_, fun ⟨n, e, h, q⟩ => ⟨_, _, by subst e; exact if_pos h, q⟩⟩
  cases t with
  | int n =>
    have hz := if_some' e
    dsimp only at e
    rw [if_pos hz] at e
    cases e
    exact ⟨n, rfl, hz, q⟩
  | _ => cases e
theorem ev_enumS {k : Nat} {m : ME} {Q : Seq → Cs → Prop} : EV (mEnumS k m env) cs Q ↔ EV (m env) cs fun t cs => ∃ us, t = .lst us ∧ Q (fr (enumFrom k us)) cs := by
  unfold mEnumS
  rw [ev_bind]
  refine ev_cong fun t cs => ⟨fun ⟨a, c, e, q⟩ => ?_, fun ⟨us, e, q⟩ => ⟨_, _, by subst e; rfl, q⟩⟩
  cases t with
  | lst us => cases e; exact ⟨us, rfl, q⟩
  | _ => cases e
theorem sv_star {i j : Nat} {m : ME} {Q : Fl → Cs → Prop} (h : EV (m env) cs fun t cs => ∃ u us, lstOf cs t = some (u :: us) ∧ us.length < 16384 ∧ Q (.nx ((env.set i (some u)).set j (some (.lst us)))) cs) : SV (sStar i j m env) cs Q :=
  sv_go (h.mono fun t cs ⟨u, us, e, hl, q⟩ => ⟨_, cs, by simp only [e]; exact if_pos hl, q⟩)
theorem truBl {b : Bool} : truT cs (.bl b) = some b := rfl
theorem clsT_int {i : Int} : clsT cs (.int i) = none := rfl
theorem clsT_str {i : Str} : clsT cs (.str i) = none := rfl
theorem clsT_lst {i : List T} : clsT cs (.lst i) = none := rfl
theorem clsT_tup {i : List T} : clsT cs (.tup i) = none := rfl
theorem clsT_bl {i : Bool} : clsT cs (.bl i) = none := rfl
theorem clsT_non : clsT cs .non = none := rfl
theorem isNon_non : isNon .non = true := rfl
theorem isNon_int {i : Int} : isNon (.int i) = false := rfl
theorem isNon_obj {c : Nat} {fs : List T} : isNon (.obj c fs) = false := rfl
theorem isNon_tup {fs : List T} : isNon (.tup fs) = false := rfl
theorem isNon_str {x : Str} : isNon (.str x) = false := rfl
theorem eqInt_nat {a b : Nat} : decide ((a : Int) = (b : Int)) = decide (a = b) := decide_eq_decide.mpr (by omega)
theorem uqs_dec {α : Type} [DecidableEq α] (d : α) (ns : List α) : decide (((Ts.uqs d ns : Nat) : Int) = (ns.length : Int)) = decide ns.Nodup := by
  rw [eqInt_nat]
  exact decide_eq_decide.mpr (Ts.uqs_full d ns)
theorem itLst {us : List T} : itT cs (.lst us) = some (fr us) := rfl
theorem itTup {us : List T} : itT cs (.tup us) = some (fr us) := rfl
theorem seqOfLst {us : List T} : seqOf cs (.lst us) = some us := rfl
theorem seqOfTup {us : List T} : seqOf cs (.tup us) = some us := rfl
theorem tupLst {us : List T} : EV (tupC [.lst us]) cs Q ↔ Q (.tup us) cs := ev_tupC rfl
theorem tupTup {us : List T} : EV (tupC [.tup us]) cs Q ↔ Q (.tup us) cs := ev_tupC rfl
theorem lstLst {us : List T} : EV (listC [.lst us]) cs Q ↔ Q (.lst us) cs := ev_listC rfl
theorem lstTup {us : List T} : EV (listC [.tup us]) cs Q ↔ Q (.lst us) cs := ev_listC rfl
theorem lstOfLst {us : List T} : lstOf cs (.lst us) = some us := rfl
/-- a comprehension that makes something of each item in turn, new cells too -/
theorem lv_step {ck : Cs → Bool} {own : List Nat} {g : T → Env → Option Env} {me : ME} {Q : List T → Cs → Prop} {α : Type} (I : List T → List α → Cs → Prop) (f : α → T) (hc : ∀ acc xs cs, I acc xs cs → ck cs = true)
    (step : ∀ x acc xs cs, I acc (x :: xs) cs → ∃ env1, g (f x) (wipeE env own) = some env1 ∧ EV (me env1) cs fun u cs' => I (acc ++ [u]) xs cs') (fin : ∀ us cs, I us [] cs → Q us cs) :
    ∀ (xs : List α) (acc : List T) (cs : Cs), I acc xs cs → LV ck own g yesM me (xs.map f) env cs fun vs cs => Q (acc ++ vs) cs
  | [], acc, cs, hI => by
    unfold LV
    exact ⟨[], cs, by unfold lcL; exact if_pos (hc _ _ _ hI), by show Q (acc ++ []) cs; rw [List.append_nil]; exact fin acc cs hI⟩
  | x :: xs, acc, cs, hI => by
    obtain ⟨env1, e1, u, cs1, e2, h2⟩ := step x acc xs cs hI
    have ih := lv_step I f hc step fin xs (acc ++ [u]) cs1 h2
    unfold LV at ih ⊢
    obtain ⟨a, c, ea, qa⟩ := ih
    refine ⟨u :: a, c, ?_, by rw [List.append_assoc] at qa; exact qa⟩
    show lcL ck own g yesM me (f x :: xs.map f) env cs = _
    unfold lcL
    rw [if_pos (hc _ _ _ hI)]
    have e0 : yesM env1 cs = some (.ok true, cs) := rfl
    simp only [e1, e0, e2, ea]
theorem lv_step0 {ck : Cs → Bool} {own : List Nat} {g : T → Env → Option Env} {me : ME} {Q : List T → Cs → Prop} {α : Type} (I : List T → List α → Cs → Prop) (f : α → T) {xs : List α} (hI : I [] xs cs) (hc : ∀ acc xs cs, I acc xs cs → ck cs = true)
    (step : ∀ x acc xs cs, I acc (x :: xs) cs → ∃ env1, g (f x) (wipeE env own) = some env1 ∧ EV (me env1) cs fun u cs' => I (acc ++ [u]) xs cs') (fin : ∀ us cs, I us [] cs → Q us cs) : LV ck own g yesM me (xs.map f) env cs Q := by
  have := lv_step (env := env) (Q := Q) I f hc step fin xs [] cs hI
  simpa using this
end
end Tv
local macro_rules | `(tactic| fail "ev4") => `(tactic| simp (config := { failIfUnchanged := true }) only [Tv.ev_lenSet, Tv.ev_lstRg, Tv.truBl, Tv.isNon_non, Tv.isNon_int, Tv.isNon_obj, Tv.isNon_tup, Tv.isNon_str, Tv.itLst, Tv.itTup, Tv.seqOfLst, Tv.seqOfTup, Tv.lstOfLst, Tv.tupLst, Tv.tupTup, Tv.lstLst, Tv.lstTup, Tv.ev_enumS, Tv.wipeE, Option.some.injEq, exists_eq_left'])
local macro_rules | `(tactic| fail "sy") => `(tactic| repeat (first | fail "sv1" | refine Tv.sv_star ?_ | fail "ev1" | fail "ev2" | fail "ev3" | fail "ev4"))

set_option linter.unusedVariables false
namespace Tv
open PySem L2
/-! ### == of data, tree by tree -/
mutual
def eqvt : T → T → Bool
  | .non, .non => true
  | .bl a, .bl b => a == b
  | .bl a, .int j => (if a then 1 else 0) == j
  | .int i, .bl b => i == (if b then 1 else 0)
  | .int i, .int j => i == j
  | .str x, .str y => x == y
  | .lst xs, .lst ys => eqvtL xs ys
  | .tup xs, .tup ys => eqvtL xs ys
  | _, _ => false
def eqvtL : List T → List T → Bool
  | [], [] => true
  | x :: xs, y :: ys => eqvt x y && eqvtL xs ys
  | _, _ => false
end
/-! frozen data of depth k at most -/
mutual
def dk : Nat → T → Bool
  | _, .non => true
  | _, .bl _ => true
  | _, .int _ => true
  | _, .str x => PyData.strOk x
  | k + 1, .lst ts => dkL k ts
  | k + 1, .tup ts => dkL k ts
  | _, _ => false
def dkL : Nat → List T → Bool
  | _, [] => true
  | k, t :: ts => dk k t && dkL k ts
end
theorem dkL_all {k : Nat} : ∀ {ts : List T}, (∀ t ∈ ts, dk k t = true) → dkL k ts = true
  | [], _ => by unfold dkL; rfl
  | t :: ts, h => by
    unfold dkL
    rw [h t List.mem_cons_self, dkL_all fun u hu => h u (List.mem_cons_of_mem _ hu)]
    rfl
theorem dkL_at {k : Nat} : ∀ {ts : List T}, dkL k ts = true → ∀ t ∈ ts, dk k t = true
  | [], _, t, ht => by cases ht
  | u :: us, h, t, ht => by
    unfold dkL at h
    obtain ⟨h1, h2⟩ := Bool.and_eq_true_iff.mp h
    rcases List.mem_cons.mp ht with rfl | ht
    · exact h1
    · exact dkL_at h2 t ht
mutual
theorem dk_dat : ∀ (k : Nat) (t : T), dk k t = true → ∃ d, dat0 t = some d ∧ PyData.canLay0 d = true ∧ PyData.depth d ≤ k
  | k, .non, _ => ⟨_, rfl, rfl, Nat.zero_le _⟩
  | k, .bl b, _ => ⟨_, rfl, rfl, Nat.zero_le _⟩
  | k, .int i, _ => ⟨_, rfl, rfl, Nat.zero_le _⟩
  | k, .str x, h => ⟨_, rfl, by unfold dk at h; exact h, Nat.zero_le _⟩
  | 0, .lst ts, h => by unfold dk at h; cases h
  | 0, .tup ts, h => by unfold dk at h; cases h
  | k + 1, .lst ts, h => by
    obtain ⟨ds, e, a, b⟩ := dk_datL k ts (by unfold dk at h; exact h)
    exact ⟨.list ds, by unfold dat0; rw [e]; rfl, a, by rw [PyData.depth]; omega⟩
  | k + 1, .tup ts, h => by
    obtain ⟨ds, e, a, b⟩ := dk_datL k ts (by unfold dk at h; exact h)
    exact ⟨.tuple ds, by unfold dat0; rw [e]; rfl, a, by rw [PyData.depth]; omega⟩
  | k, .ro ts, h => by cases k <;> (unfold dk at h; cases h)
  | k, .obj c fs, h => by cases k <;> (unfold dk at h; cases h)
  | k, .own j, h => by cases k <;> (unfold dk at h; cases h)
  | k, .cls j, h => by cases k <;> (unfold dk at h; cases h)
theorem dk_datL : ∀ (k : Nat) (ts : List T), dkL k ts = true → ∃ ds, datL0 ts = some ds ∧ PyData.canLayAll0 ds = true ∧ PyData.depthAll ds ≤ k
  | k, [], _ => ⟨[], rfl, rfl, Nat.zero_le _⟩
  | k, t :: ts, h => by
    unfold dkL at h
    obtain ⟨h1, h2⟩ := Bool.and_eq_true_iff.mp h
    obtain ⟨d, e1, a1, b1⟩ := dk_dat k t h1
    obtain ⟨ds, e2, a2, b2⟩ := dk_datL k ts h2
    refine ⟨d :: ds, by unfold datL0; simp only [e1, e2], by rw [PyData.canLayAll0, a1, a2]; rfl, ?_⟩
    rw [PyData.depthAll]
    omega
end
theorem dk_cases {k : Nat} {t : T} {P : T → Prop} (h : dk k t = true) (h1 : P .non) (h2 : ∀ b, P (.bl b)) (h3 : ∀ i, P (.int i)) (h4 : ∀ x, P (.str x)) (h5 : ∀ j ts, k = j + 1 → dkL j ts = true → P (.lst ts)) (h6 : ∀ j ts, k = j + 1 → dkL j ts = true → P (.tup ts)) : P t := by
  cases t with
  | non => exact h1
  | bl b => exact h2 b
  | int i => exact h3 i
  | str x => exact h4 x
  | lst ts =>
    cases k with
    | zero => unfold dk at h; cases h
    | succ j => exact h5 j ts rfl (by unfold dk at h; exact h)
  | tup ts =>
    cases k with
    | zero => unfold dk at h; cases h
    | succ j => exact h6 j ts rfl (by unfold dk at h; exact h)
  | ro ts => cases k <;> (unfold dk at h; cases h)
  | obj c fs => cases k <;> (unfold dk at h; cases h)
  | own j => cases k <;> (unfold dk at h; cases h)
  | cls j => cases k <;> (unfold dk at h; cases h)
theorem dat_lst {ts : List T} {d : PyData} (h : dat0 (.lst ts) = some d) : ∃ ds, datL0 ts = some ds ∧ d = .list ds := by
  unfold dat0 at h
  cases e : datL0 ts with
  | none => rw [e] at h; cases h
  | some ds => rw [e] at h; cases h; exact ⟨ds, rfl, rfl⟩
theorem dat_tup {ts : List T} {d : PyData} (h : dat0 (.tup ts) = some d) : ∃ ds, datL0 ts = some ds ∧ d = .tuple ds := by
  unfold dat0 at h
  cases e : datL0 ts with
  | none => rw [e] at h; cases h
  | some ds => rw [e] at h; cases h; exact ⟨ds, rfl, rfl⟩
theorem eqvt_dat : ∀ (k l : Nat) (t u : T) (d e : PyData), dk k t = true → dk l u = true → dat0 t = some d → dat0 u = some e → PyData.eqv d e = eqvt t u := by
  intro k
  induction k with
  | zero =>
    intro l t u d e h g hd he
    refine dk_cases h (P := fun t => dat0 t = some d → PyData.eqv d e = eqvt t u) ?_ ?_ ?_ ?_ (fun _ _ z => by cases z) (fun _ _ z => by cases z) hd <;> intros
    all_goals
      first | rename_i hh; cases hh
      refine dk_cases g (P := fun u => dat0 u = some e → PyData.eqv _ e = eqvt _ u) ?_ ?_ ?_ ?_ ?_ ?_ he <;> intros
    all_goals
      first
        | (rename_i hh; cases hh; rfl)
        | (rename_i hh; obtain ⟨ds, _, rfl⟩ := dat_lst hh; rfl)
        | (rename_i hh; obtain ⟨ds, _, rfl⟩ := dat_tup hh; rfl)
  | succ k ih =>
    have ihL : ∀ (ts : List T) (l : Nat) (us : List T) (ds es : List PyData), dkL k ts = true → dkL l us = true → datL0 ts = some ds → datL0 us = some es → PyData.eqvAll ds es = eqvtL ts us := by
      intro ts
      induction ts with
      | nil =>
        intro l us ds es h g hd he
        cases hd
        cases us with
        | nil => cases he; rfl
        | cons u us =>
          obtain ⟨e1, es1, rfl⟩ : ∃ e1 es1, es = e1 :: es1 := by
            unfold datL0 at he
            cases a : dat0 u with
            | none => simp only [a] at he; cases he
            | some d1 =>
              cases b : datL0 us with
              | none => simp only [a, b] at he; cases he
              | some ds1 => simp only [a, b] at he; cases he; exact ⟨_, _, rfl⟩
          rfl
      | cons t ts iht =>
        intro l us ds es h g hd he
        unfold dkL at h
        obtain ⟨h1, h2⟩ := Bool.and_eq_true_iff.mp h
        unfold datL0 at hd
        cases a : dat0 t with
        | none => simp only [a] at hd; cases hd
        | some d1 =>
          cases b : datL0 ts with
          | none => simp only [a, b] at hd; cases hd
          | some ds1 =>
            simp only [a, b] at hd
            cases hd
            cases us with
            | nil => cases he; rfl
            | cons u us =>
              unfold dkL at g
              obtain ⟨g1, g2⟩ := Bool.and_eq_true_iff.mp g
              unfold datL0 at he
              cases a2 : dat0 u with
              | none => simp only [a2] at he; cases he
              | some e1 =>
                cases b2 : datL0 us with
                | none => simp only [a2, b2] at he; cases he
                | some es1 =>
                  simp only [a2, b2] at he
                  cases he
                  show (PyData.eqv d1 e1 && PyData.eqvAll ds1 es1) = (eqvt t u && eqvtL ts us)
                  rw [ih l t u d1 e1 h1 g1 a a2, iht l us ds1 es1 h2 g2 b b2]
    intro l t u d e h g hd he
    refine dk_cases h (P := fun t => dat0 t = some d → PyData.eqv d e = eqvt t u) ?_ ?_ ?_ ?_ ?_ ?_ hd
    · intro hh; cases hh
      refine dk_cases g (P := fun u => dat0 u = some e → PyData.eqv _ e = eqvt _ u) ?_ ?_ ?_ ?_ ?_ ?_ he <;> intros
      all_goals first | (rename_i hh; cases hh; rfl) | (rename_i hh; obtain ⟨ds, _, rfl⟩ := dat_lst hh; rfl) | (rename_i hh; obtain ⟨ds, _, rfl⟩ := dat_tup hh; rfl)
    · intro b hh; cases hh
      refine dk_cases g (P := fun u => dat0 u = some e → PyData.eqv _ e = eqvt _ u) ?_ ?_ ?_ ?_ ?_ ?_ he <;> intros
      all_goals first | (rename_i hh; cases hh; rfl) | (rename_i hh; obtain ⟨ds, _, rfl⟩ := dat_lst hh; rfl) | (rename_i hh; obtain ⟨ds, _, rfl⟩ := dat_tup hh; rfl)
    · intro b hh; cases hh
      refine dk_cases g (P := fun u => dat0 u = some e → PyData.eqv _ e = eqvt _ u) ?_ ?_ ?_ ?_ ?_ ?_ he <;> intros
      all_goals first | (rename_i hh; cases hh; rfl) | (rename_i hh; obtain ⟨ds, _, rfl⟩ := dat_lst hh; rfl) | (rename_i hh; obtain ⟨ds, _, rfl⟩ := dat_tup hh; rfl)
    · intro b hh; cases hh
      refine dk_cases g (P := fun u => dat0 u = some e → PyData.eqv _ e = eqvt _ u) ?_ ?_ ?_ ?_ ?_ ?_ he <;> intros
      all_goals first | (rename_i hh; cases hh; rfl) | (rename_i hh; obtain ⟨ds, _, rfl⟩ := dat_lst hh; rfl) | (rename_i hh; obtain ⟨ds, _, rfl⟩ := dat_tup hh; rfl)
    · intro j ts ej hts hh
      cases ej
      obtain ⟨ds, h1, rfl⟩ := dat_lst hh
      refine dk_cases g (P := fun u => dat0 u = some e → PyData.eqv _ e = eqvt _ u) ?_ ?_ ?_ ?_ ?_ ?_ he <;> intros
      all_goals first | (rename_i hh; cases hh; rfl) | skip
      · rename_i j2 us ej2 hus hh
        obtain ⟨es, h2, rfl⟩ := dat_lst hh
        exact ihL ts j2 us ds es hts hus h1 h2
      · rename_i hh
        obtain ⟨es, _, rfl⟩ := dat_tup hh
        rfl
    · intro j ts ej hts hh
      cases ej
      obtain ⟨ds, h1, rfl⟩ := dat_tup hh
      refine dk_cases g (P := fun u => dat0 u = some e → PyData.eqv _ e = eqvt _ u) ?_ ?_ ?_ ?_ ?_ ?_ he <;> intros
      all_goals first | (rename_i hh; cases hh; rfl) | skip
      · rename_i hh
        obtain ⟨es, _, rfl⟩ := dat_lst hh
        rfl
      · rename_i j2 us ej2 hus hh
        obtain ⟨es, h2, rfl⟩ := dat_tup hh
        exact ihL ts j2 us ds es hts hus h1 h2
section
variable {cs : Cs} {Q : T → Cs → Prop} {t u : T} {k l : Nat}
theorem eqvT_data (h : dk k t = true) (g : dk l u = true) (hk : k ≤ 60) (hl : l ≤ 60) : eqvT cs t u = some (eqvt t u) := by
  obtain ⟨d, e1, a1, b1⟩ := dk_dat k t h
  obtain ⟨e, e2, a2, b2⟩ := dk_dat l u g
  have key : eqvD cs t u = some (eqvt t u) := by
    unfold eqvD
    simp only [dat_of e1, dat_of e2]
    rw [if_pos]
    · rw [eqvt_dat k l t u d e h g e1 e2]
    · unfold SeqAt.shaped
      rw [a1, a2]
      simp only [Bool.true_and, Bool.and_eq_true, decide_eq_true_eq]
      omega
  cases t with
  | str x =>
    cases u with
    | str y => rfl
    | _ => exact key
  | _ => exact key
theorem ev_eqDat (h : dk k t = true) (g : dk l u = true) (hk : k ≤ 60) (hl : l ≤ 60) : EV (eqT t u) cs Q ↔ Q (.bl (eqvt t u)) cs := ev_some (by unfold eqT; rw [eqvT_data h g hk hl]; rfl)
theorem ev_neDat (h : dk k t = true) (g : dk l u = true) (hk : k ≤ 60) (hl : l ≤ 60) : EV (neT t u) cs Q ↔ Q (.bl (!eqvt t u)) cs := ev_some (by unfold neT; rw [eqvT_data h g hk hl]; rfl)
end
theorem eqvt_strs : ∀ (a b : List Str), eqvtL (a.map T.str) (b.map T.str) = (a == b)
  | [], [] => rfl
  | [], _ :: _ => rfl
  | _ :: _, [] => rfl
  | x :: xs, y :: ys => by
    show (eqvt (.str x) (.str y) && eqvtL (xs.map T.str) (ys.map T.str)) = _
    rw [eqvt_strs xs ys]
    show ((x == y) && (xs == ys)) = _
    rfl
theorem eqvt_ints : ∀ (a b : List Int), eqvtL (a.map T.int) (b.map T.int) = (a == b)
  | [], [] => rfl
  | [], _ :: _ => rfl
  | _ :: _, [] => rfl
  | x :: xs, y :: ys => by
    show (eqvt (.int x) (.int y) && eqvtL (xs.map T.int) (ys.map T.int)) = _
    rw [eqvt_ints xs ys]
    show ((x == y) && (xs == ys)) = _
    rfl
theorem dk_strs {k : Nat} {a : List Str} (h : ∀ x ∈ a, PyData.strOk x = true) : dkL k (a.map T.str) = true := dkL_all fun t ht => by
  obtain ⟨x, hx, rfl⟩ := List.mem_map.mp ht
  unfold dk
  exact h x hx
theorem dk_ints {k : Nat} {a : List Int} : dkL k (a.map T.int) = true := dkL_all fun t ht => by
  obtain ⟨x, hx, rfl⟩ := List.mem_map.mp ht
  unfold dk
  rfl
section
variable {cs : Cs} {Q : T → Cs → Prop}
theorem ev_eqStrs {a b : List Str} (h : ∀ x ∈ a, PyData.strOk x = true) (g : ∀ x ∈ b, PyData.strOk x = true) : EV (eqT (.lst (a.map T.str)) (.lst (b.map T.str))) cs Q ↔ Q (.bl (a == b)) cs := by
  rw [ev_eqDat (k := 1) (l := 1) (by unfold dk; exact dk_strs h) (by unfold dk; exact dk_strs g) (by decide) (by decide)]
  rw [show eqvt (.lst (a.map T.str)) (.lst (b.map T.str)) = (a == b) from eqvt_strs a b]
theorem ev_neStrs {a b : List Str} (h : ∀ x ∈ a, PyData.strOk x = true) (g : ∀ x ∈ b, PyData.strOk x = true) : EV (neT (.lst (a.map T.str)) (.lst (b.map T.str))) cs Q ↔ Q (.bl (!(a == b))) cs := by
  rw [ev_neDat (k := 1) (l := 1) (by unfold dk; exact dk_strs h) (by unfold dk; exact dk_strs g) (by decide) (by decide)]
  rw [show eqvt (.lst (a.map T.str)) (.lst (b.map T.str)) = (a == b) from eqvt_strs a b]
end
end Tv

set_option linter.unusedVariables false
namespace Tv
open PySem L2
section
variable {cs : Cs} {own f : Nat → Bool} {b : Bool} {i : Int} {x : Str} {ts us : List T} {c : Nat}
theorem ki_non : kiT cs (.non) = some .non := rfl
theorem ki_bl : kiT cs (.bl b) = some .bl := rfl
theorem ki_int : kiT cs (.int i) = some .int := rfl
theorem ki_str : kiT cs (.str x) = some .str := rfl
theorem ki_lst : kiT cs (.lst ts) = some .lst := rfl
theorem ki_tup : kiT cs (.tup ts) = some .tup := rfl
theorem ki_ro : kiT cs (.ro ts) = some .lst := rfl
theorem ki_obj : kiT cs (.obj c ts) = some (.obj c) := rfl
theorem isB_k {k : Ki} {y : String} (h : (match k with | .obj _ => none | k => kitB k.name y) = some b) : isB own y k = some b := by
  cases k <;> first | exact h | cases h
theorem isB_int_non : isB own "int" .non = some false := isB_k (by decide +kernel)
theorem isB_int_bl : isB own "int" .bl = some true := isB_k (by decide +kernel)
theorem isB_int_int : isB own "int" .int = some true := isB_k (by decide +kernel)
theorem isB_int_str : isB own "int" .str = some false := isB_k (by decide +kernel)
theorem isB_int_lst : isB own "int" .lst = some false := isB_k (by decide +kernel)
theorem isB_int_tup : isB own "int" .tup = some false := isB_k (by decide +kernel)
theorem isB_bool_non : isB own "bool" .non = some false := isB_k (by decide +kernel)
theorem isB_bool_bl : isB own "bool" .bl = some true := isB_k (by decide +kernel)
theorem isB_bool_int : isB own "bool" .int = some false := isB_k (by decide +kernel)
theorem isB_bool_str : isB own "bool" .str = some false := isB_k (by decide +kernel)
theorem isB_bool_lst : isB own "bool" .lst = some false := isB_k (by decide +kernel)
theorem isB_bool_tup : isB own "bool" .tup = some false := isB_k (by decide +kernel)
theorem isB_str_non : isB own "str" .non = some false := isB_k (by decide +kernel)
theorem isB_str_bl : isB own "str" .bl = some false := isB_k (by decide +kernel)
theorem isB_str_int : isB own "str" .int = some false := isB_k (by decide +kernel)
theorem isB_str_str : isB own "str" .str = some true := isB_k (by decide +kernel)
theorem isB_str_lst : isB own "str" .lst = some false := isB_k (by decide +kernel)
theorem isB_str_tup : isB own "str" .tup = some false := isB_k (by decide +kernel)
theorem isB_list_non : isB own "list" .non = some false := isB_k (by decide +kernel)
theorem isB_list_bl : isB own "list" .bl = some false := isB_k (by decide +kernel)
theorem isB_list_int : isB own "list" .int = some false := isB_k (by decide +kernel)
theorem isB_list_str : isB own "list" .str = some false := isB_k (by decide +kernel)
theorem isB_list_lst : isB own "list" .lst = some true := isB_k (by decide +kernel)
theorem isB_list_tup : isB own "list" .tup = some false := isB_k (by decide +kernel)
theorem isB_tuple_non : isB own "tuple" .non = some false := isB_k (by decide +kernel)
theorem isB_tuple_bl : isB own "tuple" .bl = some false := isB_k (by decide +kernel)
theorem isB_tuple_int : isB own "tuple" .int = some false := isB_k (by decide +kernel)
theorem isB_tuple_str : isB own "tuple" .str = some false := isB_k (by decide +kernel)
theorem isB_tuple_lst : isB own "tuple" .lst = some false := isB_k (by decide +kernel)
theorem isB_tuple_tup : isB own "tuple" .tup = some true := isB_k (by decide +kernel)
theorem isB2_non : isB2 own "list" "tuple" .non = some false := by unfold isB2; rw [isB_list_non, isB_tuple_non]; rfl
theorem isC_non : isC own f .non = some false := rfl
theorem isB2_bl : isB2 own "list" "tuple" .bl = some false := by unfold isB2; rw [isB_list_bl, isB_tuple_bl]; rfl
theorem isC_bl : isC own f .bl = some false := rfl
theorem isB2_int : isB2 own "list" "tuple" .int = some false := by unfold isB2; rw [isB_list_int, isB_tuple_int]; rfl
theorem isC_int : isC own f .int = some false := rfl
theorem isB2_str : isB2 own "list" "tuple" .str = some false := by unfold isB2; rw [isB_list_str, isB_tuple_str]; rfl
theorem isC_str : isC own f .str = some false := rfl
theorem isB2_lst : isB2 own "list" "tuple" .lst = some true := by unfold isB2; rw [isB_list_lst, isB_tuple_lst]; rfl
theorem isC_lst : isC own f .lst = some false := rfl
theorem isB2_tup : isB2 own "list" "tuple" .tup = some true := by unfold isB2; rw [isB_list_tup, isB_tuple_tup]; rfl
theorem isC_tup : isC own f .tup = some false := rfl
theorem le_sz0 : (0 ≤ sizeLine) = True := eq_true (by decide)
theorem le_sz1 : (1 ≤ sizeLine) = True := eq_true (by decide)
theorem le_sz2 : (2 ≤ sizeLine) = True := eq_true (by decide)
theorem le_sz3 : (3 ≤ sizeLine) = True := eq_true (by decide)
theorem le_sz4 : (4 ≤ sizeLine) = True := eq_true (by decide)
theorem le_sz5 : (5 ≤ sizeLine) = True := eq_true (by decide)
theorem le_sz6 : (6 ≤ sizeLine) = True := eq_true (by decide)
theorem le_sz7 : (7 ≤ sizeLine) = True := eq_true (by decide)
theorem le_sz8 : (8 ≤ sizeLine) = True := eq_true (by decide)
theorem le_sz9 : (9 ≤ sizeLine) = True := eq_true (by decide)
theorem le_sz10 : (10 ≤ sizeLine) = True := eq_true (by decide)
theorem le_sz11 : (11 ≤ sizeLine) = True := eq_true (by decide)
theorem le_sz12 : (12 ≤ sizeLine) = True := eq_true (by decide)
theorem le_sz13 : (13 ≤ sizeLine) = True := eq_true (by decide)
theorem le_sz14 : (14 ≤ sizeLine) = True := eq_true (by decide)
theorem le_sz15 : (15 ≤ sizeLine) = True := eq_true (by decide)
theorem le_sz16 : (16 ≤ sizeLine) = True := eq_true (by decide)
theorem le_sz17 : (17 ≤ sizeLine) = True := eq_true (by decide)
theorem le_sz18 : (18 ≤ sizeLine) = True := eq_true (by decide)
theorem le_sz19 : (19 ≤ sizeLine) = True := eq_true (by decide)
theorem le_sz20 : (20 ≤ sizeLine) = True := eq_true (by decide)
theorem cut_takeN {a : List T} {n : Nat} : cutT a none (some (n : Int)) = a.take n := by
  unfold cutT
  have e : HT.sIx a.length a.length (some (n : Int)) = min n a.length := by
    show (if (n : Int) < 0 then (a.length - (-(n : Int)).toNat : Nat) else min (n : Int).toNat a.length) = _
    rw [if_neg (by omega), Int.toNat_natCast]
  rw [e]
  show (a.drop 0).take (min n a.length - 0) = _
  rw [List.drop_zero, Nat.sub_zero]
  by_cases h : n ≤ a.length
  · rw [Nat.min_eq_left h]
  · rw [Nat.min_eq_right (by omega), List.take_of_length_le (Nat.le_refl _), List.take_of_length_le (by omega)]
theorem cut_dropN {a : List T} {n : Nat} : cutT a (some (n : Int)) none = a.drop n := by
  unfold cutT
  have e : HT.sIx a.length 0 (some (n : Int)) = min n a.length := by
    show (if (n : Int) < 0 then (a.length - (-(n : Int)).toNat : Nat) else min (n : Int).toNat a.length) = _
    rw [if_neg (by omega), Int.toNat_natCast]
  rw [e]
  show (a.drop (min n a.length)).take (a.length - min n a.length) = _
  rw [List.take_of_length_le (by rw [List.length_drop]; exact Nat.le_refl _)]
  by_cases h : n ≤ a.length
  · rw [Nat.min_eq_left h]
  · rw [Nat.min_eq_right (by omega), List.drop_of_length_le (Nat.le_refl _), List.drop_of_length_le (by omega)]
end
end Tv
local macro_rules | `(tactic| fail "ev5") => `(tactic| simp (config := { failIfUnchanged := true }) only [Tv.le_sz0, Tv.le_sz1, Tv.le_sz2, Tv.le_sz3, Tv.le_sz4, Tv.le_sz5, Tv.le_sz6, Tv.le_sz7, Tv.le_sz8, Tv.le_sz9, Tv.le_sz10, Tv.le_sz11, Tv.le_sz12, Tv.le_sz13, Tv.le_sz14, Tv.le_sz15, Tv.le_sz16, Tv.le_sz17, Tv.le_sz18, Tv.le_sz19, Tv.le_sz20, Tv.ki_non, Tv.ki_bl, Tv.ki_int, Tv.ki_str, Tv.ki_lst, Tv.ki_tup, Tv.ki_ro, Tv.ki_obj, Tv.isB_int_non, Tv.isB_int_bl, Tv.isB_int_int, Tv.isB_int_str, Tv.isB_int_lst, Tv.isB_int_tup, Tv.isB_bool_non, Tv.isB_bool_bl, Tv.isB_bool_int, Tv.isB_bool_str, Tv.isB_bool_lst, Tv.isB_bool_tup, Tv.isB_str_non, Tv.isB_str_bl, Tv.isB_str_int, Tv.isB_str_str, Tv.isB_str_lst, Tv.isB_str_tup, Tv.isB_list_non, Tv.isB_list_bl, Tv.isB_list_int, Tv.isB_list_str, Tv.isB_list_lst, Tv.isB_list_tup, Tv.isB_tuple_non, Tv.isB_tuple_bl, Tv.isB_tuple_int, Tv.isB_tuple_str, Tv.isB_tuple_lst, Tv.isB_tuple_tup, Tv.isB2_non, Tv.isC_non, Tv.isB2_bl, Tv.isC_bl, Tv.isB2_int, Tv.isC_int, Tv.isB2_str, Tv.isC_str, Tv.isB2_lst, Tv.isC_lst, Tv.isB2_tup, Tv.isC_tup, Option.some.injEq, exists_eq_left', exists_eq_left, and_true, true_and, reduceCtorEq, Bool.false_eq_true, if_true, if_false])
local macro_rules | `(tactic| fail "sz") => `(tactic| repeat (first | fail "sv1" | refine Tv.sv_par3 ?_ | refine Tv.sv_star ?_ | fail "ev1" | fail "ev2" | fail "ev3" | fail "ev4" | fail "ev5"))

namespace Tv
open PySem L2 ClX
def top (i : Nat) : Stmt := PySem.Challenge.pw_termstill_k48_unsure_occasions_made.main.body.getD i (.Pass ⟨0, 0, 0, 0⟩)
def nmF : Nat → List Str
  | 0 => []
  | 1 => ["at"]
  | 2 => ["at"]
  | 3 => ["occasions"]
  | _ => []
abbrev Bk (K : PySem.W.Frag) (at_ : Nat → Addr) : Book := ⟨K, at_, nmF⟩
def ownF (c : Nat) : Bool := c == 3
abbrev s_l_deal : Stmt := (top 17)
abbrev n_l_deal : List Str := ["_law_script", "_law_cells", "_law_mixed_here", "_law_cell"]
theorem sc_l_deal : FnScope n_l_deal ["_law_script"] (C8.fnScope s_l_deal) := C8.fnScope_by (by decide +kernel)
def b_l_deal : SM :=
  (bCons (sPar [1, 2] (aCons (mLc [3] (mIt (mSl (mVar 0) oNone (oSome (mC (.int 60))))) (gSet 3) yesM (mCall absC (aCons (mVar 3) aNil))) (aCons (mC (.int 32452867)) aNil)))
  (bCons (sFor (mIt (mVar 1)) (gSet 3) (sSet 2 (mOp modT (mCall intC (aCons (mOp addT (mOp mulT (mVar 2) (mC (.int 16807))) (mOp modT (mCall intC (aCons (mVar 3) aNil)) (mC (.int 2147483629)))) aNil)) (mC (.int 2147483647)))))
  (sRet (mLstO (aCons (mRevO (mLc [3] (mIt (mVar 1)) (gSet 3) (mTst (mOp geT (mVar 3) (mOp powT (mC (.int 10)) (mC (.int 18))))) (mVar 3))) (aCons (mVar 2) aNil))))))
def m_l_deal : List T → M T := mDef 1 4 b_l_deal
abbrev s_l_draw : Stmt := (top 18)
abbrev n_l_draw : List Str := ["_law_deal_here", "_law_many", "_law_rest"]
theorem sc_l_draw : FnScope n_l_draw ["_law_deal_here", "_law_many"] (C8.fnScope s_l_draw) := C8.fnScope_by (by decide +kernel)
def b_l_draw : SM :=
  (bCons (whileL (mAndT (mTst (mOp neT (mOp ixT (mVar 0) (mC (.int 0))) (mLst aNil))) (mTst (mOp eqT (mOp ixT (mOp ixT (mVar 0) (mC (.int 0))) (mNeg (mC (.int 1)))) (mC (.int 0))))) (sExpr (mBm .lst popM (mOp ixT (mVar 0) (mC (.int 0))) aNil)) 1000)
  (bCons (sIf (mTst (mOp neT (mOp ixT (mVar 0) (mC (.int 0))) (mLst aNil))) (bCons (sSet 2 (mBm .lst popM (mOp ixT (mVar 0) (mC (.int 0))) aNil))
  (bCons (sExpr (mBm .lst appendM (mOp ixT (mVar 0) (mC (.int 0))) (aCons (mOp divT (mVar 2) (mVar 1)) aNil)))
  (sRet (mOp modT (mCall intC (aCons (mVar 2) aNil)) (mVar 1))))) bNil)
  (bCons (sSub (mVar 0) (mC (.int 1)) (mOp modT (mCall intC (aCons (mOp addT (mOp mulT (mOp ixT (mVar 0) (mC (.int 1))) (mC (.int 48271))) (mC (.int 31))) aNil)) (mC (.int 2147483647))))
  (sRet (mOp modT (mCall intC (aCons (mOp divT (mOp ixT (mVar 0) (mC (.int 1))) (mC (.int 8))) aNil)) (mVar 1))))))
def m_l_draw : List T → M T := mDef 2 3 b_l_draw
abbrev s_l_pick : Stmt := (top 19)
abbrev n_l_pick : List Str := ["_law_deal_here", "_law_some"]
theorem sc_l_pick : FnScope n_l_pick ["_law_deal_here", "_law_some"] (C8.fnScope s_l_pick) := C8.fnScope_by (by decide +kernel)
def b_l_pick : SM :=
  (sRet (mOp ixT (mVar 1) (mCal m_l_draw [] (aCons (mVar 0) (aCons (mCall lenC (aCons (mVar 1) aNil)) aNil)))))
def m_l_pick : List T → M T := mDef 2 2 b_l_pick
abbrev s_l_mixed : Stmt := (top 20)
abbrev n_l_mixed : List Str := ["_law_deal_here", "_law_some", "_law_others", "_law_found"]
theorem sc_l_mixed : FnScope n_l_mixed ["_law_deal_here", "_law_some"] (C8.fnScope s_l_mixed) := C8.fnScope_by (by decide +kernel)
def b_l_mixed : SM :=
  (bCons (sPar [2, 3] (aCons (mCall listOC (aCons (mVar 1) aNil)) (aCons (mLstO aNil) aNil)))
  (bCons (whileL (mTst (mOp neT (mVar 2) (mLst aNil))) (sExpr (mBm .lst appendM (mVar 3) (aCons (mBm .lst popM (mVar 2) (aCons (mCal m_l_draw [] (aCons (mVar 0) (aCons (mCall lenC (aCons (mVar 2) aNil)) aNil))) aNil)) aNil))) 1000)
  (bCons (sFrz 3) (sRet (mVar 3)))))
def m_l_mixed : List T → M T := mDef 2 4 b_l_mixed
abbrev s_l_names : Stmt := (top 22)
abbrev n_l_names : List Str := ["_law_deal_here", "_law_many"]
theorem sc_l_names : FnScope n_l_names ["_law_deal_here", "_law_many"] (C8.fnScope s_l_names) := C8.fnScope_by (by decide +kernel)
def b_l_names : SM :=
  (sRet (mSl (mCal m_l_mixed [] (aCons (mVar 0) (aCons (mLst (aCons (mC (.str "talk")) (aCons (mC (.str "owe")) (aCons (mC (.str "plea")) (aCons (mC (.str "a")) (aCons (mC (.str "b")) (aCons (mC (.str "zz")) (aCons (mC (.str "x")) (aCons (mC (.str "suit")) (aCons (mC (.str "rest")) (aCons (mC (.str "cap")) aNil))))))))))) aNil))) oNone (oSome (mVar 1))))
def m_l_names : List T → M T := mDef 2 2 b_l_names
abbrev s_l_kind : Stmt := (top 23)
abbrev n_l_kind : List Str := ["_law_deal_here", "_law_word", "_law_most", "_law_form", "_law_many"]
theorem sc_l_kind : FnScope n_l_kind ["_law_deal_here", "_law_word", "_law_most"] (C8.fnScope s_l_kind) := C8.fnScope_by (by decide +kernel)
def b_l_kind : SM :=
  (bCons (sPar [3, 4] (aCons (mCal m_l_pick [] (aCons (mVar 0) (aCons (mLst (aCons (mC (.str "still")) (aCons (mC (.str "anew")) (aCons (mC (.str "lift")) aNil)))) aNil))) (aCons (mCal m_l_pick [] (aCons (mVar 0) (aCons (mLst (aCons (mC (.int 1)) (aCons (mC (.int 1)) (aCons (mC (.int 2)) (aCons (mC (.int 3)) (aCons (mC .non) aNil)))))) aNil))) aNil)))
  (sRet (mTup (aCons (mVar 3) (aCons (mVar 1) (aCons (mOp addT (mC (.int 1)) (mCal m_l_draw [] (aCons (mVar 0) (aCons (mVar 2) aNil)))) (aCons (mIfE (mTst (mOp eqT (mVar 3) (mC (.str "lift")))) (mOp addT (mC (.int 1)) (mCal m_l_draw [] (aCons (mVar 0) (aCons (mVar 2) aNil)))) (mC (.int 0))) (aCons (mVar 4) aNil))))))))
def m_l_kind : List T → M T := mDef 3 5 b_l_kind
abbrev s_l_rule : Stmt := (top 24)
abbrev n_l_rule : List Str := ["_law_deal_here", "_law_many", "_law_most", "_law_rests_here", "_law_one", "_law_high", "_law_words", "_law_size", "_law_some", "_law_word"]
theorem sc_l_rule : FnScope n_l_rule ["_law_deal_here", "_law_many", "_law_most"] (C8.fnScope s_l_rule) := C8.fnScope_by (by decide +kernel)
def b_l_rule : SM :=
  (bCons (sSet 3 (mCall sortedC (aCons (mLc [4] (mIt (mSl (mCal m_l_mixed [] (aCons (mVar 0) (aCons (mLstRg (mC (.int 7))) aNil))) oNone (oSome (mCal m_l_pick [] (aCons (mVar 0) (aCons (mLst (aCons (mC (.int 0)) (aCons (mC (.int 0)) (aCons (mC (.int 1)) (aCons (mC (.int 2)) (aCons (mC (.int 2)) (aCons (mC (.int 4)) aNil))))))) aNil)))))) (gSet 4) yesM (mCall intC (aCons (mVar 4) aNil))) aNil)))
  (bCons (sSet 5 (mCal m_l_pick [] (aCons (mVar 0) (aCons (mLst (aCons (mC .non) (aCons (mC .non) (aCons (mC .non) (aCons (mOp addT (mC (.int 1)) (mCal m_l_draw [] (aCons (mVar 0) (aCons (mOp mulT (mC (.int 3)) (mVar 2)) aNil)))) aNil))))) aNil))))
  (bCons (sPar [6, 7] (aCons (mCal m_l_names [] (aCons (mVar 0) (aCons (mCal m_l_draw [] (aCons (mVar 0) (aCons (mOp addT (mVar 1) (mC (.int 1))) aNil))) aNil))) (aCons (mOp addT (mC (.int 1)) (mCal m_l_draw [] (aCons (mVar 0) (aCons (mVar 2) aNil)))) aNil)))
  (bCons (sSet 8 (mLc [9] (mIt (mVar 6)) (gSet 9) yesM (mCal m_l_kind [] (aCons (mVar 0) (aCons (mVar 9) (aCons (mVar 2) aNil))))))
  (bCons (sIf (mAndT (mTst (mOp isntT (mVar 5) (mC .non))) (mTst (mOp neT (mLc [4] (mIt (mVar 8)) (gSet 4) (mTst (mOp isT (mOp ixT (mVar 4) (mC (.int 4))) (mC .non))) (mVar 4)) (mLst aNil)))) (sSet 5 (mCall minC (aCons (mCall intC (aCons (mVar 5) aNil)) (aCons (mOp addT (mVar 7) (mC (.int 200))) aNil)))) bNil)
  (sRet (mTup (aCons (mVar 7) (aCons (mVar 3) (aCons (mVar 5) (aCons (mVar 8) aNil)))))))))))
def m_l_rule : List T → M T := mDef 3 10 b_l_rule
abbrev s_l_unsure : Stmt := (top 25)
abbrev n_l_unsure : List Str := ["_law_deal_here", "_law_told", "_law_many", "_law_most", "_law_words", "_law_found", "_law_sizes", "_law_one", "_law_k", "_law_wide", "_law_low"]
theorem sc_l_unsure : FnScope n_l_unsure ["_law_deal_here", "_law_told", "_law_many", "_law_most"] (C8.fnScope s_l_unsure) := C8.fnScope_by (by decide +kernel)
def b_l_unsure : SM :=
  (bCons (sPar [4, 5, 6] (aCons (mOp addT (mLc [7] (mIt (mOp ixT (mVar 1) (mC (.int 3)))) (gSet 7) yesM (mOp ixT (mVar 7) (mC (.int 1)))) (mLst (aCons (mC (.str "qq")) aNil))) (aCons (mLstO aNil) (aCons (mC (.int 1)) aNil))))
  (bCons (sFor (mRng1 (aCons (mCal m_l_draw [] (aCons (mVar 0) (aCons (mOp addT (mVar 2) (mC (.int 1))) aNil))) aNil)) (gSet 8) (bCons (sPar [9, 10] (aCons (mOp addT (mC (.int 1)) (mCal m_l_draw [] (aCons (mVar 0) (aCons (mC (.int 4)) aNil)))) (aCons (mCal m_l_draw [] (aCons (mVar 0) (aCons (mVar 3) aNil))) aNil)))
  (bCons (sSet 9 (mIfE (mTst (mOp ltT (mOp mulT (mVar 9) (mVar 6)) (mC (.int 65)))) (mVar 9) (mC (.int 1))))
  (bCons (sSet 6 (mOp mulT (mVar 6) (mVar 9)))
  (sExpr (mBm .lst appendM (mVar 5) (aCons (mTup (aCons (mVar 10) (aCons (mOp subT (mOp addT (mVar 10) (mVar 9)) (mC (.int 1))) (aCons (mCal m_l_pick [] (aCons (mVar 0) (aCons (mVar 4) aNil))) (aCons (mOp addT (mC (.int 1)) (mCal m_l_draw [] (aCons (mVar 0) (aCons (mC (.int 5)) aNil)))) aNil))))) aNil)))))))
  (bCons (sFrz 5) (sRet (mVar 5)))))
def m_l_unsure : List T → M T := mDef 4 11 b_l_unsure
abbrev s_is_sequence : Stmt := (top 8)
abbrev n_is_sequence : List Str := ["value"]
theorem sc_is_sequence : FnScope n_is_sequence ["value"] (C8.fnScope s_is_sequence) := C8.fnScope_by (by decide +kernel)
def b_is_sequence : SM :=
  (sRet (mIsi (isB2 ownF "list" "tuple") (mVar 0)))
def m_is_sequence : List T → M T := mDef 1 1 b_is_sequence
abbrev s_InvalidUnsure_init : Stmt := (inClass (top 12) 0)
abbrev n_InvalidUnsure_init : List Str := ["self", "at"]
theorem sc_InvalidUnsure_init : FnScope n_InvalidUnsure_init ["self", "at"] (C8.fnScope s_InvalidUnsure_init) := C8.fnScope_by (by decide +kernel)
def b_InvalidUnsure_init : SM :=
  (sFldT [] (mVar 0) (mVar 1))
def m_InvalidUnsure_init : List T → M T := mDef 2 2 b_InvalidUnsure_init
abbrev s_is_integer : Stmt := (top 4)
abbrev n_is_integer : List Str := ["value"]
theorem sc_is_integer : FnScope n_is_integer ["value"] (C8.fnScope s_is_integer) := C8.fnScope_by (by decide +kernel)
def b_is_integer : SM :=
  (sRet (mAndV (mIsi (isB ownF "int") (mVar 0)) (mNotV (mIsi (isB ownF "bool") (mVar 0)))))
def m_is_integer : List T → M T := mDef 1 1 b_is_integer
abbrev s_is_number : Stmt := (top 5)
abbrev n_is_number : List Str := ["value"]
theorem sc_is_number : FnScope n_is_number ["value"] (C8.fnScope s_is_number) := C8.fnScope_by (by decide +kernel)
def b_is_number : SM :=
  (sRet (mAndV (mCal m_is_integer [] (aCons (mVar 0) aNil)) (mOp geT (mVar 0) (mC (.int 0)))))
def m_is_number : List T → M T := mDef 1 1 b_is_number
abbrev s_is_name : Stmt := (top 7)
abbrev n_is_name : List Str := ["value", "sign"]
theorem sc_is_name : FnScope n_is_name ["value"] (C8.fnScope s_is_name) := C8.fnScope_by (by decide +kernel)
def b_is_name : SM :=
  (bCons (sIf (mOrT (mNotT (mTru (mIsi (isB ownF "str") (mVar 0)))) (mTst (mOp inT (mVar 0) (mC (.tup [.str "any", .str "none", .str "anew", .str "lift", .str "term"]))))) (sRet (mC (.bl false))) bNil)
  (sRet (mAndV (mChain leT leT (mC (.int 1)) (mCall lenC (aCons (mVar 0) aNil)) (mC (.int 4))) (mCall allC (aCons (mLc [1] (mIt (mVar 0)) (gSet 1) yesM (mOp inT (mVar 1) (mC (.str "abcdefghijklmnopqrstuvwxyz")))) aNil)))))
def m_is_name : List T → M T := mDef 1 2 b_is_name
abbrev s_is_count : Stmt := (top 6)
abbrev n_is_count : List Str := ["value"]
theorem sc_is_count : FnScope n_is_count ["value"] (C8.fnScope s_is_count) := C8.fnScope_by (by decide +kernel)
def b_is_count : SM :=
  (sRet (mAndV (mCal m_is_integer [] (aCons (mVar 0) aNil)) (mOp geT (mVar 0) (mC (.int 1)))))
def m_is_count : List T → M T := mDef 1 1 b_is_count
abbrev s_is_unsure : Stmt := (top 15)
abbrev n_is_unsure : List Str := ["value", "first", "last", "name", "days"]
theorem sc_is_unsure : FnScope n_is_unsure ["value"] (C8.fnScope s_is_unsure) := C8.fnScope_by (by decide +kernel)
def b_is_unsure : SM :=
  (bCons (sIf (mOrT (mNotT (mTru (mIsi (isB ownF "tuple") (mVar 0)))) (mTst (mOp neT (mCall lenC (aCons (mVar 0) aNil)) (mC (.int 4))))) (sRet (mC (.bl false))) bNil)
  (bCons (sAsg (gTupT 4 (gConsT (gSet 1) (gConsT (gSet 2) (gConsT (gSet 3) (gConsT (gSet 4) gNilC))))) (mVar 0))
  (sRet (mAndV (mCal m_is_number [] (aCons (mVar 1) aNil)) (mAndV (mCal m_is_number [] (aCons (mVar 2) aNil)) (mAndV (mOp leT (mVar 1) (mVar 2)) (mAndV (mCal m_is_name [] (aCons (mVar 3) aNil)) (mCal m_is_count [] (aCons (mVar 4) aNil)))))))))
def m_is_unsure : List T → M T := mDef 1 5 b_is_unsure
abbrev s_Unsure_init : Stmt := (inClass (top 14) 0)
abbrev n_Unsure_init : List Str := ["self", "occasions", "at", "occasion"]
theorem sc_Unsure_init : FnScope n_Unsure_init ["self", "occasions"] (C8.fnScope s_Unsure_init) := C8.fnScope_by (by decide +kernel)
def b_Unsure_init : SM :=
  (bCons (sIf (mNotT (mTru (mCal m_is_sequence [] (aCons (mVar 1) aNil)))) (sRaise 2 (aCons (mC (.int 0)) aNil)) bNil)
  (bCons (sFor (mEnum (aCons (mVar 1) aNil)) (gTupT 2 (gConsT (gSet 2) (gConsT (gSet 3) gNilC))) (sIf (mNotT (mTru (mCal m_is_unsure [] (aCons (mVar 3) aNil)))) (sRaise 2 (aCons (mVar 2) aNil)) bNil))
  (sFldT [(3, 0)] (mVar 0) (mCall tupC (aCons (mVar 1) aNil)))))
def m_Unsure_init : List T → M T := mDef 2 4 b_Unsure_init
abbrev s_l_any : Stmt := (top 21)
abbrev n_l_any : List Str := ["_law_deal_here", "_law_deep", "_law_form", "_law_some", "_law_k"]
theorem sc_l_any : FnScope n_l_any ["_law_deal_here", "_law_deep"] (C8.fnScope s_l_any) := C8.fnScope_by (by decide +kernel)
def b_l_any (r : List T → M T) : SM :=
  (bCons (sSet 2 (mCal m_l_draw [] (aCons (mVar 0) (aCons (mC (.int 11)) aNil))))
  (bCons (sIf (mAndT (mTst (mOp gtT (mVar 1) (mC (.int 0)))) (mTst (mOp ltT (mVar 2) (mC (.int 4))))) (bCons (sSet 3 (mLc [4] (mRng1 (aCons (mCal m_l_draw [] (aCons (mVar 0) (aCons (mC (.int 4)) aNil))) aNil)) (gSet 4) yesM (mCal r [] (aCons (mVar 0) (aCons (mOp subT (mVar 1) (mC (.int 1))) aNil)))))
  (sRet (mIfE (mTst (mOp ltT (mVar 2) (mC (.int 2)))) (mCall tupC (aCons (mVar 3) aNil)) (mVar 3)))) bNil)
  (bCons (sIf (mTst (mOp ltT (mVar 2) (mC (.int 7)))) (sRet (mCal m_l_pick [] (aCons (mVar 0) (aCons (mLst (aCons (mC (.int 0)) (aCons (mC (.int 1)) (aCons (mNeg (mC (.int 1))) (aCons (mC (.int 7)) (aCons (mOp powT (mC (.int 10)) (mC (.int 18))) (aCons (mC (.bl true)) (aCons (mC (.bl false)) (aCons (mC .non) aNil))))))))) aNil)))) bNil)
  (sRet (mCal m_l_pick [] (aCons (mVar 0) (aCons (mLst (aCons (mC (.str "")) (aCons (mC (.str "any")) (aCons (mC (.str "none")) (aCons (mC (.str "anew")) (aCons (mC (.str "lift")) (aCons (mC (.str "term")) (aCons (mC (.str "still")) (aCons (mC (.str "Talk")) (aCons (mC (.str " ")) (aCons (mC (.str "still talk 0 1")) aNil))))))))))) aNil)))))))
def m_l_any : Nat → List T → M T
  | 0 => mDef 2 5 fun _ _ => none
  | j + 1 => mDef 2 5 (b_l_any (m_l_any j))
abbrev s_l_heard : Stmt := (top 29)
abbrev n_l_heard : List Str := ["_law_value", "_law_found", "e"]
theorem sc_l_heard : FnScope n_l_heard ["_law_value"] (C8.fnScope s_l_heard) := C8.fnScope_by (by decide +kernel)
def b_l_heard : SM :=
  (bCons (sSet 1 (mC .non))
  (bCons (sTry1 3 1 2 (xIf (true && (!false)) (xPure xPay) (xPure (xC (.str "other"))))
  (sExpr (mCal (mMake 3 1 m_Unsure_init) [] (aCons (mVar 0) aNil))))
  (sRet (mVar 1))))
def m_l_heard : List T → M T := mDef 1 3 b_l_heard
abbrev s_l_is_day : Stmt := (top 26)
abbrev n_l_is_day : List Str := ["_law_value", "_law_low"]
theorem sc_l_is_day : FnScope n_l_is_day ["_law_value", "_law_low"] (C8.fnScope s_l_is_day) := C8.fnScope_by (by decide +kernel)
def b_l_is_day : SM :=
  (sRet (mAndV (mIsi (isB ownF "int") (mVar 0)) (mAndV (mNotV (mIsi (isB ownF "bool") (mVar 0))) (mOp geT (mVar 0) (mVar 1)))))
def m_l_is_day : List T → M T := mDef 2 2 b_l_is_day
abbrev s_l_is_title : Stmt := (top 27)
abbrev n_l_is_title : List Str := ["_law_value", "_law_letter"]
theorem sc_l_is_title : FnScope n_l_is_title ["_law_value"] (C8.fnScope s_l_is_title) := C8.fnScope_by (by decide +kernel)
def b_l_is_title : SM :=
  (bCons (sIf (mOrT (mNotT (mTru (mIsi (isB ownF "str") (mVar 0)))) (mOrT (mTst (mOp inT (mVar 0) (mTup (aCons (mC (.str "any")) (aCons (mC (.str "none")) (aCons (mC (.str "anew")) (aCons (mC (.str "lift")) (aCons (mC (.str "term")) aNil)))))))) (mNotT (mTst (mChain ltT ltT (mC (.int 0)) (mCall lenC (aCons (mVar 0) aNil)) (mC (.int 5))))))) (sRet (mC (.bl false))) bNil)
  (sRet (mOp eqT (mLc [1] (mIt (mVar 0)) (gSet 1) (mTst (mOp ninT (mVar 1) (mC (.str "abcdefghijklmnopqrstuvwxyz")))) (mVar 1)) (mLst aNil))))
def m_l_is_title : List T → M T := mDef 1 2 b_l_is_title
abbrev s_l_is_one : Stmt := (top 28)
abbrev n_l_is_one : List Str := ["_law_value"]
theorem sc_l_is_one : FnScope n_l_is_one ["_law_value"] (C8.fnScope s_l_is_one) := C8.fnScope_by (by decide +kernel)
def b_l_is_one : SM :=
  (bCons (sIf (mOrT (mNotT (mTru (mIsi (isB ownF "tuple") (mVar 0)))) (mOrT (mTst (mOp neT (mCall lenC (aCons (mVar 0) aNil)) (mC (.int 4)))) (mOrT (mNotT (mTru (mCal m_l_is_title [] (aCons (mOp ixT (mVar 0) (mC (.int 2))) aNil)))) (mNotT (mTru (mCal m_l_is_day [] (aCons (mOp ixT (mVar 0) (mC (.int 3))) (aCons (mC (.int 1)) aNil)))))))) (sRet (mC (.bl false))) bNil)
  (sRet (mAndV (mCal m_l_is_day [] (aCons (mOp ixT (mVar 0) (mC (.int 0))) (aCons (mC (.int 0)) aNil))) (mAndV (mCal m_l_is_day [] (aCons (mOp ixT (mVar 0) (mC (.int 1))) (aCons (mC (.int 0)) aNil))) (mOp leT (mOp ixT (mVar 0) (mC (.int 0))) (mOp ixT (mVar 0) (mC (.int 1))))))))
def m_l_is_one : List T → M T := mDef 1 1 b_l_is_one
abbrev s_l_due : Stmt := (top 30)
abbrev n_l_due : List Str := ["_law_value", "_law_wrong", "_law_spot", "_law_one"]
theorem sc_l_due : FnScope n_l_due ["_law_value"] (C8.fnScope s_l_due) := C8.fnScope_by (by decide +kernel)
def b_l_due : SM :=
  (bCons (sIf (mNotT (mTru (mIsi (isB2 ownF "list" "tuple") (mVar 0)))) (sRet (mC (.int 0))) bNil)
  (bCons (sSet 1 (mLc [2, 3] (mEnum (aCons (mVar 0) aNil)) (gTupT 2 (gConsT (gSet 2) (gConsT (gSet 3) gNilC))) (mNotT (mTru (mCal m_l_is_one [] (aCons (mVar 3) aNil)))) (mVar 2)))
  (sRet (mIfE (mTst (mOp neT (mVar 1) (mLst aNil))) (mOp ixT (mVar 1) (mC (.int 0))) (mC .non)))))
def m_l_due : List T → M T := mDef 1 4 b_l_due
abbrev s_law : Stmt := (top 31)
abbrev n_law : List Str := ["_law_script", "_law_deal_here", "_law_turn", "_law_told", "_law_some", "_law_given", "_law_made", "_law_odd", "_law_more", "_law_few", "_law_spot", "_law_bent", "_law_value"]
theorem sc_law : FnScope n_law ["_law_script"] (C8.fnScope s_law) := C8.fnScope_by (by decide +kernel)
def b_law : SM :=
  (bCons (sSet 1 (mCal m_l_deal [] (aCons (mVar 0) aNil)))
  (bCons (sFor (mRng1 (aCons (mC (.int 8)) aNil)) (gSet 2) (bCons (sSet 3 (mCal m_l_rule [] (aCons (mVar 1) (aCons (mC (.int 3)) (aCons (mC (.int 9)) aNil)))))
  (bCons (sSet 4 (mCal m_l_unsure [] (aCons (mVar 1) (aCons (mVar 3) (aCons (mC (.int 5)) (aCons (mC (.int 30)) aNil))))))
  (bCons (sSet 5 (mCall listOC (aCons (mVar 4) aNil)))
  (bCons (sSet 6 (mCal (mMake 3 1 m_Unsure_init) [] (aCons (mVar 5) aNil)))
  (bCons (sExpr (mBm .lst appendM (mVar 5) (aCons (mTup (aCons (mC (.int 1)) (aCons (mC (.int 1)) (aCons (mC (.str "late")) (aCons (mC (.int 1)) aNil))))) aNil)))
  (bCons (sIf (mOrT (mTst (mOp neT (mCall reprC (aCons (mFld [(3, 0)] (mVar 6)) aNil)) (mCall reprC (aCons (mCall tupC (aCons (mVar 4) aNil)) aNil)))) (mTst (mOp neT (mCall reprC (aCons (mFld [(3, 0)] (mCal (mMake 3 1 m_Unsure_init) [] (aCons (mCall tupC (aCons (mVar 4) aNil)) aNil))) aNil)) (mCall reprC (aCons (mCall tupC (aCons (mVar 4) aNil)) aNil))))) (sRet (mC (.bl false))) bNil)
  (bCons (sSet 7 (mLst (aCons (mTup (aCons (mC (.int 1)) (aCons (mC (.int 0)) (aCons (mC (.str "a")) (aCons (mC (.int 1)) aNil))))) (aCons (mTup (aCons (mC (.int 0)) (aCons (mC (.int 0)) (aCons (mC (.str "none")) (aCons (mC (.int 1)) aNil))))) (aCons (mTup (aCons (mC (.int 0)) (aCons (mC (.int 0)) (aCons (mC (.str "a")) (aCons (mC (.int 0)) aNil))))) (aCons (mTup (aCons (mNeg (mC (.int 1))) (aCons (mC (.int 0)) (aCons (mC (.str "a")) (aCons (mC (.int 1)) aNil))))) (aCons (mTup (aCons (mC (.int 0)) (aCons (mC (.bl true)) (aCons (mC (.str "a")) (aCons (mC (.int 1)) aNil))))) (aCons (mLst (aCons (mC (.int 0)) (aCons (mC (.int 0)) (aCons (mC (.str "a")) (aCons (mC (.int 1)) aNil))))) aNil))))))))
  (bCons (sSet 7 (mOp addT (mVar 7) (mLst (aCons (mTup (aCons (mC (.int 0)) (aCons (mC (.int 0)) (aCons (mC (.str "a")) aNil)))) (aCons (mTup (aCons (mC (.int 0)) (aCons (mC (.int 0)) (aCons (mC (.str "a")) (aCons (mC (.int 1)) (aCons (mC (.int 1)) aNil)))))) (aCons (mTup (aCons (mC (.str "0")) (aCons (mC (.int 0)) (aCons (mC (.str "a")) (aCons (mC (.int 1)) aNil))))) (aCons (mTup (aCons (mC (.int 0)) (aCons (mC (.int 0)) (aCons (mC (.str "talks")) (aCons (mC (.int 1)) aNil))))) (aCons (mTup (aCons (mC (.int 0)) (aCons (mC (.int 0)) (aCons (mC .non) (aCons (mC (.int 1)) aNil))))) (aCons (mC .non) (aCons (mC (.str "a")) aNil))))))))))
  (sFor (mRng1 (aCons (mC (.int 4)) aNil)) (gSet 8) (bCons (sSet 9 (mSl (mVar 4) oNone (oSome (mC (.int 3)))))
  (bCons (sSet 10 (mCal m_l_draw [] (aCons (mVar 1) (aCons (mOp addT (mCall lenC (aCons (mVar 9) aNil)) (mC (.int 1))) aNil))))
  (bCons (sSet 11 (mOp addT (mOp addT (mOp addT (mSl (mVar 9) oNone (oSome (mVar 10))) (mLst (aCons (mCal m_l_pick [] (aCons (mVar 1) (aCons (mVar 7) aNil))) aNil))) (mSl (mVar 9) (oSome (mVar 10)) oNone)) (mLst (aCons (mCal m_l_pick [] (aCons (mVar 1) (aCons (mVar 7) aNil))) aNil))))
  (bCons (sIf (mOrT (mTst (mOp neT (mCal m_l_heard [] (aCons (mVar 11) aNil)) (mVar 10))) (mTst (mOp neT (mCal m_l_heard [] (aCons (mCall tupC (aCons (mVar 11) aNil)) aNil)) (mVar 10)))) (sRet (mC (.bl false))) bNil)
  (bCons (sSet 12 (mCal (m_l_any 8) [] (aCons (mVar 1) (aCons (mC (.int 6)) aNil))))
  (sIf (mOrT (mTst (mOp neT (mCal m_l_heard [] (aCons (mVar 12) aNil)) (mCal m_l_due [] (aCons (mVar 12) aNil)))) (mTst (mOp neT (mCal m_l_heard [] (aCons (mOp addT (mVar 9) (mLst (aCons (mVar 12) aNil))) aNil)) (mCal m_l_due [] (aCons (mOp addT (mVar 9) (mLst (aCons (mVar 12) aNil))) aNil))))) (sRet (mC (.bl false))) bNil))))))))))))))))
  (sRet (mAndV (mOp eqT (mFld [(3, 0)] (mCal (mMake 3 1 m_Unsure_init) [] (aCons (mLst aNil) aNil))) (mTup aNil)) (mOp eqT (mCal m_l_heard [] (aCons (mC (.str "")) aNil)) (mC (.int 0)))))))
def m_law : List T → M T := mDef 1 13 b_law
end Tv

namespace Tv
open PySem L2 ClX
section
variable {P : Program} {w : World} {K : PySem.W.Frag} {mg : Str → Option Value} {base : Heap} {at_ : Nat → Addr}
theorem fn_l_deal (z_abs : mg "abs" = none) (z_int : mg "int" = none) {f : Addr} {fd : FuncData} (F : C8.Fun K "_law_deal" "_law_deal" s_l_deal f fd) :
    FnOk P w K mg base (L2.CX P w) 2 f fd ["_law_script"] (spM (Bk K at_) m_l_deal) :=
  fn_MX (B := Bk K at_) F sc_l_deal fun cdv A outer s H E G hr px tk pw => by
    have hu := hr.units
    exact (b_cons (t_par (ps_par (i := 1) (j := 2) rfl sc_l_deal.nd rfl rfl (by decide) rfl rfl (pa_u _ _) (by rfl)) (a_cons (s_lc (own := [("_law_cell", 3)]) rfl sc_l_deal.nd (blkOk_by (own := [("_law_cell", 3)]) (N := n_l_deal) (sc := C8.fnScope s_l_deal) (by decide +kernel)) (i_seq rfl (s_sl rfl (s_var (pv 0)) p_none (p_some s_int))) (fun _ _ _ _ _ _ => (g_name (pg_name (i := 3) sc_l_deal.nd rfl (Or.inl rfl)))) (fun _ _ _ _ _ _ => ts_nil) (fun _ _ _ _ _ _ => (s_call c_abs (a_cons (s_var (pv 3)) a_nil) (pe_callB (cl_u _ _) (by rfl) z_abs PyProof.Rows.boot_abs (pa_u _ _))))) (a_cons s_int a_nil)))
  (b_cons (t_for pw rfl (i_seq rfl (s_var (pv 1))) (g_name (pg_name (i := 3) sc_l_deal.nd rfl (Or.inl rfl))) (b_one (t_set (ps_set (i := 2) sc_l_deal.nd rfl (Or.inl rfl) (pe_u _ _)) (s_op o_mod (s_call c_int (a_cons (s_op (o_add rfl) (s_op (o_mul rfl) (s_var (pv 2)) s_int) (s_op o_mod (s_call c_int (a_cons (s_var (pv 3)) a_nil) (pe_callTy (cl_u _ _) (by rfl) z_int PyProof.Rows.boot_int (pa_u _ _))) s_int)) a_nil) (pe_callTy (cl_u _ _) (by rfl) z_int PyProof.Rows.boot_int (pa_u _ _))) s_int))))
  (b_one (t_ret (s_lstO (a_cons (s_revO rfl (s_lc (own := [("_law_cell", 3)]) rfl sc_l_deal.nd (blkOk_by (own := [("_law_cell", 3)]) (N := n_l_deal) (sc := C8.fnScope s_l_deal) (by decide +kernel)) (i_seq rfl (s_var (pv 1))) (fun _ _ _ _ _ _ => (g_name (pg_name (i := 3) sc_l_deal.nd rfl (Or.inl rfl)))) (fun _ _ _ _ _ _ => (ts_one (w_cmp o_ge (s_var (pv 3)) (s_op o_pow s_int s_int) (nomark _)))) (fun _ _ _ _ _ _ => (s_var (pv 3))))) (a_cons (s_var (pv 2)) a_nil)))))))
theorem fn_l_draw (z_int : mg "int" = none) {f : Addr} {fd : FuncData} (F : C8.Fun K "_law_draw" "_law_draw" s_l_draw f fd) :
    FnOk P w K mg base (L2.CX P w) 2 f fd ["_law_deal_here", "_law_many"] (spM (Bk K at_) m_l_draw) :=
  fn_MX (B := Bk K at_) F sc_l_draw fun cdv A outer s H E G hr px tk pw => by
    have hu := hr.units
    exact (b_cons (t_while pw (w_pt (w_and (w_cmp (o_ne rfl hu) (s_ix rfl (s_var (pv 0)) s_int) (s_lst a_nil) (nomark _)) (w_and1 (w_cmp (o_eq rfl hu) (s_ix rfl (s_ix rfl (s_var (pv 0)) s_int) (s_neg s_int)) s_int (nomark _))))) (b_one (t_expr (ps_expr (pe_u _ _)) (s_bm0 (b := .lst) rfl m_pop (s_ix rfl (s_var (pv 0)) s_int) (pe_bm0 PySem.F.plainAttrs_list PySem.F.slot_list_pop PySem.F.type_list_pop (mt_u _ _) (pe_u _ _))))))
  (b_cons (t_if (w_cmp (o_ne rfl hu) (s_ix rfl (s_var (pv 0)) s_int) (s_lst a_nil) (nomark _)) (b_cons (t_set (ps_set (i := 2) sc_l_draw.nd rfl (Or.inl rfl) (pe_u _ _)) (s_bm0 (b := .lst) rfl m_pop (s_ix rfl (s_var (pv 0)) s_int) (pe_bm0 PySem.F.plainAttrs_list PySem.F.slot_list_pop PySem.F.type_list_pop (mt_u _ _) (pe_u _ _))))
  (b_cons (t_expr (ps_expr (pe_u _ _)) (s_bm (b := .lst) rfl m_append (s_ix rfl (s_var (pv 0)) s_int) (a_cons (s_op o_div (s_var (pv 2)) (s_var (pv 1))) a_nil) (pe_bm PySem.F.plainAttrs_list PySem.F.slot_list_append PySem.F.type_list_append (mt_u _ _) (pe_u _ _) (pa_u _ _))))
  (b_one (t_ret (s_op o_mod (s_call c_int (a_cons (s_var (pv 2)) a_nil) (pe_callTy (cl_u _ _) (by rfl) z_int PyProof.Rows.boot_int (pa_u _ _))) (s_var (pv 1))))))) b_nil)
  (b_cons (t_sub (ps_asg (pe_u _ _) (pg_sub (pe_u _ _) (pe_u _ _) (set_u _))) (s_var (pv 0)) s_int (s_op o_mod (s_call c_int (a_cons (s_op (o_add rfl) (s_op (o_mul rfl) (s_ix rfl (s_var (pv 0)) s_int) s_int) s_int) a_nil) (pe_callTy (cl_u _ _) (by rfl) z_int PyProof.Rows.boot_int (pa_u _ _))) s_int))
  (b_one (t_ret (s_op o_mod (s_call c_int (a_cons (s_op o_div (s_ix rfl (s_var (pv 0)) s_int) s_int) a_nil) (pe_callTy (cl_u _ _) (by rfl) z_int PyProof.Rows.boot_int (pa_u _ _))) (s_var (pv 1))))))))
theorem fn_l_pick (cal_l_draw : Ts.CalX P w K mg base 2 "_law_draw" (spM (Bk K at_) m_l_draw) []) (z_len : mg "len" = none) {f : Addr} {fd : FuncData} (F : C8.Fun K "_law_pick" "_law_pick" s_l_pick f fd) :
    FnOk P w K mg base (L2.CX P w) 3 f fd ["_law_deal_here", "_law_some"] (spM (Bk K at_) m_l_pick) :=
  fn_MX (B := Bk K at_) F sc_l_pick fun cdv A outer s H E G hr px tk pw => by
    have hu := hr.units
    exact (b_one (t_ret (s_ix rfl (s_var (pv 1)) (s_cal cal_l_draw (fun _ _ => .nil) hr (by decide) px (by rfl) (a_cons (s_var (pv 0)) (a_cons (s_call (c_len rfl) (a_cons (s_var (pv 1)) a_nil) (pe_callB (cl_u _ _) (by rfl) z_len PySem.boot_len (pa_u _ _))) a_nil))))))
theorem fn_l_mixed (z_list : mg "list" = none) (cal_l_draw : Ts.CalX P w K mg base 2 "_law_draw" (spM (Bk K at_) m_l_draw) []) (z_len : mg "len" = none) {f : Addr} {fd : FuncData} (F : C8.Fun K "_law_mixed" "_law_mixed" s_l_mixed f fd) :
    FnOk P w K mg base (L2.CX P w) 3 f fd ["_law_deal_here", "_law_some"] (spM (Bk K at_) m_l_mixed) :=
  fn_MX (B := Bk K at_) F sc_l_mixed fun cdv A outer s H E G hr px tk pw => by
    have hu := hr.units
    exact (b_cons (t_par (ps_par (i := 2) (j := 3) rfl sc_l_mixed.nd rfl rfl (by decide) rfl rfl (pa_u _ _) (by rfl)) (a_cons (s_call (c_listO rfl) (a_cons (s_var (pv 1)) a_nil) (pe_callTy (cl_u _ _) (by rfl) z_list PyProof.Rows.boot_list (pa_u _ _))) (a_cons (s_lstO a_nil) a_nil)))
  (b_cons (t_while pw (w_cmp (o_ne rfl hu) (s_var (pv 2)) (s_lst a_nil) (nomark _)) (b_one (t_expr (ps_expr (pe_u _ _)) (s_bm (b := .lst) rfl m_append (s_var (pv 3)) (a_cons (s_bm (b := .lst) rfl m_pop (s_var (pv 2)) (a_cons (s_cal cal_l_draw (fun _ _ => .nil) hr (by decide) px (by rfl) (a_cons (s_var (pv 0)) (a_cons (s_call (c_len rfl) (a_cons (s_var (pv 2)) a_nil) (pe_callB (cl_u _ _) (by rfl) z_len PySem.boot_len (pa_u _ _))) a_nil))) a_nil) (pe_bm PySem.F.plainAttrs_list PySem.F.slot_list_pop PySem.F.type_list_pop (mt_u _ _) (pe_u _ _) (pa_u _ _))) a_nil) (pe_bm PySem.F.plainAttrs_list PySem.F.slot_list_append PySem.F.type_list_append (mt_u _ _) (pe_u _ _) (pa_u _ _))))))
  (b_frz (b_one (t_ret (s_var (pv 3)))))))
theorem fn_l_names (cal_l_mixed : Ts.CalX P w K mg base 3 "_law_mixed" (spM (Bk K at_) m_l_mixed) []) {f : Addr} {fd : FuncData} (F : C8.Fun K "_law_names" "_law_names" s_l_names f fd) :
    FnOk P w K mg base (L2.CX P w) 4 f fd ["_law_deal_here", "_law_many"] (spM (Bk K at_) m_l_names) :=
  fn_MX (B := Bk K at_) F sc_l_names fun cdv A outer s H E G hr px tk pw => by
    have hu := hr.units
    exact (b_one (t_ret (s_sl rfl (s_cal cal_l_mixed (fun _ _ => .nil) hr (by decide) px (by rfl) (a_cons (s_var (pv 0)) (a_cons (s_lst (a_cons s_str (a_cons s_str (a_cons s_str (a_cons s_str (a_cons s_str (a_cons s_str (a_cons s_str (a_cons s_str (a_cons s_str (a_cons s_str a_nil))))))))))) a_nil))) p_none (p_some (s_var (pv 1))))))
theorem fn_l_kind (cal_l_pick : Ts.CalX P w K mg base 3 "_law_pick" (spM (Bk K at_) m_l_pick) []) (cal_l_draw : Ts.CalX P w K mg base 2 "_law_draw" (spM (Bk K at_) m_l_draw) []) {f : Addr} {fd : FuncData} (F : C8.Fun K "_law_kind" "_law_kind" s_l_kind f fd) :
    FnOk P w K mg base (L2.CX P w) 4 f fd ["_law_deal_here", "_law_word", "_law_most"] (spM (Bk K at_) m_l_kind) :=
  fn_MX (B := Bk K at_) F sc_l_kind fun cdv A outer s H E G hr px tk pw => by
    have hu := hr.units
    exact (b_cons (t_par (ps_par (i := 3) (j := 4) rfl sc_l_kind.nd rfl rfl (by decide) rfl rfl (pa_u _ _) (by rfl)) (a_cons (s_cal cal_l_pick (fun _ _ => .nil) hr (by decide) px (by rfl) (a_cons (s_var (pv 0)) (a_cons (s_lst (a_cons s_str (a_cons s_str (a_cons s_str a_nil)))) a_nil))) (a_cons (s_cal cal_l_pick (fun _ _ => .nil) hr (by decide) px (by rfl) (a_cons (s_var (pv 0)) (a_cons (s_lst (a_cons s_int (a_cons s_int (a_cons s_int (a_cons s_int (a_cons s_non a_nil)))))) a_nil))) a_nil)))
  (b_one (t_ret (s_tup (a_cons (s_var (pv 3)) (a_cons (s_var (pv 1)) (a_cons (s_op (o_add rfl) s_int (s_cal cal_l_draw (fun _ _ => .nil) hr (by decide) px (by rfl) (a_cons (s_var (pv 0)) (a_cons (s_var (pv 2)) a_nil)))) (a_cons (s_ifE (w_cmp (o_eq rfl hu) (s_var (pv 3)) s_str (nomark _)) (s_op (o_add rfl) s_int (s_cal cal_l_draw (fun _ _ => .nil) hr (by decide) px (by rfl) (a_cons (s_var (pv 0)) (a_cons (s_var (pv 2)) a_nil)))) s_int) (a_cons (s_var (pv 4)) a_nil)))))))))
theorem fn_l_rule (cal_l_mixed : Ts.CalX P w K mg base 3 "_law_mixed" (spM (Bk K at_) m_l_mixed) []) (z_list : mg "list" = none) (z_range : mg "range" = none) (cal_l_pick : Ts.CalX P w K mg base 3 "_law_pick" (spM (Bk K at_) m_l_pick) []) (z_int : mg "int" = none) (z_sorted : mg "sorted" = none) (cal_l_draw : Ts.CalX P w K mg base 2 "_law_draw" (spM (Bk K at_) m_l_draw) []) (cal_l_names : Ts.CalX P w K mg base 4 "_law_names" (spM (Bk K at_) m_l_names) []) (cal_l_kind : Ts.CalX P w K mg base 4 "_law_kind" (spM (Bk K at_) m_l_kind) []) (z_min : mg "min" = none) {f : Addr} {fd : FuncData} (F : C8.Fun K "_law_rule" "_law_rule" s_l_rule f fd) :
    FnOk P w K mg base (L2.CX P w) 5 f fd ["_law_deal_here", "_law_many", "_law_most"] (spM (Bk K at_) m_l_rule) :=
  fn_MX (B := Bk K at_) F sc_l_rule fun cdv A outer s H E G hr px tk pw => by
    have hu := hr.units
    exact (b_cons (t_set (ps_set (i := 3) sc_l_rule.nd rfl (Or.inl rfl) (pe_u _ _)) (s_call (c_sorted rfl) (a_cons (s_lc (own := [("_law_one", 4)]) rfl sc_l_rule.nd (blkOk_by (own := [("_law_one", 4)]) (N := n_l_rule) (sc := C8.fnScope s_l_rule) (by decide +kernel)) (i_seq rfl (s_sl rfl (s_cal cal_l_mixed (fun _ _ => .nil) hr (by decide) px (by rfl) (a_cons (s_var (pv 0)) (a_cons (s_lstRg (by rfl) z_list (by rfl) z_range s_int) a_nil))) p_none (p_some (s_cal cal_l_pick (fun _ _ => .nil) hr (by decide) px (by rfl) (a_cons (s_var (pv 0)) (a_cons (s_lst (a_cons s_int (a_cons s_int (a_cons s_int (a_cons s_int (a_cons s_int (a_cons s_int a_nil))))))) a_nil)))))) (fun _ _ _ _ _ _ => (g_name (pg_name (i := 4) sc_l_rule.nd rfl (Or.inl rfl)))) (fun _ _ _ _ _ _ => ts_nil) (fun _ _ _ _ _ _ => (s_call c_int (a_cons (s_var (pv 4)) a_nil) (pe_callTy (cl_u _ _) (by rfl) z_int PyProof.Rows.boot_int (pa_u _ _))))) a_nil) (pe_callB (cl_u _ _) (by rfl) z_sorted PyProof.Rows.boot_sorted (pa_u _ _))))
  (b_cons (t_set (ps_set (i := 5) sc_l_rule.nd rfl (Or.inl rfl) (pe_u _ _)) (s_cal cal_l_pick (fun _ _ => .nil) hr (by decide) px (by rfl) (a_cons (s_var (pv 0)) (a_cons (s_lst (a_cons s_non (a_cons s_non (a_cons s_non (a_cons (s_op (o_add rfl) s_int (s_cal cal_l_draw (fun _ _ => .nil) hr (by decide) px (by rfl) (a_cons (s_var (pv 0)) (a_cons (s_op (o_mul rfl) s_int (s_var (pv 2))) a_nil)))) a_nil))))) a_nil))))
  (b_cons (t_par (ps_par (i := 6) (j := 7) rfl sc_l_rule.nd rfl rfl (by decide) rfl rfl (pa_u _ _) (by rfl)) (a_cons (s_cal cal_l_names (fun _ _ => .nil) hr (by decide) px (by rfl) (a_cons (s_var (pv 0)) (a_cons (s_cal cal_l_draw (fun _ _ => .nil) hr (by decide) px (by rfl) (a_cons (s_var (pv 0)) (a_cons (s_op (o_add rfl) (s_var (pv 1)) s_int) a_nil))) a_nil))) (a_cons (s_op (o_add rfl) s_int (s_cal cal_l_draw (fun _ _ => .nil) hr (by decide) px (by rfl) (a_cons (s_var (pv 0)) (a_cons (s_var (pv 2)) a_nil)))) a_nil)))
  (b_cons (t_setLc (i := 8) (own := [("_law_word", 9)]) rfl sc_l_rule.nd rfl rfl (sw_true rfl rfl rfl (by decide +kernel)) (blkOk_by (own := [("_law_word", 9)]) (N := n_l_rule) (sc := C8.fnScope s_l_rule) (by decide +kernel)) (i_seq rfl (s_var (pv 6))) (fun _ _ _ _ _ _ => (g_name (pg_name (i := 9) sc_l_rule.nd rfl (Or.inl rfl)))) (fun _ _ _ _ _ _ => ts_nil) (fun _ _ _ _ _ _ => (s_cal cal_l_kind (fun _ _ => .nil) hr (by decide) passL (by rfl) (a_cons (s_var (pv 0)) (a_cons (s_var (pv 9)) (a_cons (s_var (pv 2)) a_nil))))))
  (b_cons (t_if (w_pt (w_and (w_cmp o_isnt (s_var (pv 5)) s_non (nomark _)) (w_and1 (w_cmp (o_ne rfl hu) (s_lc (own := [("_law_one", 4)]) rfl sc_l_rule.nd (blkOk_by (own := [("_law_one", 4)]) (N := n_l_rule) (sc := C8.fnScope s_l_rule) (by decide +kernel)) (i_seq rfl (s_var (pv 8))) (fun _ _ _ _ _ _ => (g_name (pg_name (i := 4) sc_l_rule.nd rfl (Or.inl rfl)))) (fun _ _ _ _ _ _ => (ts_one (w_cmp o_is (s_ix rfl (s_var (pv 4)) s_int) s_non (nomark _)))) (fun _ _ _ _ _ _ => (s_var (pv 4)))) (s_lst a_nil) (nomark _))))) (b_one (t_set (ps_set (i := 5) sc_l_rule.nd rfl (Or.inl rfl) (pe_u _ _)) (s_call (c_min2 rfl) (a_cons (s_call c_int (a_cons (s_var (pv 5)) a_nil) (pe_callTy (cl_u _ _) (by rfl) z_int PyProof.Rows.boot_int (pa_u _ _))) (a_cons (s_op (o_add rfl) (s_var (pv 7)) s_int) a_nil)) (pe_callB (cl_u _ _) (by rfl) z_min PyProof.Rows.boot_min (pa_u _ _))))) b_nil)
  (b_one (t_ret (s_tup (a_cons (s_var (pv 7)) (a_cons (s_var (pv 3)) (a_cons (s_var (pv 5)) (a_cons (s_var (pv 8)) a_nil))))))))))))
theorem fn_l_unsure (cal_l_draw : Ts.CalX P w K mg base 2 "_law_draw" (spM (Bk K at_) m_l_draw) []) (z_range : mg "range" = none) (cal_l_pick : Ts.CalX P w K mg base 3 "_law_pick" (spM (Bk K at_) m_l_pick) []) {f : Addr} {fd : FuncData} (F : C8.Fun K "_law_unsure" "_law_unsure" s_l_unsure f fd) :
    FnOk P w K mg base (L2.CX P w) 4 f fd ["_law_deal_here", "_law_told", "_law_many", "_law_most"] (spM (Bk K at_) m_l_unsure) :=
  fn_MX (B := Bk K at_) F sc_l_unsure fun cdv A outer s H E G hr px tk pw => by
    have hu := hr.units
    exact (b_cons (t_par3 (ps_par3 (i := 4) (j := 5) (l := 6) rfl sc_l_unsure.nd rfl rfl rfl (by decide) (by decide) (by decide) rfl rfl rfl (pa_u _ _) (by rfl)) (a_cons (s_op (o_add rfl) (s_lc (own := [("_law_one", 7)]) rfl sc_l_unsure.nd (blkOk_by (own := [("_law_one", 7)]) (N := n_l_unsure) (sc := C8.fnScope s_l_unsure) (by decide +kernel)) (i_seq rfl (s_ix rfl (s_var (pv 1)) s_int)) (fun _ _ _ _ _ _ => (g_name (pg_name (i := 7) sc_l_unsure.nd rfl (Or.inl rfl)))) (fun _ _ _ _ _ _ => ts_nil) (fun _ _ _ _ _ _ => (s_ix rfl (s_var (pv 7)) s_int))) (s_lst (a_cons s_str a_nil))) (a_cons (s_lstO a_nil) (a_cons s_int a_nil))))
  (b_cons (t_for pw rfl (i_rng1 (by rfl) z_range (a_cons (s_cal cal_l_draw (fun _ _ => .nil) hr (by decide) px (by rfl) (a_cons (s_var (pv 0)) (a_cons (s_op (o_add rfl) (s_var (pv 2)) s_int) a_nil))) a_nil)) (g_name (pg_name (i := 8) sc_l_unsure.nd rfl (Or.inl rfl))) (b_cons (t_par (ps_par (i := 9) (j := 10) rfl sc_l_unsure.nd rfl rfl (by decide) rfl rfl (pa_u _ _) (by rfl)) (a_cons (s_op (o_add rfl) s_int (s_cal cal_l_draw (fun _ _ => .nil) hr (by decide) px (by rfl) (a_cons (s_var (pv 0)) (a_cons s_int a_nil)))) (a_cons (s_cal cal_l_draw (fun _ _ => .nil) hr (by decide) px (by rfl) (a_cons (s_var (pv 0)) (a_cons (s_var (pv 3)) a_nil))) a_nil)))
  (b_cons (t_set (ps_set (i := 9) sc_l_unsure.nd rfl (Or.inl rfl) (pe_u _ _)) (s_ifE (w_cmp o_lt (s_op (o_mul rfl) (s_var (pv 9)) (s_var (pv 6))) s_int (nomark _)) (s_var (pv 9)) s_int))
  (b_cons (t_set (ps_set (i := 6) sc_l_unsure.nd rfl (Or.inl rfl) (pe_u _ _)) (s_op (o_mul rfl) (s_var (pv 6)) (s_var (pv 9))))
  (b_one (t_expr (ps_expr (pe_u _ _)) (s_bm (b := .lst) rfl m_append (s_var (pv 5)) (a_cons (s_tup (a_cons (s_var (pv 10)) (a_cons (s_op o_sub (s_op (o_add rfl) (s_var (pv 10)) (s_var (pv 9))) s_int) (a_cons (s_cal cal_l_pick (fun _ _ => .nil) hr (by decide) px (by rfl) (a_cons (s_var (pv 0)) (a_cons (s_var (pv 4)) a_nil))) (a_cons (s_op (o_add rfl) s_int (s_cal cal_l_draw (fun _ _ => .nil) hr (by decide) px (by rfl) (a_cons (s_var (pv 0)) (a_cons s_int a_nil)))) a_nil))))) a_nil) (pe_bm PySem.F.plainAttrs_list PySem.F.slot_list_append PySem.F.type_list_append (mt_u _ _) (pe_u _ _) (pa_u _ _)))))))))
  (b_frz (b_one (t_ret (s_var (pv 5)))))))
theorem fn_is_sequence (z_isinstance : mg "isinstance" = none) (z_list : mg "list" = none) (z_tuple : mg "tuple" = none) (ty_all : ∀ c, ownF c = true → TyOk (Bk K at_) c) (kb_list : ∀ c, ownF c = true → PySem.W.kitOne K (.ref (at_ c)) (.type "list") = some false) (kb_tuple : ∀ c, ownF c = true → PySem.W.kitOne K (.ref (at_ c)) (.type "tuple") = some false) {f : Addr} {fd : FuncData} (F : C8.Fun K "is_sequence" "is_sequence" s_is_sequence f fd) :
    FnOk P w K mg base (L2.CX P w) 2 f fd ["value"] (spM (Bk K at_) m_is_sequence) :=
  fn_MX (B := Bk K at_) F sc_is_sequence fun cdv A outer s H E G hr px tk pw => by
    have hu := hr.units
    exact (b_one (t_ret (s_isi2 (c1 := .ty "list") (c2 := .ty "tuple") rfl (s_var (pv 0)) (.ty _) (.ty _) (isB2_ok ty_all) (isB2_h (B := Bk K at_) kb_list kb_tuple) (pe_callB (cl_u _ _) (by rfl) z_isinstance PyProof.Rows.boot_isinstance (pa_cons (pe_u _ _) (pa_cons (pe_tup (pa_cons (pe_bltn (v := .ty "list") (by rfl) z_list PyProof.Rows.boot_list rfl) (pa_cons (pe_bltn (v := .ty "tuple") (by rfl) z_tuple PyProof.Rows.boot_tuple rfl) pa_nil))) pa_nil))))))
theorem err_InvalidUnsure {fI C : Addr} {fd : FuncData} (F : C8.Fun K "__init__" "InvalidUnsure.__init__" s_InvalidUnsure_init fI fd) (df : fd.defaults = .none) (T : OexC K C) (iC : PySem.W.findIn K (.ref C) "__init__" = some (some (.ref fI))) (tI : PySem.W.typeIn K (.ref fI) = some (.type "function"))
    (no : PySem.W.findIn K (.ref C) "at" = some none) (hm : mg "InvalidUnsure" = some (.ref C)) : Ts.Err P w K mg base "InvalidUnsure" C "at" := by
  refine ⟨fI, fd, ["self", "at"], T, iC, tI, ?_, C8.Fun.binds F df (ps := ["self", "at"]) fun _ _ _ _ _ _ us hl => match us, hl with | [_, _], _ => rfl, hm⟩
  refine C8.fn0 F sc_InvalidUnsure_init (fun vs H Q E h => ?_) (fun cdv A outer s H vs Q E hr h => ?_)
  · obtain ⟨a, v, rfl, _⟩ := h
    rfl
  · obtain ⟨a, v, rfl, ha, k⟩ := h
    exact ⟨_, pss_one (ps_ost (pv 0) (pv 1) rfl), _, rfl, _, rfl, a, C, rfl, T, no, .inl ⟨ha, fun dx n ne => k dx n ne⟩⟩
theorem fn_is_integer (z_isinstance : mg "isinstance" = none) (z_bool : mg "bool" = none) (ty_all : ∀ c, ownF c = true → TyOk (Bk K at_) c) (kb_bool : ∀ c, ownF c = true → PySem.W.kitOne K (.ref (at_ c)) (.type "bool") = some false) (z_int : mg "int" = none) (kb_int : ∀ c, ownF c = true → PySem.W.kitOne K (.ref (at_ c)) (.type "int") = some false) {f : Addr} {fd : FuncData} (F : C8.Fun K "is_integer" "is_integer" s_is_integer f fd) :
    FnOk P w K mg base (L2.CX P w) 2 f fd ["value"] (spM (Bk K at_) m_is_integer) :=
  fn_MX (B := Bk K at_) F sc_is_integer fun cdv A outer s H E G hr px tk pw => by
    have hu := hr.units
    exact (b_one (t_ret (s_and (s_isi (cv := .ty "int") rfl (by rfl) z_isinstance PyProof.Rows.boot_isinstance (s_var (pv 0)) (pe_bltn (v := .ty "int") (by rfl) z_int PyProof.Rows.boot_int rfl) (.ty _) (isB_ok ty_all) (isB_h (B := Bk K at_) kb_int) (pe_callB (cl_u _ _) (by rfl) z_isinstance PyProof.Rows.boot_isinstance (pa_cons (pe_u _ _) (pa_cons (pe_bltn (v := .ty "int") (by rfl) z_int PyProof.Rows.boot_int rfl) pa_nil)))) (s_one (s_not (s_isi (cv := .ty "bool") rfl (by rfl) z_isinstance PyProof.Rows.boot_isinstance (s_var (pv 0)) (pe_bltn (v := .ty "bool") (by rfl) z_bool PyProof.Rows.boot_bool rfl) (.ty _) (isB_ok ty_all) (isB_h (B := Bk K at_) kb_bool) (pe_callB (cl_u _ _) (by rfl) z_isinstance PyProof.Rows.boot_isinstance (pa_cons (pe_u _ _) (pa_cons (pe_bltn (v := .ty "bool") (by rfl) z_bool PyProof.Rows.boot_bool rfl) pa_nil)))))))))
theorem fn_is_number (cal_is_integer : Ts.CalX P w K mg base 2 "is_integer" (spM (Bk K at_) m_is_integer) []) {f : Addr} {fd : FuncData} (F : C8.Fun K "is_number" "is_number" s_is_number f fd) :
    FnOk P w K mg base (L2.CX P w) 3 f fd ["value"] (spM (Bk K at_) m_is_number) :=
  fn_MX (B := Bk K at_) F sc_is_number fun cdv A outer s H E G hr px tk pw => by
    have hu := hr.units
    exact (b_one (t_ret (s_and (s_cal cal_is_integer (fun _ _ => .nil) hr (by decide) px (by rfl) (a_cons (s_var (pv 0)) a_nil)) (s_one (s_cmp o_ge (s_var (pv 0)) s_int (nomark _))))))
theorem fn_is_name (g_NO_NAMES : mg "NO_NAMES" = some (.ref A_NO_NAMES)) (T_NO_NAMES : ∀ H, SqT K H A_NO_NAMES [.str "any", .str "none", .str "anew", .str "lift", .str "term"]) (z_isinstance : mg "isinstance" = none) (z_str : mg "str" = none) (ty_all : ∀ c, ownF c = true → TyOk (Bk K at_) c) (kb_str : ∀ c, ownF c = true → PySem.W.kitOne K (.ref (at_ c)) (.type "str") = some false) (c_LETTERS : ∃ u, mg "LETTERS" = some u ∧ RelV (.str "abcdefghijklmnopqrstuvwxyz") u) (z_all : mg "all" = none) (z_len : mg "len" = none) (c_MOST_LETTERS : ∃ u, mg "MOST_LETTERS" = some u ∧ RelV (.int 4) u) {f : Addr} {fd : FuncData} (F : C8.Fun K "is_name" "is_name" s_is_name f fd) :
    FnOk P w K mg base (L2.CX P w) 2 f fd ["value"] (spM (Bk K at_) m_is_name) :=
  fn_MX (B := Bk K at_) F sc_is_name fun cdv A outer s H E G hr px tk pw => by
    have hu := hr.units
    exact (b_cons (t_if (w_pt (w_or (w_not (w_tru rfl (s_isi (cv := .ty "str") rfl (by rfl) z_isinstance PyProof.Rows.boot_isinstance (s_var (pv 0)) (pe_bltn (v := .ty "str") (by rfl) z_str PyProof.Rows.boot_str rfl) (.ty _) (isB_ok ty_all) (isB_h (B := Bk K at_) kb_str) (pe_callB (cl_u _ _) (by rfl) z_isinstance PyProof.Rows.boot_isinstance (pa_cons (pe_u _ _) (pa_cons (pe_bltn (v := .ty "str") (by rfl) z_str PyProof.Rows.boot_str rfl) pa_nil)))))) (w_or1 (w_cmp (o_in rfl) (s_var (pv 0)) (s_const (v := .ref A_NO_NAMES) (pe_glob (by rfl) g_NO_NAMES rfl) fun F _ => .tup (T_NO_NAMES F) (.cons (.str "any") (.cons (.str "none") (.cons (.str "anew") (.cons (.str "lift") (.cons (.str "term") (.nil))))))) (by rfl))))) (b_one (t_ret s_bl)) b_nil)
  (b_one (t_ret (s_and (s_chain o_le o_le s_int (s_call (c_len rfl) (a_cons (s_var (pv 0)) a_nil) (pe_callB (cl_u _ _) (by rfl) z_len PySem.boot_len (pa_u _ _))) (s_const (v := .int 4) (C8.pe_gc (by rfl) c_MOST_LETTERS) fun _ _ => .int 4)) (s_one (s_call (c_all rfl rfl) (a_cons (s_lc (own := [("sign", 1)]) rfl sc_is_name.nd (blkOk_by (own := [("sign", 1)]) (N := n_is_name) (sc := C8.fnScope s_is_name) (by decide +kernel)) (i_seq rfl (s_var (pv 0))) (fun _ _ _ _ _ _ => (g_name (pg_name (i := 1) sc_is_name.nd rfl (Or.inl rfl)))) (fun _ _ _ _ _ _ => ts_nil) (fun _ _ _ _ _ _ => (s_cmp (o_in rfl) (s_var (pv 1)) (s_const (v := .str "abcdefghijklmnopqrstuvwxyz") (C8.pe_gc (by rfl) c_LETTERS) fun _ _ => .str "abcdefghijklmnopqrstuvwxyz") (by rfl)))) a_nil) (pe_callB (cl_u _ _) (by rfl) z_all PyProof.Rows.boot_all (pa_u _ _))))))))
theorem fn_is_count (cal_is_integer : Ts.CalX P w K mg base 2 "is_integer" (spM (Bk K at_) m_is_integer) []) {f : Addr} {fd : FuncData} (F : C8.Fun K "is_count" "is_count" s_is_count f fd) :
    FnOk P w K mg base (L2.CX P w) 3 f fd ["value"] (spM (Bk K at_) m_is_count) :=
  fn_MX (B := Bk K at_) F sc_is_count fun cdv A outer s H E G hr px tk pw => by
    have hu := hr.units
    exact (b_one (t_ret (s_and (s_cal cal_is_integer (fun _ _ => .nil) hr (by decide) px (by rfl) (a_cons (s_var (pv 0)) a_nil)) (s_one (s_cmp o_ge (s_var (pv 0)) s_int (nomark _))))))
theorem fn_is_unsure (z_len : mg "len" = none) (z_isinstance : mg "isinstance" = none) (z_tuple : mg "tuple" = none) (ty_all : ∀ c, ownF c = true → TyOk (Bk K at_) c) (kb_tuple : ∀ c, ownF c = true → PySem.W.kitOne K (.ref (at_ c)) (.type "tuple") = some false) (cal_is_count : Ts.CalX P w K mg base 3 "is_count" (spM (Bk K at_) m_is_count) []) (cal_is_name : Ts.CalX P w K mg base 2 "is_name" (spM (Bk K at_) m_is_name) []) (cal_is_number : Ts.CalX P w K mg base 3 "is_number" (spM (Bk K at_) m_is_number) []) {f : Addr} {fd : FuncData} (F : C8.Fun K "is_unsure" "is_unsure" s_is_unsure f fd) :
    FnOk P w K mg base (L2.CX P w) 4 f fd ["value"] (spM (Bk K at_) m_is_unsure) :=
  fn_MX (B := Bk K at_) F sc_is_unsure fun cdv A outer s H E G hr px tk pw => by
    have hu := hr.units
    exact (b_cons (t_if (w_pt (w_or (w_not (w_tru rfl (s_isi (cv := .ty "tuple") rfl (by rfl) z_isinstance PyProof.Rows.boot_isinstance (s_var (pv 0)) (pe_bltn (v := .ty "tuple") (by rfl) z_tuple PyProof.Rows.boot_tuple rfl) (.ty _) (isB_ok ty_all) (isB_h (B := Bk K at_) kb_tuple) (pe_callB (cl_u _ _) (by rfl) z_isinstance PyProof.Rows.boot_isinstance (pa_cons (pe_u _ _) (pa_cons (pe_bltn (v := .ty "tuple") (by rfl) z_tuple PyProof.Rows.boot_tuple rfl) pa_nil)))))) (w_or1 (w_cmp (o_ne rfl hu) (s_call (c_len rfl) (a_cons (s_var (pv 0)) a_nil) (pe_callB (cl_u _ _) (by rfl) z_len PySem.boot_len (pa_u _ _))) s_int (nomark _))))) (b_one (t_ret s_bl)) b_nil)
  (b_cons (t_asg (ps_asg (pe_u _ _) (pg_u _ _)) (g_tup rfl rfl (g_cons (g_name (pg_name (i := 1) sc_is_unsure.nd rfl (Or.inl rfl))) (g_cons (g_name (pg_name (i := 2) sc_is_unsure.nd rfl (Or.inl rfl))) (g_cons (g_name (pg_name (i := 3) sc_is_unsure.nd rfl (Or.inl rfl))) (g_cons (g_name (pg_name (i := 4) sc_is_unsure.nd rfl (Or.inl rfl))) g_nilC))))) (s_var (pv 0)))
  (b_one (t_ret (s_and (s_cal cal_is_number (fun _ _ => .nil) hr (by decide) px (by rfl) (a_cons (s_var (pv 1)) a_nil)) (s_and (s_cal cal_is_number (fun _ _ => .nil) hr (by decide) px (by rfl) (a_cons (s_var (pv 2)) a_nil)) (s_and (s_cmp o_le (s_var (pv 1)) (s_var (pv 2)) (nomark _)) (s_and (s_cal cal_is_name (fun _ _ => .nil) hr (by decide) px (by rfl) (a_cons (s_var (pv 3)) a_nil)) (s_one (s_cal cal_is_count (fun _ _ => .nil) hr (by decide) px (by rfl) (a_cons (s_var (pv 4)) a_nil)))))))))))
theorem fn_Unsure_init (cal_is_sequence : Ts.CalX P w K mg base 2 "is_sequence" (spM (Bk K at_) m_is_sequence) []) (er_InvalidUnsure : Ts.Err P w K mg base "InvalidUnsure" (at_ 2) "at") (z_enumerate : mg "enumerate" = none) (cal_is_unsure : Ts.CalX P w K mg base 4 "is_unsure" (spM (Bk K at_) m_is_unsure) []) (z_tuple : mg "tuple" = none) (ok_Unsure : ClsOk (Bk K at_) 3) {f : Addr} {fd : FuncData} (F : C8.Fun K "__init__" "Unsure.__init__" s_Unsure_init f fd) :
    FnOk P w K mg base (L2.CX P w) 5 f fd ["self", "occasions"] (spM (Bk K at_) m_Unsure_init) :=
  fn_MX (B := Bk K at_) F sc_Unsure_init fun cdv A outer s H E G hr px tk pw => by
    have hu := hr.units
    exact (b_cons (t_if (w_not (w_tru rfl (s_cal cal_is_sequence (fun _ _ => .nil) hr (by decide) px (by rfl) (a_cons (s_var (pv 1)) a_nil)))) (b_one (t_raise (k := 0) (c := 2) rfl tk er_InvalidUnsure rfl hr (by decide) (by rfl) (a_cons s_int a_nil))) b_nil)
  (b_cons (t_for pw rfl (i_enum rfl (by rfl) z_enumerate (a_cons (s_var (pv 1)) a_nil)) (g_tup rfl rfl (g_cons (g_name (pg_name (i := 2) sc_Unsure_init.nd rfl (Or.inl rfl))) (g_cons (g_name (pg_name (i := 3) sc_Unsure_init.nd rfl (Or.inl rfl))) g_nilC))) (b_one (t_if (w_not (w_tru rfl (s_cal cal_is_unsure (fun _ _ => .nil) hr (by decide) px (by rfl) (a_cons (s_var (pv 3)) a_nil)))) (b_one (t_raise (k := 0) (c := 2) rfl tk er_InvalidUnsure rfl hr (by decide) (by rfl) (a_cons (s_var (pv 2)) a_nil))) b_nil)))
  (b_one (t_fld rfl (s_var (pv 0)) (s_call (c_tup rfl) (a_cons (s_var (pv 1)) a_nil) (pe_callTy (cl_u _ _) (by rfl) z_tuple PyProof.Rows.boot_tuple (pa_u _ _))) (ix_cons ok_Unsure rfl ix_nil) rfl))))
theorem fn_l_any {r : List T → M T} {v : Nat} (hv : 3 ≤ v) (cal_l_draw : Ts.CalX P w K mg base 2 "_law_draw" (spM (Bk K at_) m_l_draw) []) (z_range : mg "range" = none) (z_tuple : mg "tuple" = none) (cal_l_pick : Ts.CalX P w K mg base 3 "_law_pick" (spM (Bk K at_) m_l_pick) []) (cal_rec : Ts.CalX P w K mg base v "_law_any" (spM (Bk K at_) r) []) {f : Addr} {fd : FuncData} (F : C8.Fun K "_law_any" "_law_any" s_l_any f fd) :
    FnOk P w K mg base (L2.CX P w) (v + 1) f fd ["_law_deal_here", "_law_deep"] (spM (Bk K at_) (mDef 2 5 (b_l_any r))) :=
  fn_MX (B := Bk K at_) F sc_l_any fun cdv A outer s H E G hr px tk pw => by
    have hu := hr.units
    exact (b_cons (t_set (ps_set (i := 2) sc_l_any.nd rfl (Or.inl rfl) (pe_u _ _)) (s_cal cal_l_draw (fun _ _ => .nil) hr (by omega) px (by rfl) (a_cons (s_var (pv 0)) (a_cons s_int a_nil))))
  (b_cons (t_if (w_pt (w_and (w_cmp o_gt (s_var (pv 1)) s_int (nomark _)) (w_and1 (w_cmp o_lt (s_var (pv 2)) s_int (nomark _))))) (b_cons (t_setLc (i := 3) (own := [("_law_k", 4)]) rfl sc_l_any.nd rfl rfl (sw_true rfl rfl rfl (by decide +kernel)) (blkOk_by (own := [("_law_k", 4)]) (N := n_l_any) (sc := C8.fnScope s_l_any) (by decide +kernel)) (i_rng1 (by rfl) z_range (a_cons (s_cal cal_l_draw (fun _ _ => .nil) hr (by omega) px (by rfl) (a_cons (s_var (pv 0)) (a_cons s_int a_nil))) a_nil)) (fun _ _ _ _ _ _ => (g_name (pg_name (i := 4) sc_l_any.nd rfl (Or.inl rfl)))) (fun _ _ _ _ _ _ => ts_nil) (fun _ _ _ _ _ _ => (s_cal cal_rec (fun _ _ => .nil) hr (by omega) passL (by rfl) (a_cons (s_var (pv 0)) (a_cons (s_op o_sub (s_var (pv 1)) s_int) a_nil)))))
  (b_one (t_ret (s_ifE (w_cmp o_lt (s_var (pv 2)) s_int (nomark _)) (s_call (c_tup rfl) (a_cons (s_var (pv 3)) a_nil) (pe_callTy (cl_u _ _) (by rfl) z_tuple PyProof.Rows.boot_tuple (pa_u _ _))) (s_var (pv 3)))))) b_nil)
  (b_cons (t_if (w_cmp o_lt (s_var (pv 2)) s_int (nomark _)) (b_one (t_ret (s_cal cal_l_pick (fun _ _ => .nil) hr (by omega) px (by rfl) (a_cons (s_var (pv 0)) (a_cons (s_lst (a_cons s_int (a_cons s_int (a_cons (s_neg s_int) (a_cons s_int (a_cons (s_op o_pow s_int s_int) (a_cons s_bl (a_cons s_bl (a_cons s_non a_nil))))))))) a_nil))))) b_nil)
  (b_one (t_ret (s_cal cal_l_pick (fun _ _ => .nil) hr (by omega) px (by rfl) (a_cons (s_var (pv 0)) (a_cons (s_lst (a_cons s_str (a_cons s_str (a_cons s_str (a_cons s_str (a_cons s_str (a_cons s_str (a_cons s_str (a_cons s_str (a_cons s_str (a_cons s_str a_nil))))))))))) a_nil))))))))
theorem fn_l_any_0 {f : Addr} {fd : FuncData} (F : C8.Fun K "_law_any" "_law_any" s_l_any f fd) :
    FnOk P w K mg base (L2.CX P w) 3 f fd ["_law_deal_here", "_law_deep"] (spM (Bk K at_) (m_l_any 0)) :=
  fn_MX (B := Bk K at_) (k := 2) F sc_l_any fun cdv A outer s H E G hr px tk pw σ H F α env cs fl cs1 he hs hm D q => by cases hm
theorem fn_l_heard (g_InvalidUnsure : mg "InvalidUnsure" = some (.ref (at_ 2))) (te_InvalidUnsure : PySem.W.exmOne K (.ref (at_ 2)) (.ref (at_ 2)) = some true) (mk_Unsure : Ts.MakX P w K mg base 5 "Unsure" (at_ 3) (spM (Bk K at_) m_Unsure_init) []) (z_isinstance : mg "isinstance" = none) (ec_InvalidUnsure : ExcC K (at_ 2)) (g_TermError : mg "TermError" = some (.ref (at_ 0))) (xk_InvalidUnsure__TermError : PySem.W.kitOne K (.ref (at_ 2)) (.ref (at_ 0)) = some true) (g_InvalidStory : mg "InvalidStory" = some (.ref (at_ 1))) (xk_InvalidUnsure__InvalidStory : PySem.W.kitOne K (.ref (at_ 2)) (.ref (at_ 1)) = some false) (xf_InvalidUnsure : XfC K (at_ 2)) (xn_InvalidUnsure : PySem.W.findIn K (.ref (at_ 2)) "at" = some none) {f : Addr} {fd : FuncData} (F : C8.Fun K "_law_heard" "_law_heard" s_l_heard f fd) :
    FnOk P w K mg base (L2.CX P w) 7 f fd ["_law_value"] (spM (Bk K at_) m_l_heard) :=
  fn_MX (B := Bk K at_) F sc_l_heard fun cdv A outer s H E G hr px tk pw => by
    have hu := hr.units
    exact (b_cons (t_set (ps_set (i := 1) sc_l_heard.nd rfl (Or.inl rfl) (pe_u _ _)) s_non)
  (b_cons (t_try1 (i := 2) (j := 1) (n := 3) (c := 2) rfl rfl sc_l_heard.nd rfl rfl ⟨rfl, by decide, .inl g_InvalidUnsure⟩ rfl (by decide) (by decide) te_InvalidUnsure (fun _ _ _ tk2 pw2 => (b_one (t_expr (ps_expr (pe_u _ _)) (s_make (c := 3) mk_Unsure rfl (fun _ _ => .nil) hr (by decide) (Ts.passesN 3 tk2 rfl) (by rfl) (a_cons (s_var (pv 0)) a_nil)))))
  (eg_ifE (ts_and (ts_is (cv := (.ref (at_ 0))) (cu := (.ref (at_ 0))) ec_InvalidUnsure (fun _ r => r) xk_InvalidUnsure__TermError (fun _ _ _ _ cr => pe_callB cr (by rfl) z_isinstance PyProof.Rows.boot_isinstance (pa_cons (pv 2) (pa_cons (pe_glob (v := .ref (at_ 0)) (by rfl) g_TermError rfl) pa_nil)))) (ts_not (ts_is (cv := (.ref (at_ 1))) (cu := (.ref (at_ 1))) ec_InvalidUnsure (fun _ r => r) xk_InvalidUnsure__InvalidStory (fun _ _ _ _ cr => pe_callB cr (by rfl) z_isinstance PyProof.Rows.boot_isinstance (pa_cons (pv 2) (pa_cons (pe_glob (v := .ref (at_ 1)) (by rfl) g_InvalidStory rfl) pa_nil)))))) (eg_of (es_pay xf_InvalidUnsure xn_InvalidUnsure rfl (fun _ _ _ => pv 2))) (eg_of (es_c (v := .str "other") (fun _ => pe_str) fun _ _ => .str _))) (fun _ _ _ _ he => pss_one (ps_set (i := 1) sc_l_heard.nd rfl (Or.inl rfl) he)))
  (b_one (t_ret (s_var (pv 1))))))
theorem fn_l_is_day (z_isinstance : mg "isinstance" = none) (z_bool : mg "bool" = none) (ty_all : ∀ c, ownF c = true → TyOk (Bk K at_) c) (kb_bool : ∀ c, ownF c = true → PySem.W.kitOne K (.ref (at_ c)) (.type "bool") = some false) (z_int : mg "int" = none) (kb_int : ∀ c, ownF c = true → PySem.W.kitOne K (.ref (at_ c)) (.type "int") = some false) {f : Addr} {fd : FuncData} (F : C8.Fun K "_law_is_day" "_law_is_day" s_l_is_day f fd) :
    FnOk P w K mg base (L2.CX P w) 2 f fd ["_law_value", "_law_low"] (spM (Bk K at_) m_l_is_day) :=
  fn_MX (B := Bk K at_) F sc_l_is_day fun cdv A outer s H E G hr px tk pw => by
    have hu := hr.units
    exact (b_one (t_ret (s_and (s_isi (cv := .ty "int") rfl (by rfl) z_isinstance PyProof.Rows.boot_isinstance (s_var (pv 0)) (pe_bltn (v := .ty "int") (by rfl) z_int PyProof.Rows.boot_int rfl) (.ty _) (isB_ok ty_all) (isB_h (B := Bk K at_) kb_int) (pe_callB (cl_u _ _) (by rfl) z_isinstance PyProof.Rows.boot_isinstance (pa_cons (pe_u _ _) (pa_cons (pe_bltn (v := .ty "int") (by rfl) z_int PyProof.Rows.boot_int rfl) pa_nil)))) (s_and (s_not (s_isi (cv := .ty "bool") rfl (by rfl) z_isinstance PyProof.Rows.boot_isinstance (s_var (pv 0)) (pe_bltn (v := .ty "bool") (by rfl) z_bool PyProof.Rows.boot_bool rfl) (.ty _) (isB_ok ty_all) (isB_h (B := Bk K at_) kb_bool) (pe_callB (cl_u _ _) (by rfl) z_isinstance PyProof.Rows.boot_isinstance (pa_cons (pe_u _ _) (pa_cons (pe_bltn (v := .ty "bool") (by rfl) z_bool PyProof.Rows.boot_bool rfl) pa_nil))))) (s_one (s_cmp o_ge (s_var (pv 0)) (s_var (pv 1)) (nomark _)))))))
theorem fn_l_is_title (z_len : mg "len" = none) (z_isinstance : mg "isinstance" = none) (z_str : mg "str" = none) (ty_all : ∀ c, ownF c = true → TyOk (Bk K at_) c) (kb_str : ∀ c, ownF c = true → PySem.W.kitOne K (.ref (at_ c)) (.type "str") = some false) {f : Addr} {fd : FuncData} (F : C8.Fun K "_law_is_title" "_law_is_title" s_l_is_title f fd) :
    FnOk P w K mg base (L2.CX P w) 2 f fd ["_law_value"] (spM (Bk K at_) m_l_is_title) :=
  fn_MX (B := Bk K at_) F sc_l_is_title fun cdv A outer s H E G hr px tk pw => by
    have hu := hr.units
    exact (b_cons (t_if (w_pt (w_or (w_not (w_tru rfl (s_isi (cv := .ty "str") rfl (by rfl) z_isinstance PyProof.Rows.boot_isinstance (s_var (pv 0)) (pe_bltn (v := .ty "str") (by rfl) z_str PyProof.Rows.boot_str rfl) (.ty _) (isB_ok ty_all) (isB_h (B := Bk K at_) kb_str) (pe_callB (cl_u _ _) (by rfl) z_isinstance PyProof.Rows.boot_isinstance (pa_cons (pe_u _ _) (pa_cons (pe_bltn (v := .ty "str") (by rfl) z_str PyProof.Rows.boot_str rfl) pa_nil)))))) (w_or (w_cmp (o_in rfl) (s_var (pv 0)) (s_tup (a_cons s_str (a_cons s_str (a_cons s_str (a_cons s_str (a_cons s_str a_nil)))))) (by rfl)) (w_or1 (w_not (w_chain o_lt o_lt s_int (s_call (c_len rfl) (a_cons (s_var (pv 0)) a_nil) (pe_callB (cl_u _ _) (by rfl) z_len PySem.boot_len (pa_u _ _))) s_int)))))) (b_one (t_ret s_bl)) b_nil)
  (b_one (t_ret (s_cmp (o_eq rfl hu) (s_lc (own := [("_law_letter", 1)]) rfl sc_l_is_title.nd (blkOk_by (own := [("_law_letter", 1)]) (N := n_l_is_title) (sc := C8.fnScope s_l_is_title) (by decide +kernel)) (i_seq rfl (s_var (pv 0))) (fun _ _ _ _ _ _ => (g_name (pg_name (i := 1) sc_l_is_title.nd rfl (Or.inl rfl)))) (fun _ _ _ _ _ _ => (ts_one (w_cmp (o_nin rfl) (s_var (pv 1)) s_str (by rfl)))) (fun _ _ _ _ _ _ => (s_var (pv 1)))) (s_lst a_nil) (nomark _)))))
theorem fn_l_is_one (cal_l_is_day : Ts.CalX P w K mg base 2 "_law_is_day" (spM (Bk K at_) m_l_is_day) []) (cal_l_is_title : Ts.CalX P w K mg base 2 "_law_is_title" (spM (Bk K at_) m_l_is_title) []) (z_len : mg "len" = none) (z_isinstance : mg "isinstance" = none) (z_tuple : mg "tuple" = none) (ty_all : ∀ c, ownF c = true → TyOk (Bk K at_) c) (kb_tuple : ∀ c, ownF c = true → PySem.W.kitOne K (.ref (at_ c)) (.type "tuple") = some false) {f : Addr} {fd : FuncData} (F : C8.Fun K "_law_is_one" "_law_is_one" s_l_is_one f fd) :
    FnOk P w K mg base (L2.CX P w) 3 f fd ["_law_value"] (spM (Bk K at_) m_l_is_one) :=
  fn_MX (B := Bk K at_) F sc_l_is_one fun cdv A outer s H E G hr px tk pw => by
    have hu := hr.units
    exact (b_cons (t_if (w_pt (w_or (w_not (w_tru rfl (s_isi (cv := .ty "tuple") rfl (by rfl) z_isinstance PyProof.Rows.boot_isinstance (s_var (pv 0)) (pe_bltn (v := .ty "tuple") (by rfl) z_tuple PyProof.Rows.boot_tuple rfl) (.ty _) (isB_ok ty_all) (isB_h (B := Bk K at_) kb_tuple) (pe_callB (cl_u _ _) (by rfl) z_isinstance PyProof.Rows.boot_isinstance (pa_cons (pe_u _ _) (pa_cons (pe_bltn (v := .ty "tuple") (by rfl) z_tuple PyProof.Rows.boot_tuple rfl) pa_nil)))))) (w_or (w_cmp (o_ne rfl hu) (s_call (c_len rfl) (a_cons (s_var (pv 0)) a_nil) (pe_callB (cl_u _ _) (by rfl) z_len PySem.boot_len (pa_u _ _))) s_int (nomark _)) (w_or (w_not (w_tru rfl (s_cal cal_l_is_title (fun _ _ => .nil) hr (by decide) px (by rfl) (a_cons (s_ix rfl (s_var (pv 0)) s_int) a_nil)))) (w_or1 (w_not (w_tru rfl (s_cal cal_l_is_day (fun _ _ => .nil) hr (by decide) px (by rfl) (a_cons (s_ix rfl (s_var (pv 0)) s_int) (a_cons s_int a_nil)))))))))) (b_one (t_ret s_bl)) b_nil)
  (b_one (t_ret (s_and (s_cal cal_l_is_day (fun _ _ => .nil) hr (by decide) px (by rfl) (a_cons (s_ix rfl (s_var (pv 0)) s_int) (a_cons s_int a_nil))) (s_and (s_cal cal_l_is_day (fun _ _ => .nil) hr (by decide) px (by rfl) (a_cons (s_ix rfl (s_var (pv 0)) s_int) (a_cons s_int a_nil))) (s_one (s_cmp o_le (s_ix rfl (s_var (pv 0)) s_int) (s_ix rfl (s_var (pv 0)) s_int) (nomark _))))))))
theorem fn_l_due (z_isinstance : mg "isinstance" = none) (z_list : mg "list" = none) (z_tuple : mg "tuple" = none) (ty_all : ∀ c, ownF c = true → TyOk (Bk K at_) c) (kb_list : ∀ c, ownF c = true → PySem.W.kitOne K (.ref (at_ c)) (.type "list") = some false) (kb_tuple : ∀ c, ownF c = true → PySem.W.kitOne K (.ref (at_ c)) (.type "tuple") = some false) (z_enumerate : mg "enumerate" = none) (cal_l_is_one : Ts.CalX P w K mg base 3 "_law_is_one" (spM (Bk K at_) m_l_is_one) []) {f : Addr} {fd : FuncData} (F : C8.Fun K "_law_due" "_law_due" s_l_due f fd) :
    FnOk P w K mg base (L2.CX P w) 4 f fd ["_law_value"] (spM (Bk K at_) m_l_due) :=
  fn_MX (B := Bk K at_) F sc_l_due fun cdv A outer s H E G hr px tk pw => by
    have hu := hr.units
    exact (b_cons (t_if (w_not (w_tru rfl (s_isi2 (c1 := .ty "list") (c2 := .ty "tuple") rfl (s_var (pv 0)) (.ty _) (.ty _) (isB2_ok ty_all) (isB2_h (B := Bk K at_) kb_list kb_tuple) (pe_callB (cl_u _ _) (by rfl) z_isinstance PyProof.Rows.boot_isinstance (pa_cons (pe_u _ _) (pa_cons (pe_tup (pa_cons (pe_bltn (v := .ty "list") (by rfl) z_list PyProof.Rows.boot_list rfl) (pa_cons (pe_bltn (v := .ty "tuple") (by rfl) z_tuple PyProof.Rows.boot_tuple rfl) pa_nil))) pa_nil)))))) (b_one (t_ret s_int)) b_nil)
  (b_cons (t_setLc (i := 1) (own := [("_law_spot", 2), ("_law_one", 3)]) rfl sc_l_due.nd rfl rfl (sw_true rfl rfl rfl (by decide +kernel)) (blkOk_by (own := [("_law_spot", 2), ("_law_one", 3)]) (N := n_l_due) (sc := C8.fnScope s_l_due) (by decide +kernel)) (i_enum rfl (by rfl) z_enumerate (a_cons (s_var (pv 0)) a_nil)) (fun _ _ _ _ _ _ => (g_tup rfl rfl (g_cons (g_name (pg_name (i := 2) sc_l_due.nd rfl (Or.inl rfl))) (g_cons (g_name (pg_name (i := 3) sc_l_due.nd rfl (Or.inl rfl))) g_nilC)))) (fun _ _ _ _ _ _ => (ts_one (w_not (w_tru rfl (s_cal cal_l_is_one (fun _ _ => .nil) hr (by decide) passL (by rfl) (a_cons (s_var (pv 3)) a_nil)))))) (fun _ _ _ _ _ _ => (s_var (pv 2))))
  (b_one (t_ret (s_ifE (w_cmp (o_ne rfl hu) (s_var (pv 1)) (s_lst a_nil) (nomark _)) (s_ix rfl (s_var (pv 1)) s_int) s_non)))))
theorem fn_law_ (cal_l_deal : Ts.CalX P w K mg base 2 "_law_deal" (spM (Bk K at_) m_l_deal) []) (z_range : mg "range" = none) (cal_l_rule : Ts.CalX P w K mg base 5 "_law_rule" (spM (Bk K at_) m_l_rule) []) (cal_l_unsure : Ts.CalX P w K mg base 4 "_law_unsure" (spM (Bk K at_) m_l_unsure) []) (z_list : mg "list" = none) (mk_Unsure : Ts.MakX P w K mg base 5 "Unsure" (at_ 3) (spM (Bk K at_) m_Unsure_init) []) (z_tuple : mg "tuple" = none) (ok_Unsure : ClsOk (Bk K at_) 3) (z_repr : mg "repr" = none) (cal_l_draw : Ts.CalX P w K mg base 2 "_law_draw" (spM (Bk K at_) m_l_draw) []) (z_len : mg "len" = none) (cal_l_pick : Ts.CalX P w K mg base 3 "_law_pick" (spM (Bk K at_) m_l_pick) []) (cal_l_heard : Ts.CalX P w K mg base 7 "_law_heard" (spM (Bk K at_) m_l_heard) []) (cal_l_any : Ts.CalX P w K mg base 11 "_law_any" (spM (Bk K at_) (m_l_any 8)) []) (cal_l_due : Ts.CalX P w K mg base 4 "_law_due" (spM (Bk K at_) m_l_due) []) {f : Addr} {fd : FuncData} (F : C8.Fun K "law" "law" s_law f fd) (hm : ∀ ns : List Int, ns.length ≤ 63 → ∃ cs', m_law [.ro (ns.map .int)] [] = some (.ok (.bl true), cs')) :
    TvG.RunAt P w K mg base C8.CX0 callerA f fd ["_law_script"] (spLaw K) :=
  fn_lawG (B := Bk K at_) (mb := b_law) (k := 11) F sc_law rfl ⟨rfl, by decide, by decide⟩ (fun cdv outer s H E G hr hg => by
    have hu := hr.units
    exact (b_cons (t_set (ps_set (i := 1) sc_law.nd rfl (Or.inl rfl) (pe_u _ _)) (s_cal cal_l_deal (fun _ _ => .nil) hr (by decide) passL (by rfl) (a_cons (s_var (pv 0)) a_nil)))
  (b_cons (t_for PassesOwn.never rfl (i_rng1 (by rfl) z_range (a_cons s_int a_nil)) (g_name (pg_name (i := 2) sc_law.nd rfl (Or.inl rfl))) (b_cons (t_set (ps_set (i := 3) sc_law.nd rfl (Or.inl rfl) (pe_u _ _)) (s_cal cal_l_rule (fun _ _ => .nil) hr (by decide) passL (by rfl) (a_cons (s_var (pv 1)) (a_cons s_int (a_cons s_int a_nil)))))
  (b_cons (t_set (ps_set (i := 4) sc_law.nd rfl (Or.inl rfl) (pe_u _ _)) (s_cal cal_l_unsure (fun _ _ => .nil) hr (by decide) passL (by rfl) (a_cons (s_var (pv 1)) (a_cons (s_var (pv 3)) (a_cons s_int (a_cons s_int a_nil))))))
  (b_cons (t_set (ps_set (i := 5) sc_law.nd rfl (Or.inl rfl) (pe_u _ _)) (s_call (c_listO rfl) (a_cons (s_var (pv 4)) a_nil) (pe_callTy (cl_u _ _) (by rfl) z_list PyProof.Rows.boot_list (pa_u _ _))))
  (b_cons (t_set (ps_set (i := 6) sc_law.nd rfl (Or.inl rfl) (pe_u _ _)) (s_make (c := 3) mk_Unsure rfl (fun _ _ => .nil) hr (by decide) passL (by rfl) (a_cons (s_var (pv 5)) a_nil)))
  (b_cons (t_expr (ps_expr (pe_u _ _)) (s_bm (b := .lst) rfl m_append (s_var (pv 5)) (a_cons (s_tup (a_cons s_int (a_cons s_int (a_cons s_str (a_cons s_int a_nil))))) a_nil) (pe_bm PySem.F.plainAttrs_list PySem.F.slot_list_append PySem.F.type_list_append (mt_u _ _) (pe_u _ _) (pa_u _ _))))
  (b_cons (t_if (w_pt (w_or (w_cmp (o_ne rfl hu) (s_call (c_repr rfl hg hu) (a_cons (s_fld rfl (s_var (pv 6)) (ix_cons ok_Unsure rfl ix_nil)) a_nil) (pe_callB (cl_u _ _) (by rfl) z_repr PyProof.Rows.boot_repr (pa_u _ _))) (s_call (c_repr rfl hg hu) (a_cons (s_call (c_tup rfl) (a_cons (s_var (pv 4)) a_nil) (pe_callTy (cl_u _ _) (by rfl) z_tuple PyProof.Rows.boot_tuple (pa_u _ _))) a_nil) (pe_callB (cl_u _ _) (by rfl) z_repr PyProof.Rows.boot_repr (pa_u _ _))) (nomark _)) (w_or1 (w_cmp (o_ne rfl hu) (s_call (c_repr rfl hg hu) (a_cons (s_fld rfl (s_make (c := 3) mk_Unsure rfl (fun _ _ => .nil) hr (by decide) passL (by rfl) (a_cons (s_call (c_tup rfl) (a_cons (s_var (pv 4)) a_nil) (pe_callTy (cl_u _ _) (by rfl) z_tuple PyProof.Rows.boot_tuple (pa_u _ _))) a_nil)) (ix_cons ok_Unsure rfl ix_nil)) a_nil) (pe_callB (cl_u _ _) (by rfl) z_repr PyProof.Rows.boot_repr (pa_u _ _))) (s_call (c_repr rfl hg hu) (a_cons (s_call (c_tup rfl) (a_cons (s_var (pv 4)) a_nil) (pe_callTy (cl_u _ _) (by rfl) z_tuple PyProof.Rows.boot_tuple (pa_u _ _))) a_nil) (pe_callB (cl_u _ _) (by rfl) z_repr PyProof.Rows.boot_repr (pa_u _ _))) (nomark _))))) (b_one (t_ret s_bl)) b_nil)
  (b_cons (t_set (ps_set (i := 7) sc_law.nd rfl (Or.inl rfl) (pe_u _ _)) (s_lst (a_cons (s_tup (a_cons s_int (a_cons s_int (a_cons s_str (a_cons s_int a_nil))))) (a_cons (s_tup (a_cons s_int (a_cons s_int (a_cons s_str (a_cons s_int a_nil))))) (a_cons (s_tup (a_cons s_int (a_cons s_int (a_cons s_str (a_cons s_int a_nil))))) (a_cons (s_tup (a_cons (s_neg s_int) (a_cons s_int (a_cons s_str (a_cons s_int a_nil))))) (a_cons (s_tup (a_cons s_int (a_cons s_bl (a_cons s_str (a_cons s_int a_nil))))) (a_cons (s_lst (a_cons s_int (a_cons s_int (a_cons s_str (a_cons s_int a_nil))))) a_nil))))))))
  (b_cons (t_set (ps_set (i := 7) sc_law.nd rfl (Or.inl rfl) (pe_u _ _)) (s_op (o_add rfl) (s_var (pv 7)) (s_lst (a_cons (s_tup (a_cons s_int (a_cons s_int (a_cons s_str a_nil)))) (a_cons (s_tup (a_cons s_int (a_cons s_int (a_cons s_str (a_cons s_int (a_cons s_int a_nil)))))) (a_cons (s_tup (a_cons s_str (a_cons s_int (a_cons s_str (a_cons s_int a_nil))))) (a_cons (s_tup (a_cons s_int (a_cons s_int (a_cons s_str (a_cons s_int a_nil))))) (a_cons (s_tup (a_cons s_int (a_cons s_int (a_cons s_non (a_cons s_int a_nil))))) (a_cons s_non (a_cons s_str a_nil))))))))))
  (b_one (t_for PassesOwn.never rfl (i_rng1 (by rfl) z_range (a_cons s_int a_nil)) (g_name (pg_name (i := 8) sc_law.nd rfl (Or.inl rfl))) (b_cons (t_set (ps_set (i := 9) sc_law.nd rfl (Or.inl rfl) (pe_u _ _)) (s_sl rfl (s_var (pv 4)) p_none (p_some s_int)))
  (b_cons (t_set (ps_set (i := 10) sc_law.nd rfl (Or.inl rfl) (pe_u _ _)) (s_cal cal_l_draw (fun _ _ => .nil) hr (by decide) passL (by rfl) (a_cons (s_var (pv 1)) (a_cons (s_op (o_add rfl) (s_call (c_len rfl) (a_cons (s_var (pv 9)) a_nil) (pe_callB (cl_u _ _) (by rfl) z_len PySem.boot_len (pa_u _ _))) s_int) a_nil))))
  (b_cons (t_set (ps_set (i := 11) sc_law.nd rfl (Or.inl rfl) (pe_u _ _)) (s_op (o_add rfl) (s_op (o_add rfl) (s_op (o_add rfl) (s_sl rfl (s_var (pv 9)) p_none (p_some (s_var (pv 10)))) (s_lst (a_cons (s_cal cal_l_pick (fun _ _ => .nil) hr (by decide) passL (by rfl) (a_cons (s_var (pv 1)) (a_cons (s_var (pv 7)) a_nil))) a_nil))) (s_sl rfl (s_var (pv 9)) (p_some (s_var (pv 10))) p_none)) (s_lst (a_cons (s_cal cal_l_pick (fun _ _ => .nil) hr (by decide) passL (by rfl) (a_cons (s_var (pv 1)) (a_cons (s_var (pv 7)) a_nil))) a_nil))))
  (b_cons (t_if (w_pt (w_or (w_cmp (o_ne rfl hu) (s_cal cal_l_heard (fun _ _ => .nil) hr (by decide) passL (by rfl) (a_cons (s_var (pv 11)) a_nil)) (s_var (pv 10)) (nomark _)) (w_or1 (w_cmp (o_ne rfl hu) (s_cal cal_l_heard (fun _ _ => .nil) hr (by decide) passL (by rfl) (a_cons (s_call (c_tup rfl) (a_cons (s_var (pv 11)) a_nil) (pe_callTy (cl_u _ _) (by rfl) z_tuple PyProof.Rows.boot_tuple (pa_u _ _))) a_nil)) (s_var (pv 10)) (nomark _))))) (b_one (t_ret s_bl)) b_nil)
  (b_cons (t_set (ps_set (i := 12) sc_law.nd rfl (Or.inl rfl) (pe_u _ _)) (s_cal cal_l_any (fun _ _ => .nil) hr (by decide) passL (by rfl) (a_cons (s_var (pv 1)) (a_cons s_int a_nil))))
  (b_one (t_if (w_pt (w_or (w_cmp (o_ne rfl hu) (s_cal cal_l_heard (fun _ _ => .nil) hr (by decide) passL (by rfl) (a_cons (s_var (pv 12)) a_nil)) (s_cal cal_l_due (fun _ _ => .nil) hr (by decide) passL (by rfl) (a_cons (s_var (pv 12)) a_nil)) (nomark _)) (w_or1 (w_cmp (o_ne rfl hu) (s_cal cal_l_heard (fun _ _ => .nil) hr (by decide) passL (by rfl) (a_cons (s_op (o_add rfl) (s_var (pv 9)) (s_lst (a_cons (s_var (pv 12)) a_nil))) a_nil)) (s_cal cal_l_due (fun _ _ => .nil) hr (by decide) passL (by rfl) (a_cons (s_op (o_add rfl) (s_var (pv 9)) (s_lst (a_cons (s_var (pv 12)) a_nil))) a_nil)) (nomark _))))) (b_one (t_ret s_bl)) b_nil))))))))))))))))))
  (b_one (t_ret (s_and (s_cmp (o_eq rfl hu) (s_fld rfl (s_make (c := 3) mk_Unsure rfl (fun _ _ => .nil) hr (by decide) passL (by rfl) (a_cons (s_lst a_nil) a_nil)) (ix_cons ok_Unsure rfl ix_nil)) (s_tup a_nil) (nomark _)) (s_one (s_cmp (o_eq rfl hu) (s_cal cal_l_heard (fun _ _ => .nil) hr (by decide) passL (by rfl) (a_cons s_str a_nil)) s_int (nomark _))))))))) hm
end
end Tv

set_option linter.unusedVariables false
namespace Tv
open PySem L2
/-! ### the deal, draws -/
theorem abs_nn (i : Int) : 0 ≤ (if i < 0 then -i else i) := by split <;> omega
def absT : T → Option T
  | .int i => some (.int (if i < 0 then -i else i))
  | _ => none
theorem absT_map (ns : List Int) : (ns.map T.int).filterMap absT = (ns.map fun i => if i < 0 then -i else i).map T.int := by
  induction ns with
  | nil => rfl
  | cons n ns ih =>
    show T.int _ :: (ns.map T.int).filterMap absT = _
    rw [ih]
    rfl
def bigT : T → Option T
  | .int i => if 10 ^ 18 ≤ i then some (.int i) else none
  | _ => none
theorem bigT_map (ns : List Int) : (ns.map T.int).filterMap bigT = (ns.filter fun i => decide (10 ^ 18 ≤ i)).map T.int := by
  induction ns with
  | nil => rfl
  | cons n ns ih =>
    rw [List.map_cons, List.filterMap_cons, show bigT (T.int n) = if 10 ^ 18 ≤ n then some (.int n) else none from rfl, List.filter_cons]
    by_cases c : 10 ^ 18 ≤ n
    · rw [if_pos c, if_pos (decide_eq_true c), ih]
      rfl
    · rw [if_neg c, if_neg (by simpa using c)]
      exact ih
structure DealI (ns cells : List Int) (cs : Cs) (ts : List T) (env : Env) (cs1 : Cs) : Prop where
  ex : cs1 = cs ∧ ∃ (m : Int) (x : Option T) (rest : List Int), env = [some (.ro (ns.map .int)), some (.lst (cells.map .int)), some (.int m), x] ∧ ts = rest.map T.int ∧ 0 ≤ m ∧ m < 2147483647
theorem e_deal {ns : List Int} {cs : Cs} (hl : ns.length ≤ 63) : CV m_l_deal [.ro (ns.map .int)] cs fun t cs' => t = .own (cs.length + 1) ∧ Deal (cs.length + 1) cs.length cs' ∧ ∀ (k : Nat) (c : Cell), cs[k]? = some c → cs'[k]? = some c := by
  refine cv_def rfl ?_
  show SV (b_l_deal [some (.ro (ns.map .int)), none, none, none]) cs _
  unfold b_l_deal
  have hs : slT (.ro (ns.map T.int)) none (some 60) cs = some (.ok (.lst ((ns.take 60).map T.int)), cs) := by
    show some (Out.ok (T.lst (cutT (ns.map T.int) none (some 60))), cs) = _
    have e : cutT (ns.map T.int) none (some 60) = (ns.take 60).map T.int := by
      by_cases h : 60 ≤ ns.length
      · rw [cut_take (by omega) (by rw [List.length_map]; omega), ← List.map_take]
        rfl
      · have e : HT.sIx (ns.map T.int).length (ns.map T.int).length (some 60) = (ns.map T.int).length := by
          unfold HT.sIx
          rw [List.length_map]
          dsimp only
          rw [if_neg (by decide)]
          show min 60 ns.length = ns.length
          omega
        unfold cutT
        rw [e, show HT.sIx (ns.map T.int).length 0 none = 0 from rfl, List.drop_zero, Nat.sub_zero, List.take_of_length_le (i := (ns.map T.int).length) (l := ns.map T.int) (Nat.le_refl _), List.take_of_length_le (show ns.length ≤ 60 by omega)]
    rw [e]
  fail "sw"
  rw [ev_some hs]
  refine ⟨_, rfl, ?_⟩
  have hz : sizeLine = 16777216 := rfl
  refine lv_pure absT rfl ?_ ?_
  · intro t ht
    obtain ⟨i, hi, rfl⟩ := List.mem_map.mp ht
    refine ⟨[some (.ro (ns.map .int)), none, none, some (.int i)], rfl, ?_⟩
    fail "sw"
    rfl
  rw [show (fr ((ns.take 60).map T.int)).1 = (ns.take 60).map T.int from rfl, absT_map]
  generalize hcells : (ns.take 60).map (fun i => if i < 0 then -i else i) = cells
  have hcl : cells.length ≤ 60 := by rw [← hcells, List.length_map, List.length_take]; omega
  have hc0 : ∀ c ∈ cells, 0 ≤ c := fun c hc => by
    rw [← hcells] at hc
    obtain ⟨i, _, rfl⟩ := List.mem_map.mp hc
    exact abs_nn i
  refine ⟨by rw [List.length_map, hz]; omega, ?_⟩
  fail "sw"
  refine ⟨_, _, ⟨rfl, rfl⟩, ?_⟩
  fail "sw"
  refine ⟨_, rfl, ?_⟩
  refine for_inv (DealI ns cells cs) (fun _ _ _ _ => rfl) ?_ ?_ _ _ _ ⟨⟨rfl, 32452867, none, cells, rfl, rfl, by decide, by decide⟩⟩
  · rintro t ts env cs1 ⟨⟨rfl, m, x, rest, rfl, e, m0, m1⟩⟩
    cases rest with
    | nil => cases e
    | cons c rest =>
      cases e
      refine ⟨_, rfl, ?_⟩
      fail "sw"
      exact ⟨⟨rfl, _, _, rest, rfl, rfl, Int.emod_nonneg _ (by decide), Int.emod_lt_of_pos _ (by decide)⟩⟩
  · rintro env cs1 ⟨⟨rfl, m, x, rest, rfl, e, m0, m1⟩⟩
    fail "sw"
    refine ⟨_, rfl, ?_⟩
    refine lv_pure bigT rfl ?_ ?_
    · intro t ht
      obtain ⟨i, hi, rfl⟩ := List.mem_map.mp ht
      refine ⟨[some (.ro (ns.map .int)), some (.lst (cells.map .int)), some (.int m), some (.int i)], rfl, ?_⟩
      fail "sw"
      rw [show bigT (T.int i) = if 10 ^ 18 ≤ i then some (.int i) else none from rfl]
      by_cases c : (10 : Int) ^ 18 ≤ i
      · rw [if_pos c]
        exact .inr ⟨decide_eq_true c, rfl⟩
      · rw [if_neg c]
        exact .inl ⟨decide_eq_false c, rfl⟩
    rw [show (fr (cells.map T.int)).1 = cells.map T.int from rfl, bigT_map]
    have hfl := List.length_filter_le (fun i : Int => decide (10 ^ 18 ≤ i)) cells
    refine ⟨by rw [List.length_map, hz]; omega, ?_⟩
    refine ⟨_, rfl, ?_⟩
    fail "sw"
    refine ⟨by decide, ?_⟩
    rw [← List.map_reverse]
    refine ⟨by rw [List.length_append]; rfl, ⟨⟨_, m, ?_, get_app get_last, by rw [List.length_reverse]; exact Nat.le_trans hfl (by omega), fun x hx => hc0 x (List.mem_filter.mp (List.mem_reverse.mp hx)).1, m0, m1⟩⟩, fun k c hk => get_app (get_app hk)⟩
    have := get_last (cs := cs1 ++ [Cell.lst ((cells.filter fun i => decide (10 ^ 18 ≤ i)).reverse.map T.int)]) (c := .lst [.own cs1.length, .int m])
    rw [List.length_append, List.length_singleton] at this
    exact this
theorem e_draw {D L : Nat} {cs : Cs} {n : Int} (hd : Deal D L cs) (h0 : 0 < n) (h1 : n < 18446744073709551616) : CV m_l_draw [.own D, .int n] cs fun t cs' => ∃ i, t = .int i ∧ 0 ≤ i ∧ i < n ∧ Wnt D L cs cs' := by
  refine cv_def rfl ?_
  show SV (b_l_draw [some (.own D), some (.int n), none]) cs _
  unfold b_l_draw
  have i0 : ∀ {a b : T}, atI [a, b] 0 = some a := rfl
  have i1 : ∀ {a b : T}, atI [a, b] 1 = some b := rfl
  have hne := hd.ne
  refine sv_cons ?_
  obtain ⟨xs0, m0, g0⟩ := hd.ex
  refine while_inv (fun k env cs1 => ∃ (xs : List Int) (m : Int), k = xs.length ∧ env = [some (.own D), some (.int n), none] ∧ Kp D L cs cs1 ∧ cs1[D]? = some (.lst [.own L, .int m]) ∧ cs1[L]? = some (.lst (xs.map .int)) ∧ xs.length ≤ 63 ∧ (∀ x ∈ xs, 0 ≤ x) ∧ 0 ≤ m ∧ m < 2147483647) ?_ 1000 xs0.length _ _ (by have := g0.2.2.1; omega) ⟨xs0, m0, rfl, rfl, Kp.refl _ _ _, g0⟩
  rintro k env cs1 ⟨xs, m, rfl, rfl, kp, gD, gL, gl, gp, gm, gm'⟩
  fail "sw"
  rw [ev_ixOwn gD i0]
  fail "sw"
  refine ⟨by decide, ?_⟩
  rw [ev_neNil (.inl ⟨L, rfl, gL⟩) (ints_flat xs)]
  fail "sw"
  by_cases hx : xs = []
  · subst hx
    rw [show (!(List.map T.int []).isEmpty) = false from rfl]
    fail "sw"
    rw [ev_ixOwn gD i0]
    fail "sw"
    refine ⟨by decide, ?_⟩
    rw [ev_neNil (.inl ⟨L, rfl, gL⟩) (ints_flat [])]
    fail "sw"
    rw [ev_ixOwn gD i1]
    fail "sw"
    refine ⟨_, gD, 1, rfl, ?_⟩
    rw [show [T.own L, T.int m].set 1 (T.int ((m * 48271 + 31) % 2147483647)) = [T.own L, T.int ((m * 48271 + 31) % 2147483647)] from rfl]
    fail "sw"
    have gD2 : (cs1.set D (.lst [.own L, .int ((m * 48271 + 31) % 2147483647)]))[D]? = _ := get_set gD
    rw [ev_ixOwn gD2 i1]
    fail "sw"
    rw [ev_mod h0]
    exact ⟨_, rfl, Int.emod_nonneg _ (by omega), Int.emod_lt_of_pos _ h0, ⟨⟨[], _, gD2, get_ne gL hne, by decide, fun x hx => (by cases hx), Int.emod_nonneg _ (by decide), Int.emod_lt_of_pos _ (by decide)⟩⟩, kp.setD⟩
  · obtain ⟨ys, y, rfl⟩ : ∃ ys y, xs = ys ++ [y] := ⟨xs.dropLast, xs.getLast hx, (List.dropLast_concat_getLast hx).symm⟩
    have em : (ys ++ [y]).map T.int = ys.map T.int ++ [T.int y] := List.map_append
    rw [em] at gL
    have hyl : ys.length ≤ 62 := by rw [List.length_append, List.length_singleton] at gl; omega
    have hy0 := gp y (by simp)
    have hyp : ∀ x ∈ ys, 0 ≤ x := fun x hx => gp x (List.mem_append_left _ hx)
    rw [show (!((ys ++ [y]).map T.int).isEmpty) = true from by rw [em]; cases ys <;> rfl]
    fail "sw"
    rw [ev_ixOwn gD i0]
    fail "sw"
    have il : atI (ys.map T.int ++ [T.int y]) (-1) = some (.int y) := by
      have := L2.atI_last (ys.map T.int) (T.int y)
      exact this
    rw [ev_ixOwn gL il]
    fail "sw"
    by_cases hy : y = 0
    · rw [decide_eq_true hy]
      fail "sw"
      rw [ev_ixOwn gD i0]
      fail "sw"
      refine ⟨by unfold isBT lstOf; simp only [gL, Option.isSome_some], ?_⟩
      rw [ev_pop0 gL]
      exact ⟨ys.length, by rw [List.length_append, List.length_singleton]; omega, ys, m, rfl, rfl, kp.setL, get_ne gD (Ne.symm hne), get_set gL, by omega, hyp, gm, gm'⟩
    · rw [decide_eq_false hy]
      fail "sw"
      rw [ev_ixOwn gD i0]
      fail "sw"
      refine ⟨by decide, ?_⟩
      rw [← em] at gL
      rw [ev_neNil (.inl ⟨L, rfl, gL⟩) (ints_flat _)]
      rw [show (!((ys ++ [y]).map T.int).isEmpty) = true from by rw [em]; cases ys <;> rfl]
      rw [em] at gL
      fail "sw"
      rw [ev_ixOwn gD i0]
      fail "sw"
      refine ⟨by unfold isBT lstOf; simp only [gL, Option.isSome_some], ?_⟩
      rw [ev_pop0 gL]
      fail "sw"
      have gD2 : (cs1.set L (.lst (ys.map T.int)))[D]? = _ := get_ne gD (Ne.symm hne)
      have gL2 : (cs1.set L (.lst (ys.map T.int)))[L]? = _ := get_set gL
      rw [ev_ixOwn gD2 i0]
      fail "sw"
      refine ⟨by unfold isBT lstOf; simp only [gL2, Option.isSome_some], ?_⟩
      rw [ev_div h0 h1]
      fail "sw"
      rw [ev_append gL2 (by rw [List.length_map, show sizeLine = 16777216 from rfl]; omega)]
      fail "sw"
      rw [ev_mod h0]
      refine ⟨_, rfl, Int.emod_nonneg _ (by omega), Int.emod_lt_of_pos _ h0, ⟨⟨ys ++ [y / n], m, get_ne gD2 (Ne.symm hne), ?_, by rw [List.length_append, List.length_singleton]; omega, fun x hx => ?_, gm, gm'⟩⟩, (kp.setL).setL⟩
      · rw [get_set gL2, List.map_append]
        rfl
      · rcases List.mem_append.mp hx with hx | hx
        · exact hyp x hx
        · rw [List.mem_singleton.mp hx]
          exact Int.ediv_nonneg hy0 (by omega)
theorem e_pick {D L : Nat} {cs : Cs} {us : List T} (hd : Deal D L cs) (h0 : us ≠ []) (h1 : us.length < 1000) : CV m_l_pick [.own D, .lst us] cs fun t cs' => t ∈ us ∧ Wnt D L cs cs' := by
  refine cv_def rfl ?_
  show SV (b_l_pick [some (.own D), some (.lst us)]) cs _
  unfold b_l_pick
  fail "sw"
  rw [ev_lenC (fun z => by intro e; cases e) rfl]
  fail "sw"
  have hp := List.length_pos_iff.mpr h0
  refine (e_draw hd (by omega) (by omega)).mono ?_
  rintro t cs' ⟨i, rfl, i0, i1, w⟩
  have hi : i.toNat < us.length := by omega
  have e : atI us i = some us[i.toNat] := by
    unfold atI ixN
    rw [if_pos i0, if_pos i1]
    exact List.getElem?_eq_getElem hi
  fail "sw"
  rw [ev_ixLst e]
  exact ⟨List.getElem_mem _, w⟩
end Tv

set_option linter.unusedVariables false
namespace Tv
open PySem L2
structure MixI (D L j k : Nat) (t0 : T) (us : List T) (cs : Cs) (n : Nat) (env : Env) (cs1 : Cs) : Prop where
  ex : ∃ (xs ys : List T), n = xs.length ∧ env = [some (.own D), some t0, some (.own j), some (.own k)] ∧ Wnt D L cs cs1 ∧ cs1[j]? = some (.lst xs) ∧ cs1[k]? = some (.lst ys) ∧ (ys ++ xs).Perm us
theorem mixed_perm {xs ys us : List T} {i : Nat} {u : T} (h : (ys ++ xs).Perm us) (hi : xs[i]? = some u) : ((ys ++ [u]) ++ xs.eraseIdx i).Perm us := by
  refine List.Perm.trans ?_ h
  rw [List.append_assoc]
  exact List.Perm.append_left ys (Ts.erase_perm hi)
/-- _law_mixed of a list or tuple of plain things -/
theorem e_mixed {D L : Nat} {cs : Cs} {t0 : T} {us : List T} (hd : Deal D L cs) (hs : seqOf cs t0 = some us) (hf : us.all flatOk = true) (h1 : us.length < 900) : CV m_l_mixed [.own D, t0] cs fun t cs' => ∃ vs, t = .lst vs ∧ vs.Perm us ∧ Wnt D L cs cs' := by
  refine cv_def rfl ?_
  show SV (b_l_mixed [some (.own D), some t0, none, none]) cs _
  unfold b_l_mixed
  fail "sw"
  rw [ev_listOC hs]
  fail "sw"
  refine ⟨by decide, _, _, ⟨rfl, rfl⟩, ?_⟩
  have hD := hd.ltD
  have hL := hd.ltL
  have gj : (cs ++ [Cell.lst us] ++ [Cell.lst []])[cs.length]? = some (.lst us) := get_app get_last
  have gk : (cs ++ [Cell.lst us] ++ [Cell.lst []])[cs.length + 1]? = some (.lst []) := by
    have := get_last (cs := cs ++ [Cell.lst us]) (c := .lst [])
    rw [List.length_append, List.length_singleton] at this
    exact this
  have hlen : (cs ++ [Cell.lst us]).length = cs.length + 1 := by rw [List.length_append]; rfl
  rw [hlen]
  have w0 : Wnt D L cs (cs ++ [Cell.lst us] ++ [Cell.lst []]) := ((Wnt.refl hd).app).app
  generalize cs ++ [Cell.lst us] ++ [Cell.lst []] = cs0 at gj gk w0 ⊢
  generalize hj : cs.length = j at *
  have nD : D ≠ j := by omega
  have nL : L ≠ j := by omega
  have nD' : D ≠ j + 1 := by omega
  have nL' : L ≠ j + 1 := by omega
  refine sv_cons ?_
  refine while_inv (MixI D L j (j + 1) t0 us cs) ?_ 1000 us.length _ _ (by omega) ⟨us, [], rfl, rfl, w0, gj, gk, List.Perm.refl _⟩
  rintro n env cs1 ⟨xs, ys, rfl, rfl, w, gj, gk, pm⟩
  have hxl : xs.length ≤ us.length := by
    have := pm.length_eq
    rw [List.length_append] at this
    omega
  have hyl : ys.length ≤ us.length := by
    have := pm.length_eq
    rw [List.length_append] at this
    omega
  have hxf : xs.all flatOk = true := by
    rw [List.all_eq_true] at hf ⊢
    exact fun x hx => hf x (pm.mem_iff.mp (List.mem_append_right _ hx))
  fail "sw"
  refine ⟨by decide, ?_⟩
  rw [ev_neNil (.inl ⟨j, rfl, gj⟩) hxf]
  cases xs with
  | nil =>
    fail "sw"
    refine sv_frz rfl gk ?_
    fail "sw"
    rw [List.append_nil] at pm
    refine ⟨pm, ⟨w.d.set (Ne.symm nD') (Ne.symm nL'), ⟨fun i c hi n1 n2 => get_ne (w.k.kp i c hi n1 n2) (by have := get_lt hi; omega)⟩⟩⟩
  | cons x xs =>
    rw [show (!(x :: xs).isEmpty) = true from rfl]
    fail "sw"
    refine ⟨by unfold isBT lstOf; simp only [gk, Option.isSome_some], by unfold isBT lstOf; simp only [gj, Option.isSome_some], ?_⟩
    rw [ev_lenC (t := .own j) (fun z => by intro e; cases e) (seq_own gj)]
    fail "sw"
    have hp : 0 < (x :: xs).length := by simp
    have hxc : (x :: xs).length = xs.length + 1 := List.length_cons
    refine (e_draw w.d (by omega) (by omega)).mono ?_
    rintro t cs2 ⟨i, rfl, i0, i1, w2⟩
    have gj2 := w2.k.kp j _ gj (Ne.symm nD) (Ne.symm nL)
    have gk2 := w2.k.kp (j + 1) _ gk (Ne.symm nD') (Ne.symm nL')
    have hi : i.toNat < (x :: xs).length := by omega
    have e := List.getElem?_eq_getElem hi
    fail "sw"
    rw [ev_popI gj2 i0 i1 (by omega) e]
    fail "sw"
    have gk3 : (cs2.set j (.lst ((x :: xs).eraseIdx i.toNat)))[j + 1]? = _ := get_ne gk2 (by omega)
    have gj3 : (cs2.set j (.lst ((x :: xs).eraseIdx i.toNat)))[j]? = _ := get_set gj2
    rw [ev_append gk3 (by rw [show sizeLine = 16777216 from rfl]; omega)]
    have he : ((x :: xs).eraseIdx i.toNat).length < (x :: xs).length := by rw [List.length_eraseIdx_of_lt hi]; omega
    refine ⟨_, he, (x :: xs).eraseIdx i.toNat, ys ++ [_], rfl, rfl, ⟨((w2.d).set (Ne.symm nD) (Ne.symm nL)).set (Ne.symm nD') (Ne.symm nL'), ⟨fun a c ha n1 n2 => ?_⟩⟩, get_ne gj3 (by omega), get_set gk3, mixed_perm pm e⟩
    have hlt := get_lt ha
    exact get_ne (get_ne (w2.k.kp a c (w.k.kp a c ha n1 n2) n1 n2) (by omega)) (by omega)
def names10 : List Str := ["talk", "owe", "plea", "a", "b", "zz", "x", "suit", "rest", "cap"]
theorem names_flat : (names10.map T.str).all flatOk = true := by decide +kernel
theorem strs_of_perm {vs : List T} {ns : List Str} (h : vs.Perm (ns.map T.str)) : ∃ ms : List Str, vs = ms.map T.str ∧ ms.Perm ns := by
  have key : ∀ vs : List T, (∀ v ∈ vs, ∃ x, v = T.str x) → ∃ ms : List Str, vs = ms.map T.str := by
    intro vs
    induction vs with
    | nil => exact fun _ => ⟨[], rfl⟩
    | cons v vs ih =>
      intro h
      obtain ⟨x, rfl⟩ := h v List.mem_cons_self
      obtain ⟨ms, rfl⟩ := ih fun u hu => h u (List.mem_cons_of_mem _ hu)
      exact ⟨x :: ms, rfl⟩
  obtain ⟨ms, rfl⟩ := key vs fun v hv => by
    obtain ⟨x, _, rfl⟩ := List.mem_map.mp (h.mem_iff.mp hv)
    exact ⟨x, rfl⟩
  refine ⟨ms, rfl, ?_⟩
  have h2 := h.filterMap (fun t => match t with | .str x => some x | _ => none)
  have e : ∀ l : List Str, (l.map T.str).filterMap (fun t => match t with | .str x => some x | _ => none) = l := by
    intro l
    induction l with
    | nil => rfl
    | cons x l ih => rw [List.map_cons, List.filterMap_cons]; simp only [ih]
  rwa [e, e] at h2
theorem e_names {D L : Nat} {cs : Cs} {n : Int} (hd : Deal D L cs) (h0 : 0 ≤ n) (h1 : n ≤ 10) : CV m_l_names [.own D, .int n] cs fun t cs' => ∃ ms : List Str, t = .lst (ms.map T.str) ∧ ms.length = n.toNat ∧ ms.Nodup ∧ (∀ x ∈ ms, x ∈ names10) ∧ Wnt D L cs cs' := by
  refine cv_def rfl ?_
  show SV (b_l_names [some (.own D), some (.int n)]) cs _
  unfold b_l_names
  fail "sw"
  refine ⟨by decide, ?_⟩
  refine (e_mixed (us := names10.map T.str) hd rfl names_flat (by decide +kernel)).mono ?_
  rintro t cs' ⟨vs, rfl, pm, w⟩
  obtain ⟨ms, rfl, pm2⟩ := strs_of_perm pm
  have hl : ms.length = 10 := pm2.length_eq
  fail "sw"
  rw [ev_slL, cut_take h0 (by rw [List.length_map]; omega), ← List.map_take]
  have hnd : names10.Nodup := by decide +kernel
  exact ⟨ms.take n.toNat, rfl, by rw [List.length_take]; omega, (pm2.nodup_iff.mpr hnd).sublist (List.take_sublist _ _), fun x hx => pm2.mem_iff.mp (List.mem_of_mem_take hx), w⟩
end Tv

set_option linter.unusedVariables false
namespace Tv
open PySem L2
/-! ### any values -/
inductive AnyV : Nat → T → Prop
  | non {k : Nat} : AnyV k .non
  | bl {k : Nat} (b : Bool) : AnyV k (.bl b)
  | int {k : Nat} (i : Int) : -(10 ^ 18) ≤ i → i ≤ 10 ^ 18 → AnyV k (.int i)
  | str {k : Nat} (x : Str) : PyData.strOk x = true → x.length ≤ 100 → AnyV k (.str x)
  | lst {k : Nat} (ts : List T) : ts.length ≤ 100 → (∀ t ∈ ts, AnyV k t) → AnyV (k + 1) (.lst ts)
  | tup {k : Nat} (ts : List T) : ts.length ≤ 100 → (∀ t ∈ ts, AnyV k t) → AnyV (k + 1) (.tup ts)
theorem any_num {k : Nat} {t : T} (h : t ∈ [T.int 0, .int 1, .int (-1), .int 7, .int (10 ^ 18), .bl true, .bl false, .non]) : AnyV k t := by
  simp only [List.mem_cons, List.not_mem_nil, or_false] at h
  rcases h with rfl | rfl | rfl | rfl | rfl | rfl | rfl | rfl
  · exact .int _ (by decide) (by decide)
  · exact .int _ (by decide) (by decide)
  · exact .int _ (by decide) (by decide)
  · exact .int _ (by decide) (by decide)
  · exact .int _ (by decide) (by decide)
  · exact .bl _
  · exact .bl _
  · exact .non
theorem any_str {k : Nat} {t : T} (h : t ∈ [T.str "", .str "any", .str "none", .str "anew", .str "lift", .str "term", .str "still", .str "Talk", .str " ", .str "still talk 0 1"]) : AnyV k t := by
  simp only [List.mem_cons, List.not_mem_nil, or_false] at h
  rcases h with rfl | rfl | rfl | rfl | rfl | rfl | rfl | rfl | rfl | rfl <;> exact .str _ (by decide +kernel) (by decide +kernel)
theorem any_up {k l : Nat} {t : T} (h : AnyV k t) (hl : k ≤ l) : AnyV l t := by
  induction h generalizing l with
  | non => exact .non
  | bl b => exact .bl b
  | int i a b => exact .int i a b
  | str x a b => exact .str x a b
  | lst ts a b ih =>
    obtain ⟨l, rfl⟩ : ∃ j, l = j + 1 := ⟨l - 1, by omega⟩
    exact .lst ts a fun t ht => ih t ht (by omega)
  | tup ts a b ih =>
    obtain ⟨l, rfl⟩ : ∃ j, l = j + 1 := ⟨l - 1, by omega⟩
    exact .tup ts a fun t ht => ih t ht (by omega)
theorem any_dk {k : Nat} {t : T} (h : AnyV k t) : dk k t = true := by
  induction h with
  | non => unfold dk; rfl
  | bl b => unfold dk; rfl
  | int i a b => unfold dk; rfl
  | str x a b => unfold dk; exact a
  | lst ts a b ih => unfold dk; exact dkL_all ih
  | tup ts a b ih => unfold dk; exact dkL_all ih
theorem e_l_any {D L : Nat} : ∀ (n d : Nat), d < n → ∀ {cs : Cs}, Deal D L cs → CV (m_l_any n) [.own D, .int (d : Int)] cs fun t cs' => AnyV d t ∧ Wnt D L cs cs'
  | 0, d, h, _, _ => by omega
  | n + 1, d, h, cs, hd => by
    refine cv_def rfl ?_
    show SV (b_l_any (m_l_any n) [some (.own D), some (.int d), none, none, none]) cs _
    unfold b_l_any
    have hz : sizeLine = 16777216 := rfl
    fail "sy"
    refine (e_draw hd (by decide) (by decide)).mono ?_
    rintro t cs1 ⟨f, rfl, f0, f1, w1⟩
    fail "sy"
    have tail : ∀ {x3 x4 : Option T}, SV (bCons (sIf (mTst (mOp ltT (mVar 2) (mC (.int 7)))) (sRet (mCal m_l_pick [] (aCons (mVar 0) (aCons (mLst (aCons (mC (.int 0)) (aCons (mC (.int 1)) (aCons (mNeg (mC (.int 1))) (aCons (mC (.int 7)) (aCons (mOp powT (mC (.int 10)) (mC (.int 18))) (aCons (mC (.bl true)) (aCons (mC (.bl false)) (aCons (mC .non) aNil))))))))) aNil)))) bNil)
        (sRet (mCal m_l_pick [] (aCons (mVar 0) (aCons (mLst (aCons (mC (.str "")) (aCons (mC (.str "any")) (aCons (mC (.str "none")) (aCons (mC (.str "anew")) (aCons (mC (.str "lift")) (aCons (mC (.str "term")) (aCons (mC (.str "still")) (aCons (mC (.str "Talk")) (aCons (mC (.str " ")) (aCons (mC (.str "still talk 0 1")) aNil))))))))))) aNil)))) [some (.own D), some (.int d), some (.int f), x3, x4]) cs1 fun fl cs' => match fl with
          | .nx e => AnyV d .non ∧ Wnt D L cs cs'
          | .rt t => AnyV d t ∧ Wnt D L cs cs'
          | _ => False := fun {x3 x4} => by
      fail "sy"
      by_cases f7 : f < 7
      · rw [decide_eq_true f7]
        fail "sy"
        refine ⟨by decide, ?_⟩
        refine (e_pick w1.d (by simp) (by simp)).mono ?_
        rintro t cs2 ⟨ht, w2⟩
        fail "sy"
        exact ⟨any_num ht, w1.trans w2⟩
      · rw [decide_eq_false f7]
        fail "sy"
        refine ⟨by decide, ?_⟩
        refine (e_pick w1.d (by simp) (by simp)).mono ?_
        rintro t cs2 ⟨ht, w2⟩
        fail "sy"
        exact ⟨any_str ht, w1.trans w2⟩
    generalize (bCons (sIf (mTst (mOp ltT (mVar 2) (mC (.int 7)))) (sRet (mCal m_l_pick [] (aCons (mVar 0) (aCons (mLst (aCons (mC (.int 0)) (aCons (mC (.int 1)) (aCons (mNeg (mC (.int 1))) (aCons (mC (.int 7)) (aCons (mOp powT (mC (.int 10)) (mC (.int 18))) (aCons (mC (.bl true)) (aCons (mC (.bl false)) (aCons (mC .non) aNil))))))))) aNil)))) bNil)
        (sRet (mCal m_l_pick [] (aCons (mVar 0) (aCons (mLst (aCons (mC (.str "")) (aCons (mC (.str "any")) (aCons (mC (.str "none")) (aCons (mC (.str "anew")) (aCons (mC (.str "lift")) (aCons (mC (.str "term")) (aCons (mC (.str "still")) (aCons (mC (.str "Talk")) (aCons (mC (.str " ")) (aCons (mC (.str "still talk 0 1")) aNil))))))))))) aNil))))) = M at tail ⊢
    by_cases d0 : 0 < d
    · rw [decide_eq_true (show (0 : Int) < (d : Int) by omega)]
      by_cases f4 : f < 4
      · rw [decide_eq_true f4]
        fail "sy"
        refine (e_draw w1.d (by decide) (by decide)).mono ?_
        rintro t cs2 ⟨m, rfl, mm0, mm1, w2⟩
        fail "sy"
        refine ⟨by omega, by omega, ?_⟩
        refine lv_step0 (fun acc rest c => Wnt D L cs c ∧ acc.length + rest.length ≤ 4 ∧ ∀ t ∈ acc, AnyV (d - 1) t) (fun (i : Nat) => T.int (i : Int)) ⟨w1.trans w2, by rw [List.length_range]; show 0 + m.toNat ≤ 4; omega, fun t ht => by cases ht⟩ (fun _ _ _ _ => rfl) ?_ ?_
        · rintro x acc rest c ⟨w, hl, ha⟩
          refine ⟨_, rfl, ?_⟩
          fail "sy"
          rw [show (d : Int) - 1 = ((d - 1 : Nat) : Int) by omega]
          refine (e_l_any n (d - 1) (by omega) w.d).mono ?_
          rintro t c2 ⟨ht, w3⟩
          refine ⟨w.trans w3, by rw [List.length_append, List.length_singleton]; rw [List.length_cons] at hl; omega, fun u hu => ?_⟩
          rcases List.mem_append.mp hu with hu | hu
          · exact ha u hu
          · rw [List.mem_singleton.mp hu]
            exact ht
        · rintro us c ⟨w, hl, ha⟩
          rw [List.length_nil, Nat.add_zero] at hl
          refine ⟨by omega, ?_⟩
          obtain ⟨e, rfl⟩ : ∃ e, d = e + 1 := ⟨d - 1, by omega⟩
          rw [Nat.add_sub_cancel] at ha
          fail "sy"
          by_cases f2 : f < 2
          · rw [decide_eq_true f2]
            fail "sy"
            exact ⟨.tup us (by omega) ha, w⟩
          · rw [decide_eq_false f2]
            fail "sy"
            exact ⟨.lst us (by omega) ha, w⟩
      · rw [decide_eq_false f4]
        fail "sy"
        exact tail
    · rw [decide_eq_false (show ¬ (0 : Int) < (d : Int) by omega)]
      fail "sy"
      exact tail
end Tv

set_option linter.unusedVariables false
namespace Tv
open PySem L2
/-! ### basics -/
theorem e_is_integer {i : Int} {cs : Cs} : CV m_is_integer [.int i] cs fun u cs' => u = .bl true ∧ cs' = cs := by
  refine cv_def rfl ?_
  show SV (b_is_integer [some (.int i)]) cs _
  unfold b_is_integer
  fail "sw"
  refine ⟨.int, rfl, true, by decide +kernel, ?_⟩
  fail "sw"
  exact ⟨.int, rfl, false, by decide +kernel, rfl⟩
theorem e_is_count {i : Int} {cs : Cs} : CV m_is_count [.int i] cs fun u cs' => u = .bl (decide (1 ≤ i)) ∧ cs' = cs := by
  refine cv_def rfl ?_
  show SV (b_is_count [some (.int i)]) cs _
  unfold b_is_count
  fail "sw"
  refine e_is_integer.mono ?_
  rintro t cs' ⟨rfl, rfl⟩
  fail "sw"
theorem e_is_name {x : Str} {cs : Cs} (hl : x.length ≤ sizeLine) : CV m_is_name [.str x] cs fun u cs' => u = .bl (nameB x) ∧ cs' = cs := by
  refine cv_def rfl ?_
  show SV (b_is_name [some (.str x), none]) cs _
  unfold b_is_name
  fail "sx"
  refine ⟨.str, rfl, true, by decide +kernel, true, rfl, ?_⟩
  fail "sx"
  rw [show [T.str "any", T.str "none", T.str "anew", T.str "lift", T.str "term"] = (["any", "none", "anew", "lift", "term"] : List Str).map T.str from rfl, ev_inStrs]
  fail "sx"
  unfold nameB
  by_cases hn : x ∈ (["any", "none", "anew", "lift", "term"] : List Str)
  · rw [decide_eq_true hn]
    fail "sx"
    rfl
  · rw [decide_eq_false hn]
    fail "sx"
    rw [ev_lenS hl]
    fail "sx"
    have c1 : decide ((1 : Int) ≤ ((x.length : Nat) : Int)) = decide (1 ≤ x.length) := decide_eq_decide.mpr (by omega)
    have c4 : decide (((x.length : Nat) : Int) ≤ 4) = decide (x.length ≤ 4) := decide_eq_decide.mpr (by omega)
    rw [c1]
    by_cases h1 : 1 ≤ x.length
    · rw [decide_eq_true h1]
      fail "sx"
      rw [c4]
      by_cases h4 : x.length ≤ 4
      · rw [decide_eq_true h4]
        fail "sx"
        refine ⟨_, rfl, ?_⟩
        refine lv_pure (signT letters) rfl ?_ ?_
        · intro t ht
          obtain ⟨c, hc, rfl⟩ := List.mem_map.mp ht
          refine ⟨[some (.str x), some (.str ⟨#[c]⟩)], rfl, ?_⟩
          fail "sx"
          rw [ev_inSign]
          exact ⟨rfl, rfl⟩
        rw [show (fr (x.cps.toList.map fun c => T.str ⟨#[c]⟩)).1 = x.cps.toList.map fun c => T.str ⟨#[c]⟩ from rfl, signs_map]
        have hz := num_len' x
        refine ⟨by rw [List.length_map, List.length_map]; omega, ?_⟩
        fail "sx"
        rw [ev_all, all_id]
        simp only [letters_mem]
        exact ⟨by simp, trivial⟩
      · rw [decide_eq_false h4]
        fail "sx"
        rfl
    · rw [decide_eq_false h1]
      fail "sx"
      rfl
/-! ### kinds -/
inductive Kf | still | anew | lift
  deriving DecidableEq
structure Kk where
  f : Kf
  nm : Str
  a : Int
  b : Int
  many : Option Int
def Kf.s : Kf → Str
  | .still => "still"
  | .anew => "anew"
  | .lift => "lift"
def mt : Option Int → T
  | none => .non
  | some i => .int i
def mw : Option Int → Str
  | none => "any"
  | some i => num i
structure Kk.ok (k : Kk) : Prop where
  nm : nameB k.nm = true
  a0 : 1 ≤ k.a
  a1 : k.a < 10 ^ 19
  b0 : 1 ≤ k.b
  b1 : k.b < 10 ^ 19
  m0 : ∀ i, k.many = some i → 1 ≤ i ∧ i < 10 ^ 19
/-- what the law draws -/
def Kk.told (k : Kk) : T := .tup [.str k.f.s, .str k.nm, .int k.a, .int (match k.f with | .lift => k.b | _ => 0), mt k.many]
def Kk.ws (k : Kk) : List Str := match k.f with
  | .still => ["still", k.nm, num k.a, mw k.many]
  | .anew => ["anew", k.nm, num k.a, mw k.many]
  | .lift => ["lift", k.nm, num k.a, num k.b, mw k.many]
def Kk.txt (k : Kk) : Str := Txt.join " " k.ws
theorem num_log19 {i : Int} (h0 : 0 ≤ i) (h1 : i < 10 ^ 19) : i.natAbs.log2 < 1920 := by
  have h : i.natAbs < 2 ^ 64 := by
    have : (2 : Nat) ^ 64 = 18446744073709551616 := by decide
    have : (10 : Int) ^ 19 = 10000000000000000000 := by decide
    omega
  exact Nat.lt_trans (PySem.Flt.log2_lt_of (by decide) h) (by decide)
theorem name_free {x : Str} (h : nameB x = true) : free 32 x := fun z => by
  have := (nameB_facts h).2.2.1 32 z
  omega
theorem int_nat {i : Int} (h : 0 ≤ i) : ∃ n : Nat, i = (n : Int) := ⟨i.toNat, by omega⟩
theorem num_facts {i : Int} (h0 : 1 ≤ i) (h1 : i < 10 ^ 19) : (num i).length ≤ 19 ∧ 1 ≤ (num i).length ∧ PyData.strOk (num i) = true ∧ free 32 (num i) ∧ i.natAbs.log2 < 1920 := by
  obtain ⟨n, rfl⟩ := int_nat (show 0 ≤ i by omega)
  have hn : n < 10 ^ 19 := by
    have : (10 : Nat) ^ 19 = 10000000000000000000 := by decide
    have : (10 : Int) ^ 19 = 10000000000000000000 := by decide
    omega
  obtain ⟨h2, h3⟩ := num_length (k := 19) (by decide) hn
  refine ⟨h2, h3, strOk_of _, fun h => ?_, num_log19 (by omega) h1⟩
  have := num_digits 32 h
  omega
theorem mw_facts {m : Option Int} (h : ∀ i, m = some i → 1 ≤ i ∧ i < 10 ^ 19) : (mw m).length ≤ 19 ∧ PyData.strOk (mw m) = true ∧ free 32 (mw m) := by
  cases m with
  | none => unfold free; decide +kernel
  | some i =>
    obtain ⟨h0, h1⟩ := h i rfl
    obtain ⟨a, b, c, d, e⟩ := num_facts h0 h1
    exact ⟨a, c, d⟩
theorem Kk.ok.ws {k : Kk} (h : k.ok) : ∀ x ∈ k.ws, x.length ≤ 19 ∧ PyData.strOk x = true ∧ free 32 x := by
  obtain ⟨n1, n2, _, _⟩ := nameB_facts h.nm
  have n3 := name_free h.nm
  obtain ⟨a1, _, a2, a3, _⟩ := num_facts h.a0 h.a1
  obtain ⟨b1, _, b2, b3, _⟩ := num_facts h.b0 h.b1
  have hm := mw_facts h.m0
  have l1 : (("still" : Str)).length ≤ 19 ∧ PyData.strOk ("still" : Str) = true ∧ free 32 ("still" : Str) := by unfold free; decide +kernel
  have l2 : (("anew" : Str)).length ≤ 19 ∧ PyData.strOk ("anew" : Str) = true ∧ free 32 ("anew" : Str) := by unfold free; decide +kernel
  have l3 : (("lift" : Str)).length ≤ 19 ∧ PyData.strOk ("lift" : Str) = true ∧ free 32 ("lift" : Str) := by unfold free; decide +kernel
  have hn : k.nm.length ≤ 19 ∧ PyData.strOk k.nm = true ∧ free 32 k.nm := ⟨by omega, n2, n3⟩
  intro x hx
  unfold Kk.ws at hx
  split at hx <;> simp only [List.mem_cons, List.not_mem_nil, or_false] at hx
  · rcases hx with rfl | rfl | rfl | rfl
    · exact l1
    · exact hn
    · exact ⟨a1, a2, a3⟩
    · exact hm
  · rcases hx with rfl | rfl | rfl | rfl
    · exact l2
    · exact hn
    · exact ⟨a1, a2, a3⟩
    · exact hm
  · rcases hx with rfl | rfl | rfl | rfl | rfl
    · exact l3
    · exact hn
    · exact ⟨a1, a2, a3⟩
    · exact ⟨b1, b2, b3⟩
    · exact hm
theorem Kk.ws_len (k : Kk) : k.ws.length ≤ 5 := by
  unfold Kk.ws
  split <;> simp
theorem sum_le {xs : List Str} {n : Nat} (h : ∀ x ∈ xs, x.length ≤ n) : (xs.map (·.length)).sum ≤ xs.length * n := by
  induction xs with
  | nil => simp
  | cons x xs ih =>
    have := ih fun y hy => h y (List.mem_cons_of_mem _ hy)
    have h1 := h x List.mem_cons_self
    simp only [List.map_cons, List.sum_cons, List.length_cons, Nat.add_mul]
    omega
theorem strsT_map (xs : List Str) : strsT (xs.map T.str) = some xs := by
  induction xs with
  | nil => rfl
  | cons x xs ih =>
    show (match strsT (xs.map T.str) with | some xs => some (x :: xs) | none => none) = _
    rw [ih]
theorem ev_join {a : Str} {t : T} {us : List T} {ys : List Str} {cs : Cs} {Q : T → Cs → Prop} (h1 : seqOf cs t = some us) (h2 : us = ys.map T.str) (h3 : (ys.map (·.length)).sum + ys.length * a.length ≤ 16777216) : EV (joinM (.str a) [t]) cs Q ↔ Q (.str (Txt.join a ys)) cs := ev_some (by
  unfold joinM
  simp only [h1]
  rw [h2, strsT_map]
  simp only [h3, if_true])
theorem Kk.ok.join {k : Kk} (h : k.ok) : (k.ws.map (·.length)).sum + k.ws.length * (" " : Str).length ≤ 16777216 := by
  have h1 := sum_le fun x hx => (h.ws x hx).1
  have h2 := k.ws_len
  rw [show (" " : Str).length = 1 from rfl]
  omega
theorem Kk.ok.txtOk {k : Kk} (h : k.ok) : PyData.strOk k.txt = true := strOk_join (strOk_of _) fun y hy => (h.ws y hy).2.1
theorem Kk.ok.txtLen {k : Kk} (h : k.ok) : k.txt.length ≤ 100 := by
  have h1 := sum_le fun x hx => (h.ws x hx).1
  have h2 := k.ws_len
  have h3 := StrLaws.join_length_le " " k.ws
  rw [← TL.join_eq, show (" " : Str).length = 1 from rfl] at h3
  unfold Kk.txt
  omega
end Tv

set_option linter.unusedVariables false
namespace Tv
open PySem L2
def intV : T → Bool
  | .int _ => true
  | _ => false
def numV : T → Bool
  | .int i => decide (0 ≤ i)
  | _ => false
def cntV : T → Bool
  | .int i => decide (1 ≤ i)
  | _ => false
def nameV : T → Bool
  | .str x => nameB x
  | _ => false
theorem e_is_integer_v {k : Nat} {t : T} {cs : Cs} (h : AnyV k t) : CV m_is_integer [t] cs fun u cs' => u = .bl (intV t) ∧ cs' = cs := by
  refine cv_def rfl ?_
  show SV (b_is_integer [some t]) cs _
  unfold b_is_integer
  cases h <;> (fail "sz" <;> rfl)
theorem e_is_number_v {k : Nat} {t : T} {cs : Cs} (h : AnyV k t) : CV m_is_number [t] cs fun u cs' => u = .bl (numV t) ∧ cs' = cs := by
  refine cv_def rfl ?_
  show SV (b_is_number [some t]) cs _
  unfold b_is_number
  fail "sz"
  refine (e_is_integer_v h).mono ?_
  rintro u cs1 ⟨rfl, rfl⟩
  cases h <;> (simp only [intV, numV]; fail "sz")
theorem e_is_count_v {k : Nat} {t : T} {cs : Cs} (h : AnyV k t) : CV m_is_count [t] cs fun u cs' => u = .bl (cntV t) ∧ cs' = cs := by
  refine cv_def rfl ?_
  show SV (b_is_count [some t]) cs _
  unfold b_is_count
  fail "sz"
  refine (e_is_integer_v h).mono ?_
  rintro u cs1 ⟨rfl, rfl⟩
  cases h <;> (simp only [intV, cntV]; fail "sz")
theorem e_is_name_v {k : Nat} {t : T} {cs : Cs} (h : AnyV k t) : CV m_is_name [t] cs fun u cs' => u = .bl (nameV t) ∧ cs' = cs := by
  have hz : sizeLine = 16777216 := rfl
  cases h with
  | str x ho hl => exact e_is_name (by omega)
  | _ =>
    refine cv_def rfl ?_
    show SV (b_is_name [some _, none]) cs _
    unfold b_is_name
    fail "sz"
    rfl
def seqV : T → Bool
  | .lst _ => true
  | .tup _ => true
  | _ => false
theorem e_is_seq_v {k : Nat} {t : T} {cs : Cs} (h : AnyV k t) : CV m_is_sequence [t] cs fun u cs' => u = .bl (seqV t) ∧ cs' = cs := by
  refine cv_def rfl ?_
  show SV (b_is_sequence [some t]) cs _
  unfold b_is_sequence
  cases h <;> (fail "sz" <;> rfl)
end Tv

set_option linter.unusedVariables false
namespace Tv
open PySem L2
/-! ### arguments that are right -/
structure ChkI (nm : Str) (ps : List (Str × Int)) (m : Option Int) (cs : Cs) (ts : List T) (env : Env) (cs1 : Cs) : Prop where
  ex : cs1 = cs ∧ ∃ (x y : Option T) (rest : List (Str × Int)), env = [some (.str nm), some (.lst (ps.map fun p => .tup [.str p.1, .int p.2])), some (mt m), x, y] ∧ ts = rest.map (fun p => T.tup [.str p.1, .int p.2]) ∧ ∀ p ∈ rest, 1 ≤ p.2
theorem set_last {cs : Cs} {c d : Cell} : (cs ++ [c]).set cs.length d = cs ++ [d] := by
  rw [List.set_append_right _ _ (Nat.le_refl _), Nat.sub_self]
  rfl
theorem cv_made {c nf : Nat} {mi : List T → M T} {ts fs : List T} {cs : Cs} {Q : T → Cs → Prop} (h : CV mi (.own cs.length :: ts) (cs ++ [Cell.obj c []]) fun u cs' => u = .non ∧ cs' = (cs ++ [Cell.obj c []]).set cs.length (.obj c fs)) (hn : fs.length = nf) (q : Q (.obj c fs) (cs ++ [.dead])) : CV (mMake c nf mi) ts cs Q := by
  refine cv_make (h.mono ?_)
  rintro t cs' ⟨rfl, rfl⟩
  refine ⟨rfl, fs, get_set get_last, hn, ?_⟩
  rw [List.set_set, set_last]
  exact q
/-! ### what the law draws -/
theorem lit_ne {a b : Str} (ha : PyData.strOk a = true) (hb : PyData.strOk b = true) {cs : Cs} {Q : T → Cs → Prop} {r : Bool} (h : (a == b) = r) : EV (eqT (.str a) (.str b)) cs Q ↔ Q (.bl r) cs := by rw [ev_eqS ha hb, h]
theorem manyT {t : T} (h : t ∈ [T.int 1, .int 1, .int 2, .int 3, .non]) : ∃ m, t = mt m ∧ ∀ i, m = some i → 1 ≤ i ∧ i ≤ 3 := by
  simp only [List.mem_cons, List.not_mem_nil, or_false] at h
  rcases h with rfl | rfl | rfl | rfl | rfl
  · exact ⟨some 1, rfl, fun i e => by cases e; decide⟩
  · exact ⟨some 1, rfl, fun i e => by cases e; decide⟩
  · exact ⟨some 2, rfl, fun i e => by cases e; decide⟩
  · exact ⟨some 3, rfl, fun i e => by cases e; decide⟩
  · exact ⟨none, rfl, fun i e => by cases e⟩
theorem formT {t : T} (h : t ∈ [T.str "still", .str "anew", .str "lift"]) : ∃ f : Kf, t = .str f.s := by
  simp only [List.mem_cons, List.not_mem_nil, or_false] at h
  rcases h with rfl | rfl | rfl
  · exact ⟨.still, rfl⟩
  · exact ⟨.anew, rfl⟩
  · exact ⟨.lift, rfl⟩
theorem e_kind {D L : Nat} {cs : Cs} {nm : Str} {most : Int} (hd : Deal D L cs) (h : nameB nm = true) (h0 : 1 ≤ most) (h1 : most ≤ 10 ^ 18) : CV m_l_kind [.own D, .str nm, .int most] cs fun t cs' => ∃ k : Kk, t = k.told ∧ k.ok ∧ k.nm = nm ∧ (k.a ≤ most ∧ k.b ≤ most) ∧ (∀ i, k.many = some i → i ≤ 3) ∧ Wnt D L cs cs' := by
  refine cv_def rfl ?_
  show SV (b_l_kind [some (.own D), some (.str nm), some (.int most), none, none]) cs _
  unfold b_l_kind
  fail "sx"
  refine ⟨by decide, ?_⟩
  refine (e_pick hd (by simp) (by simp)).mono ?_
  rintro t cs1 ⟨hf, w1⟩
  obtain ⟨f, rfl⟩ := formT hf
  fail "sx"
  refine ⟨by decide, ?_⟩
  refine (e_pick w1.d (by simp) (by simp)).mono ?_
  rintro t cs2 ⟨hm, w2⟩
  obtain ⟨m, rfl, hmm⟩ := manyT hm
  fail "sx"
  have h3 : (10 : Int) ^ 18 = 1000000000000000000 := by decide
  have h4 : (10 : Int) ^ 19 = 10000000000000000000 := by decide
  refine (e_draw w2.d (by omega) (by omega)).mono ?_
  rintro t cs3 ⟨a, rfl, a0, a1, w3⟩
  fail "sx"
  have hm2 : ∀ i, m = some i → 1 ≤ i ∧ i < 10 ^ 19 := fun i e => by have := hmm i e; omega
  have hm3 : ∀ i, m = some i → i ≤ 3 := fun i e => (hmm i e).2
  have w123 := (w1.trans w2).trans w3
  cases f with
  | still =>
    rw [show Kf.s .still = ("still" : Str) from rfl, lit_ne (r := false) (by decide +kernel) (by decide +kernel) (by decide +kernel)]
    fail "sx"
    exact ⟨by decide, ⟨.still, nm, 1 + a, 1, m⟩, rfl, ⟨h, by show 1 ≤ 1 + a; omega, by show 1 + a < 10 ^ 19; omega, by show (1 : Int) ≤ 1; omega, by show (1 : Int) < 10 ^ 19; decide, hm2⟩, rfl, by show 1 + a ≤ most; omega, h0, hm3, w123⟩
  | anew =>
    rw [show Kf.s .anew = ("anew" : Str) from rfl, lit_ne (r := false) (by decide +kernel) (by decide +kernel) (by decide +kernel)]
    fail "sx"
    exact ⟨by decide, ⟨.anew, nm, 1 + a, 1, m⟩, rfl, ⟨h, by show 1 ≤ 1 + a; omega, by show 1 + a < 10 ^ 19; omega, by show (1 : Int) ≤ 1; omega, by show (1 : Int) < 10 ^ 19; decide, hm2⟩, rfl, by show 1 + a ≤ most; omega, h0, hm3, w123⟩
  | lift =>
    rw [show Kf.s .lift = ("lift" : Str) from rfl, lit_ne (r := true) (by decide +kernel) (by decide +kernel) (by decide +kernel)]
    fail "sx"
    refine (e_draw w123.d (by omega) (by omega)).mono ?_
    rintro t cs4 ⟨b, rfl, b0, b1, w4⟩
    fail "sx"
    exact ⟨by decide, ⟨.lift, nm, 1 + a, 1 + b, m⟩, rfl, ⟨h, by show 1 ≤ 1 + a; omega, by show 1 + a < 10 ^ 19; omega, by show 1 ≤ 1 + b; omega, by show 1 + b < 10 ^ 19; omega, hm2⟩, rfl, by show 1 + a ≤ most; omega, by show 1 + b ≤ most; omega, hm3, w123.trans w4⟩
theorem okd_mt (m : Option Int) : okd (mt m) := by
  cases m with
  | none => exact ⟨_, rfl, by decide +kernel⟩
  | some i => exact ⟨_, rfl, rfl⟩
theorem clsT_mt (m : Option Int) (cs : Cs) : clsT cs (mt m) = none := by cases m <;> rfl
end Tv

set_option linter.unusedVariables false
namespace Tv
open PySem L2
def leV : T → T → Bool
  | .int i, .int j => decide (i ≤ j)
  | _, _ => false
def unsB : T → Bool
  | .tup [a, b, n, d] => numV a && (numV b && (leV a b && (nameV n && cntV d)))
  | _ => false
theorem unsB_len {ts : List T} (h : ts.length ≠ 4) : unsB (.tup ts) = false := by
  unfold unsB
  split
  · rename_i e
    cases e
    exact absurd rfl h
  · rfl
theorem numV_int {t : T} (h : numV t = true) : ∃ i, t = .int i ∧ 0 ≤ i := by
  cases t <;> first | exact ⟨_, rfl, of_decide_eq_true h⟩ | cases h
theorem four {α : Type} {ts : List α} (h : ts.length = 4) : ∃ a b c d, ts = [a, b, c, d] := by
  match ts, h with
  | [a, b, c, d], _ => exact ⟨a, b, c, d, rfl⟩
theorem e_is_unsure_v {k : Nat} {t : T} {cs : Cs} (h : AnyV k t) : CV m_is_unsure [t] cs fun u cs' => u = .bl (unsB t) ∧ cs' = cs := by
  refine cv_def rfl ?_
  show SV (b_is_unsure [some t, none, none, none, none]) cs _
  unfold b_is_unsure
  cases h with
  | tup ts hl ha =>
    fail "sz"
    by_cases h4 : ts.length = 4
    · obtain ⟨a, b, c, d, rfl⟩ := four h4
      have A := ha a (by simp)
      have Bb := ha b (by simp)
      have C := ha c (by simp)
      have Dd := ha d (by simp)
      fail "sz"
      refine (e_is_number_v A).mono ?_
      rintro u cs1 ⟨rfl, rfl⟩
      fail "sz"
      unfold unsB
      cases e1 : numV a with
      | false => fail "sz"; rw [e1]; rfl
      | true =>
        fail "sz"
        refine (e_is_number_v Bb).mono ?_
        rintro u cs1 ⟨rfl, rfl⟩
        fail "sz"
        cases e2 : numV b with
        | false => fail "sz"; rw [e1]; rfl
        | true =>
          obtain ⟨i, rfl, i0⟩ := numV_int e1
          obtain ⟨j, rfl, j0⟩ := numV_int e2
          fail "sz"
          unfold leV
          by_cases e3 : i ≤ j
          · rw [decide_eq_true e3]
            fail "sz"
            refine (e_is_name_v C).mono ?_
            rintro u cs1 ⟨rfl, rfl⟩
            fail "sz"
            cases e4 : nameV c with
            | false => fail "sz"; rw [e1]; simp
            | true =>
              fail "sz"
              refine (e_is_count_v Dd).mono ?_
              rintro u cs1 ⟨rfl, rfl⟩
              fail "sz"
              rw [e1, decide_eq_true e3]
              rfl
          · rw [decide_eq_false e3]
            fail "sz"
            rw [e1, decide_eq_false e3]
            rfl
    · rw [unsB_len h4, decide_eq_false (show ¬ ((ts.length : Int) = 4) by omega)]
      fail "sz"
  | _ => fail "sz" <;> rfl
/-- the first that is none -/
def wrongAt : Nat → List T → Option Nat
  | _, [] => none
  | n, t :: ts => if unsB t = true then wrongAt (n + 1) ts else some n
theorem uns_loop {ts : List T} {x0 x1 x2 x3 : Option T} {cs : Cs} {ck : Cs → Bool} {k n : Nat} {Q : Fl → Cs → Prop} (hc : ck cs = true) (ha : ∀ t ∈ ts, AnyV k t)
    (h : match wrongAt n ts with
      | some n => Q (.ex 2 (some (.int n))) cs
      | none => ∀ y2 y3, Q (.nx [x0, x1, y2, y3]) cs) :
    SV (forL ck (gTupT 2 (gConsT (gSet 2) (gConsT (gSet 3) gNilC))) (sIf (mNotT (mTru (mCal m_is_unsure [] (aCons (mVar 3) aNil)))) (sRaise 2 (aCons (mVar 2) aNil)) bNil) (enumFrom n ts) [x0, x1, x2, x3]) cs Q := by
  refine for_inv (fun us env c => c = cs ∧ ∃ (m : Nat) (rest : List T) (y2 y3 : Option T), us = enumFrom m rest ∧ env = [x0, x1, y2, y3] ∧ wrongAt m rest = wrongAt n ts ∧ ∀ t ∈ rest, AnyV k t) (fun _ _ _ h => by rw [h.1]; exact hc) ?_ ?_ _ _ _ ⟨rfl, n, ts, x2, x3, rfl, rfl, rfl, ha⟩
  · rintro t us env c ⟨rfl, m, rest, y2, y3, e, rfl, hw, hr⟩
    cases rest with
    | nil => cases e
    | cons r rest =>
      rw [enumFrom] at e
      obtain ⟨rfl, rfl⟩ := List.cons.inj e
      refine ⟨_, rfl, ?_⟩
      fail "sz"
      refine (e_is_unsure_v (hr r (by simp))).mono ?_
      rintro u cs1 ⟨rfl, rfl⟩
      fail "sz"
      rw [wrongAt] at hw
      cases hb : unsB r with
      | false =>
        rw [hb] at hw
        rw [← hw] at h
        fail "sz"
        exact h
      | true =>
        rw [hb] at hw
        fail "sz"
        exact ⟨m + 1, rest, rfl, hw, fun t ht => hr t (by simp [ht])⟩
  · rintro env c ⟨rfl, m, rest, y2, y3, e, rfl, hw, hr⟩
    cases rest with
    | cons r rest => rw [enumFrom] at e; cases e
    | nil =>
      rw [← hw] at h
      exact h _ _
theorem e_is_seq' {t : T} {cs : Cs} {us : List T} (h : SqA cs t us) : CV m_is_sequence [t] cs fun u cs' => u = .bl true ∧ cs' = cs := by
  refine cv_def rfl ?_
  show SV (b_is_sequence [some t]) cs _
  unfold b_is_sequence
  fail "sx"
  rcases h.ki with e | e <;> exact ⟨_, e, true, (by decide +kernel), rfl⟩
theorem seqT_of {t : T} {cs : Cs} {us : List T} (h : SqA cs t us) : ∃ ck, seqT cs t = some (us, ck) ∧ ck cs = true := by
  rcases h.cases with rfl | rfl | ⟨k, rfl, e⟩
  · exact ⟨_, rfl, rfl⟩
  · exact ⟨_, rfl, rfl⟩
  · refine ⟨ckOwn k us, ?_, ckOwn_refl e⟩
    unfold seqT
    simp only [e]
theorem e_Unsure_init {t : T} {us : List T} {j k : Nat} {cs : Cs} (hj : cs[j]? = some (.obj 3 [])) (h : SqA cs t us) (ha : ∀ u ∈ us, AnyV k u) (hw : wrongAt 0 us = none) : CV m_Unsure_init [.own j, t] cs fun u cs' => u = .non ∧ cs' = cs.set j (.obj 3 [.tup us]) := by
  refine cv_def rfl ?_
  show SV (b_Unsure_init [some (.own j), some t, none, none]) cs _
  unfold b_Unsure_init
  fail "sz"
  refine (e_is_seq' h).mono ?_
  rintro u cs1 ⟨rfl, rfl⟩
  fail "sz"
  obtain ⟨ck, e1, e2⟩ := seqT_of h
  refine ⟨_, e1, ?_⟩
  refine uns_loop e2 ha ?_
  rw [hw]
  intro y2 y3
  fail "sz"
  rw [ev_tupC h.sq]
  fail "sz"
  exact ⟨_, _, hj, 0, rfl, rfl, rfl⟩
theorem e_Unsure_initX {t : T} {us : List T} {j k n : Nat} {cs : Cs} (h : SqA cs t us) (ha : ∀ u ∈ us, AnyV k u) (hw : wrongAt 0 us = some n) : XV (m_Unsure_init [.own j, t]) cs 2 (some (.int n)) cs := by
  refine xv_def rfl ?_
  show SV (b_Unsure_init [some (.own j), some t, none, none]) cs _
  unfold b_Unsure_init
  fail "sz"
  refine (e_is_seq' h).mono ?_
  rintro u cs1 ⟨rfl, rfl⟩
  fail "sz"
  obtain ⟨ck, e1, e2⟩ := seqT_of h
  refine ⟨_, e1, ?_⟩
  refine uns_loop e2 ha ?_
  rw [hw]
  exact ⟨rfl, rfl⟩
theorem e_Unsure_initN {t : T} {j k : Nat} {cs : Cs} (h : AnyV k t) (hs : seqV t = false) : XV (m_Unsure_init [.own j, t]) cs 2 (some (.int 0)) cs := by
  refine xv_def rfl ?_
  show SV (b_Unsure_init [some (.own j), some t, none, none]) cs _
  unfold b_Unsure_init
  fail "sz"
  refine (e_is_seq_v h).mono ?_
  rintro u cs1 ⟨rfl, rfl⟩
  rw [hs]
  fail "sz"
theorem cv_Unsure {t : T} {us : List T} {k : Nat} {cs : Cs} {Q : T → Cs → Prop} (h : SqA cs t us) (ha : ∀ u ∈ us, AnyV k u) (hw : wrongAt 0 us = none) (q : Q (.obj 3 [.tup us]) (cs ++ [.dead])) : CV (mMake 3 1 m_Unsure_init) [t] cs Q :=
  cv_made (e_Unsure_init get_last h.app ha hw) rfl q
end Tv

set_option linter.unusedVariables false
namespace Tv
open PySem L2
/-! ### the arguments of a rule -/
theorem e_is_seq {t : T} {cs : Cs} {us : List T} (h : SqA cs t us) : CV m_is_sequence [t] cs fun u cs' => u = .bl true ∧ cs' = cs := by
  refine cv_def rfl ?_
  show SV (b_is_sequence [some t]) cs _
  unfold b_is_sequence
  fail "sx"
  rcases h.ki with e | e <;> exact ⟨_, e, true, (by decide +kernel), rfl⟩
def restB (n : Int) : Bool := decide (0 ≤ n) && decide (n < 7)
def restT : T → Option T
  | .int n => some (.bl (restB n))
  | _ => none
theorem restT_map (ns : List Int) : (ns.map T.int).filterMap restT = (ns.map restB).map T.bl := by
  induction ns with
  | nil => rfl
  | cons n ns ih =>
    rw [List.map_cons, List.filterMap_cons]
    show T.bl (restB n) :: _ = _
    rw [ih]
    rfl
def restsB (ns : List Int) : Bool := ns.all restB && (decide ns.Nodup && decide (ns.length < 7))
def restsE : T → Option T
  | .str _ => none
  | _ => none
/-! ### a rule -/
structure Rl where
  len : Int
  rests : List Int
  cap : Option Int
  kinds : List Kk
structure Rl.ok (r : Rl) : Prop where
  l0 : 1 ≤ r.len
  l1 : r.len < 10 ^ 19
  rs : restsB r.rests = true
  so : sortI r.rests = r.rests
  cp : ∀ i, r.cap = some i → 1 ≤ i ∧ i < 10 ^ 19
  ks : ∀ k ∈ r.kinds, k.ok
  nd : (r.kinds.map Kk.nm).Nodup
  few : r.kinds.length ≤ 100
def capB : Option Int → Bool
  | none => true
  | some c => decide (1 ≤ c)
/-- the first argument that is wrong -/
def ruleErr (len : Int) (rs : List Int) (cap : Option Int) (ks : List Kk) : Option Str :=
  if 1 ≤ len then if restsB rs = true then if capB cap = true then if (ks.map Kk.nm).Nodup then none else some "kinds" else some "cap" else some "rests" else some "length"
theorem isNon_mt {m : Option Int} : isNon (mt m) = m.isNone := by cases m <;> rfl
def nmT : T → Option T
  | .obj _ (n :: _) => some n
  | _ => none
theorem ok_err {r : Rl} (h : r.ok) : ruleErr r.len r.rests r.cap r.kinds = none := by
  unfold ruleErr
  rw [if_pos h.l0, h.rs, if_pos rfl, if_pos, if_pos h.nd]
  cases e : r.cap with
  | none => rfl
  | some c => exact decide_eq_true (h.cp c e).1
theorem restsB_len {rs : List Int} (h : restsB rs = true) : rs.length < 7 := of_decide_eq_true (Bool.and_eq_true_iff.mp (Bool.and_eq_true_iff.mp h).2).2
theorem restsB_perm {rs ss : List Int} (h : rs.Perm ss) : restsB rs = restsB ss := by
  unfold restsB
  rw [h.length_eq, h.all_eq, decide_eq_decide.mpr h.nodup_iff]
end Tv

set_option linter.unusedVariables false
namespace Tv
open PySem L2
/-! ### a kind's text read -/
def manyW (m : Str) : Option Int := if m = "any" then none else some (valI m)
def manyB (m : Str) : Bool := decide (m = "any") || cntB m
def toldW : List Str → Option Kk
  | [f, n, d, m] => if (decide (f = "still") || decide (f = "anew")) && (nameB n && (cntB d && manyB m)) then some ⟨if f = "still" then .still else .anew, n, valI d, 1, manyW m⟩ else none
  | [f, n, d, e, m] => if decide (f = "lift") && (nameB n && (cntB d && (cntB e && manyB m))) then some ⟨.lift, n, valI d, valI e, manyW m⟩ else none
  | _ => none
def cntT : T → Option T
  | .str w => some (.bl (cntB w))
  | _ => none
theorem cntT_map (ws : List Str) : (ws.map T.str).filterMap cntT = (ws.map cntB).map T.bl := by
  induction ws with
  | nil => rfl
  | cons w ws ih =>
    show T.bl _ :: (ws.map T.str).filterMap cntT = _
    rw [ih]
    rfl
def valT : T → Option T
  | .str w => some (.int (valI w))
  | _ => none
theorem valT_map (ws : List Str) : (ws.map T.str).filterMap valT = ws.map fun w => T.int (valI w) := by
  induction ws with
  | nil => rfl
  | cons w ws ih =>
    show T.int _ :: (ws.map T.str).filterMap valT = _
    rw [ih]
    rfl
theorem lv_val {ck : Cs → Bool} {ds : List Str} {x a b c e : Option T} {cs : Cs} {Q : List T → Cs → Prop} (hc : ck cs = true) (hs : ∀ d ∈ ds, cntB d = true) (q : Q (ds.map fun d => T.int (valI d)) cs) :
    LV ck [3] (gSet 3) yesM (mCall intC (aCons (mVar 3) aNil)) (ds.map T.str) [x, a, b, c, e] cs Q := by
  refine lv_pure valT hc ?_ (by rw [valT_map]; exact q)
  intro t ht
  obtain ⟨d, hd, rfl⟩ := List.mem_map.mp ht
  refine ⟨[x, a, b, some (.str d), e], rfl, ?_⟩
  fail "sx"
  rw [ev_intS (Bool.and_eq_true_iff.mp (hs d hd)).1]
  exact ⟨rfl, rfl⟩
theorem many_ok {m : Str} (h : manyB m = true) : ∀ i, manyW m = some i → 1 ≤ i ∧ i < 10 ^ 19 := fun i e => by
  unfold manyW at e
  unfold manyB at h
  split at e
  · cases e
  · rename_i hm
    cases e
    rw [decide_eq_false hm, Bool.false_or] at h
    exact cntB_val h
theorem mt_some {d : Str} : T.int (valI d) = mt (some (valI d)) := rfl
theorem toldW_short {f : Str} {rest : List Str} (h : (f = "still" ∨ f = "anew") ∧ rest.length ≠ 3 ∨ f = "lift" ∧ rest.length ≠ 4 ∨ (f ≠ "still" ∧ f ≠ "anew" ∧ f ≠ "lift")) : toldW (f :: rest) = none := by
  unfold toldW
  split
  · rename_i f2 n d m e
    cases e
    rcases h with ⟨_, h⟩ | ⟨h, _⟩ | ⟨h1, h2, h3⟩
    · exact absurd rfl h
    · subst h
      rw [show (decide (("lift" : Str) = "still") || decide (("lift" : Str) = "anew")) = false from by decide +kernel]
      rfl
    · rw [decide_eq_false h1, decide_eq_false h2]
      rfl
  · rename_i f2 n d e2 m e
    cases e
    rcases h with ⟨h, _⟩ | ⟨_, h⟩ | ⟨h1, h2, h3⟩
    · have : f ≠ "lift" := by rcases h with rfl | rfl <;> decide +kernel
      rw [decide_eq_false this]
      rfl
    · exact absurd rfl h
    · rw [decide_eq_false h3]
      rfl
  · rfl
theorem get_two {f : Str} (h : f = "still" ∨ f = "anew") : ([("still", .int 4), ("anew", .int 4), ("lift", .int 5)] : List (Str × T)).lookup f = some (.int 4) := by
  rcases h with rfl | rfl <;> rfl
theorem get_none {f : Str} (h1 : f ≠ "still") (h2 : f ≠ "anew") (h3 : f ≠ "lift") : ([("still", .int 4), ("anew", .int 4), ("lift", .int 5)] : List (Str × T)).lookup f = none := by
  rw [List.lookup_cons, show (f == "still") = false from beq_false_of_ne h1, List.lookup_cons, show (f == "anew") = false from beq_false_of_ne h2, List.lookup_cons, show (f == "lift") = false from beq_false_of_ne h3]
  rfl
end Tv

set_option linter.unusedVariables false
namespace Tv
open PySem L2
theorem app_assoc (a b c : Str) : a ++ b ++ c = a ++ (b ++ c) := str_ext (by simp [cps_app])
theorem join_app (s : Str) : ∀ {A B : List Str}, A ≠ [] → B ≠ [] → Str.join s (A ++ B) = Str.join s A ++ s ++ Str.join s B
  | [], _, h, _ => absurd rfl h
  | _, [], _, h => absurd rfl h
  | [a], b :: B, _, _ => rfl
  | a :: a2 :: A, b :: B, _, h => by
    have ih := join_app s (A := a2 :: A) (B := b :: B) (by simp) h
    show a ++ s ++ Str.join s ((a2 :: A) ++ (b :: B)) = (a ++ s ++ Str.join s (a2 :: A)) ++ s ++ Str.join s (b :: B)
    rw [ih]
    simp only [app_assoc]
def capW : Option Int → Str
  | none => "none"
  | some c => num c
def restWs (rs : List Int) : List Str := if rs = [] then ["none"] else rs.map num
def restW (rs : List Int) : Str := Txt.join " " (restWs rs)
def headWs (len : Int) (rs : List Int) (cap : Option Int) : List Str := [("term" : Str), num len, ("rests" : Str)] ++ restWs rs ++ [("cap" : Str), capW cap]
def headT (len : Int) (rs : List Int) (cap : Option Int) : Str := Txt.join " " (headWs len rs cap)
theorem restWs_ne (rs : List Int) : restWs rs ≠ [] := by
  unfold restWs
  split
  · simp
  · rename_i h
    simpa using h
theorem head_app (len : Int) (rs : List Int) (cap : Option Int) : headT len rs cap = ((((Str.ofString "term " ++ num len) ++ Str.ofString " rests ") ++ restW rs) ++ Str.ofString " cap ") ++ capW cap := by
  unfold headT headWs restW
  simp only [TL.join_eq]
  rw [join_app " " (by simp) (by simp), join_app " " (by simp) (restWs_ne rs)]
  have e1 : Str.join " " [("term" : Str), num len, ("rests" : Str)] = ("term" : Str) ++ " " ++ (num len ++ " " ++ "rests") := rfl
  have e2 : Str.join " " [("cap" : Str), capW cap] = ("cap" : Str) ++ " " ++ capW cap := rfl
  have k1 : Str.ofString "term " = ("term" : Str) ++ " " := by decide +kernel
  have k2 : Str.ofString " rests " = (" " : Str) ++ ("rests" ++ " ") := by decide +kernel
  have k3 : Str.ofString " cap " = (" " : Str) ++ ("cap" ++ " ") := by decide +kernel
  rw [e1, e2, k1, k2, k3]
  simp only [app_assoc]
def Rl.txt (r : Rl) : Str := Txt.join "\n" (headT r.len r.rests r.cap :: r.kinds.map Kk.txt)
/-! ### how long, which signs -/
structure Wd (n : Nat) (x : Str) : Prop where
  len : x.length ≤ n
  ok : PyData.strOk x = true
  sp : free 32 x
theorem Wd.mono {n m : Nat} {x : Str} (h : Wd n x) (hm : n ≤ m) : Wd m x := ⟨Nat.le_trans h.len hm, h.ok, h.sp⟩
theorem wd_num {i : Int} (h0 : 0 ≤ i) (h1 : i < 10 ^ 19) : Wd 19 (num i) := by
  obtain ⟨n, rfl⟩ := int_nat h0
  have hn : n < 10 ^ 19 := by
    have : (10 : Nat) ^ 19 = 10000000000000000000 := by decide
    have : (10 : Int) ^ 19 = 10000000000000000000 := by decide
    omega
  have hd := num_digits (n := n)
  refine ⟨(num_length (by decide) hn).1, strOk_all.mpr fun c hc => ?_, fun z => ?_⟩
  · have := hd c hc
    omega
  · have := hd 32 z
    omega
theorem wd_lit {s : String} {n : Nat} (h : (Str.ofString s).length ≤ n) (hf : (Str.ofString s).cps.toList.contains 32 = false) : Wd n (Str.ofString s) := ⟨h, strOk_of s, fun z => by
  have : (Str.ofString s).cps.toList.contains 32 = true := by simpa using z
  rw [hf] at this
  cases this⟩
theorem capW_wd {cap : Option Int} (h : ∀ i, cap = some i → 0 ≤ i ∧ i < 10 ^ 19) : Wd 19 (capW cap) := by
  cases cap with
  | none => exact wd_lit (by decide +kernel) (by decide +kernel)
  | some c => exact wd_num (h c rfl).1 (h c rfl).2
theorem restB_at {rs : List Int} (h : restsB rs = true) {n : Int} (hn : n ∈ rs) : 0 ≤ n ∧ n < 7 := by
  have h1 := List.all_eq_true.mp (Bool.and_eq_true_iff.mp h).1 n hn
  obtain ⟨a, b⟩ := Bool.and_eq_true_iff.mp h1
  exact ⟨of_decide_eq_true a, of_decide_eq_true b⟩
theorem restWs_wd {rs : List Int} (h : restsB rs = true) : ∀ x ∈ restWs rs, Wd 19 x := fun x hx => by
  unfold restWs at hx
  split at hx
  · rw [List.mem_singleton.mp hx]
    exact wd_lit (by decide +kernel) (by decide +kernel)
  · obtain ⟨n, hn, rfl⟩ := List.mem_map.mp hx
    have := restB_at h hn
    exact wd_num this.1 (by omega)
theorem restWs_len {rs : List Int} (h : restsB rs = true) : (restWs rs).length ≤ 6 := by
  have := restsB_len h
  unfold restWs
  split
  · simp
  · rw [List.length_map]; omega
theorem headWs_wd {len : Int} {rs : List Int} {cap : Option Int} (hl : 0 ≤ len ∧ len < 10 ^ 19) (h : restsB rs = true) (hc : ∀ i, cap = some i → 0 ≤ i ∧ i < 10 ^ 19) : ∀ x ∈ headWs len rs cap, Wd 19 x := fun x hx => by
  unfold headWs at hx
  rcases List.mem_append.mp hx with hx | hx
  · rcases List.mem_append.mp hx with hx | hx
    · simp only [List.mem_cons, List.not_mem_nil, or_false] at hx
      rcases hx with rfl | rfl | rfl
      · exact wd_lit (by decide +kernel) (by decide +kernel)
      · exact wd_num hl.1 hl.2
      · exact wd_lit (by decide +kernel) (by decide +kernel)
    · exact restWs_wd h x hx
  · simp only [List.mem_cons, List.not_mem_nil, or_false] at hx
    rcases hx with rfl | rfl
    · exact wd_lit (by decide +kernel) (by decide +kernel)
    · exact capW_wd hc
theorem headWs_len {len : Int} {rs : List Int} {cap : Option Int} (h : restsB rs = true) : (headWs len rs cap).length ≤ 11 := by
  have := restWs_len h
  unfold headWs
  simp only [List.length_append, List.length_cons, List.length_nil]
  omega
theorem join_wd {ws : List Str} {n : Nat} (h : ∀ x ∈ ws, Wd n x) : (Txt.join " " ws).length ≤ ws.length * n + ws.length ∧ PyData.strOk (Txt.join " " ws) = true := by
  have h1 := sum_le fun x hx => (h x hx).len
  have h3 := StrLaws.join_length_le " " ws
  rw [← TL.join_eq] at h3
  refine ⟨?_, strOk_join (strOk_of _) fun x hx => (h x hx).ok⟩
  rw [show (" " : Str).length = 1 from rfl] at h3
  omega
theorem head_facts {len : Int} {rs : List Int} {cap : Option Int} (hl : 0 ≤ len ∧ len < 10 ^ 19) (h : restsB rs = true) (hc : ∀ i, cap = some i → 0 ≤ i ∧ i < 10 ^ 19) : (headT len rs cap).length ≤ 220 ∧ PyData.strOk (headT len rs cap) = true := by
  obtain ⟨a, b⟩ := join_wd (headWs_wd hl h hc)
  have := headWs_len (len := len) (cap := cap) h
  refine ⟨?_, b⟩
  show (Txt.join " " (headWs len rs cap)).length ≤ 220
  generalize (headWs len rs cap).length = n at a this
  omega
end Tv

set_option linter.unusedVariables false
namespace Tv
open PySem L2
def numT : T → Option T
  | .int i => some (.str (num i))
  | _ => none
theorem numT_map (ns : List Int) : (ns.map T.int).filterMap numT = (ns.map num).map T.str := by
  induction ns with
  | nil => rfl
  | cons n ns ih =>
    rw [List.map_cons, List.filterMap_cons]
    show T.str (num n) :: _ = _
    rw [ih]
    rfl
theorem cap_nn {cap : Option Int} (h : ∀ i, cap = some i → 1 ≤ i ∧ i < 10 ^ 19) : ∀ i, cap = some i → 0 ≤ i ∧ i < 10 ^ 19 := fun i e => ⟨by have := (h i e).1; omega, (h i e).2⟩
theorem log_of {i : Int} (h0 : 0 ≤ i) (h1 : i < 10 ^ 19) : i.natAbs.log2 < 1920 := num_log19 h0 h1
theorem isNon_capT {cap : Option Int} : isNon (mt cap) = cap.isNone := by cases cap <;> rfl
theorem kinds_txt_len {ks : List Kk} (h : ∀ k ∈ ks, k.ok) : ((ks.map Kk.txt).map (·.length)).sum ≤ ks.length * 100 := by
  have := sum_le (xs := ks.map Kk.txt) (n := 100) fun x hx => by
    obtain ⟨k, hk, rfl⟩ := List.mem_map.mp hx
    exact (h k hk).txtLen
  rwa [List.length_map] at this
def strOf : T → Option T
  | .obj c fs => none
  | _ => none
theorem Rl.ok.txtLen {r : Rl} (h : r.ok) : r.txt.length ≤ 12000 ∧ ((headT r.len r.rests r.cap :: r.kinds.map Kk.txt).map (·.length)).sum + (headT r.len r.rests r.cap :: r.kinds.map Kk.txt).length * ("\n" : Str).length ≤ 12000 := by
  have h1 := (head_facts (len := r.len) (cap := r.cap) ⟨by have := h.l0; omega, h.l1⟩ h.rs (cap_nn h.cp)).1
  have h2 := kinds_txt_len h.ks
  have h3 := StrLaws.join_length_le "\n" (headT r.len r.rests r.cap :: r.kinds.map Kk.txt)
  have few := h.few
  rw [← TL.join_eq] at h3
  have e : ("\n" : Str).length = 1 := rfl
  rw [e] at h3 ⊢
  simp only [List.map_cons, List.sum_cons, List.length_cons, List.length_map] at h3 ⊢
  refine ⟨?_, by omega⟩
  show (Txt.join "\n" (headT r.len r.rests r.cap :: r.kinds.map Kk.txt)).length ≤ 12000
  omega
theorem Rl.ok.txtOk {r : Rl} (h : r.ok) : PyData.strOk r.txt = true := strOk_join (strOk_of _) fun y hy => by
  rcases List.mem_cons.mp hy with rfl | hy
  · exact (head_facts (len := r.len) (cap := r.cap) ⟨by have := h.l0; omega, h.l1⟩ h.rs (cap_nn h.cp)).2
  · obtain ⟨k, hk, rfl⟩ := List.mem_map.mp hy
    exact (h.ks k hk).txtOk
end Tv

set_option linter.unusedVariables false
namespace Tv
open PySem L2
theorem at_last (ts : List T) (x : T) : atI (ts ++ [x]) (-1) = some x := by
  unfold atI ixN
  rw [if_neg (by omega), if_pos (by simp; omega)]
  show (ts ++ [x])[(-1 + ((ts ++ [x]).length : Int)).toNat]? = some x
  rw [show (-1 + ((ts ++ [x]).length : Int)).toNat = ts.length by simp; omega, List.getElem?_append_right (Nat.le_refl _), Nat.sub_self]
  rfl
theorem at_last2 (ts : List T) (x y : T) : atI (ts ++ [x, y]) (-2) = some x := by
  unfold atI ixN
  rw [if_neg (by omega), if_pos (by simp; omega)]
  show (ts ++ [x, y])[(-2 + ((ts ++ [x, y]).length : Int)).toNat]? = some x
  rw [show (-2 + ((ts ++ [x, y]).length : Int)).toNat = ts.length by simp; omega, List.getElem?_append_right (Nat.le_refl _), Nat.sub_self]
  rfl
theorem cut_mid (a b c : T) (mid : List T) (d e : T) : cutT (a :: b :: c :: (mid ++ [d, e])) (some 3) (some (-2)) = mid := by
  unfold cutT
  have l : (a :: b :: c :: (mid ++ [d, e])).length = mid.length + 5 := by simp
  rw [l]
  have e1 : HT.sIx (mid.length + 5) 0 (some 3) = 3 := by
    unfold HT.sIx
    dsimp only
    rw [if_neg (by omega)]
    show min 3 (mid.length + 5) = 3
    omega
  have e2 : HT.sIx (mid.length + 5) (mid.length + 5) (some (-2)) = mid.length + 3 := by
    unfold HT.sIx
    dsimp only
    rw [if_pos (by omega)]
    omega
  rw [e1, e2]
  show List.take _ (mid ++ [d, e]) = mid
  rw [show mid.length + 3 - 3 = mid.length by omega, List.take_append_of_le_length (Nat.le_refl _), List.take_length]
/-- whether words are those of a first line -/
def headB (a b c : Str) (mid : List Str) (d e : Str) : Bool :=
  ([a, c, d] == [Str.ofString "term", Str.ofString "rests", Str.ofString "cap"]) && ((digB b && (e == "none" || digB e)) && (mid == [Str.ofString "none"] || mid.all fun w => digB w && decide (w.length = 1)))
def oneT : T → Option T
  | .str w => some (.bl (digB w && decide (w.length = 1)))
  | _ => none
theorem oneT_map (ws : List Str) : (ws.map T.str).filterMap oneT = (ws.map fun w => digB w && decide (w.length = 1)).map T.bl := by
  induction ws with
  | nil => rfl
  | cons w ws ih =>
    show T.bl _ :: (ws.map T.str).filterMap oneT = _
    rw [ih]
    rfl
end Tv

set_option linter.unusedVariables false
namespace Tv
open PySem L2
def lineK (l : Str) : Option Kk := toldW (Txt.split l ⟨#[32]⟩)
def restsI (mid : List Str) : List Int := if mid = [Str.ofString "none"] then [] else mid.map valI
def capI (e : Str) : Option Int := if e = Str.ofString "none" then none else some (valI e)
structure Lines (x h : Str) (ls : List Str) : Prop where
  sp : Txt.split x ⟨#[10]⟩ = h :: ls
  ok : PyData.strOk x = true
  len : x.length ≤ 16000
theorem Lines.at_ {x h : Str} {ls : List Str} (L : Lines x h ls) : ∀ l ∈ h :: ls, PyData.strOk l = true ∧ l.length ≤ 100000 := fun l hl => by
  have := split_mem (x := x) (p := l) (c := 10) (by rw [L.sp]; exact hl)
  exact ⟨this.1 L.ok, by have := L.len; omega⟩
theorem Lines.many {x h : Str} {ls : List Str} (L : Lines x h ls) : ls.length ≤ 16000 := by
  have := split_many (x := x) (c := 10)
  rw [L.sp, List.length_cons] at this
  have := L.len
  omega
/-- the words of the first line -/
structure HeadI (h a b c : Str) (mid : List Str) (d e : Str) : Prop where
  sp : Txt.split h ⟨#[32]⟩ = a :: b :: c :: (mid ++ [d, e])
  ne : mid ≠ []
theorem head_parts {ws : List Str} (h : 6 ≤ ws.length) : ∃ a b c mid d e, ws = a :: b :: c :: (mid ++ [d, e]) ∧ mid ≠ [] := by
  match ws, h with
  | a :: b :: c :: rest, h =>
    simp only [List.length_cons] at h
    have hr : rest ≠ [] := by rintro rfl; simp at h
    have e1 := (List.dropLast_concat_getLast hr).symm
    have hr2 : rest.dropLast ≠ [] := by
      intro z
      have := congrArg List.length z
      rw [List.length_dropLast, List.length_nil] at this
      omega
    have e2 := (List.dropLast_concat_getLast hr2).symm
    refine ⟨a, b, c, rest.dropLast.dropLast, rest.dropLast.getLast hr2, rest.getLast hr, ?_, ?_⟩
    · rw [show rest.dropLast.dropLast ++ [rest.dropLast.getLast hr2, rest.getLast hr] = (rest.dropLast.dropLast ++ [rest.dropLast.getLast hr2]) ++ [rest.getLast hr] by simp, ← e2, ← e1]
    · intro z
      have := congrArg List.length z
      rw [List.length_dropLast, List.length_dropLast, List.length_nil] at this
      omega
def headOk (ws : List Str) : Bool := decide (6 ≤ ws.length) && headB (ws.getD 0 Str.empty) (ws.getD 1 Str.empty) (ws.getD 2 Str.empty) ((ws.drop 3).take (ws.length - 5)) (ws.getD (ws.length - 2) Str.empty) (ws.getD (ws.length - 1) Str.empty)
theorem headOk_parts (a b c : Str) (mid : List Str) (d e : Str) (hm : mid ≠ []) : headOk (a :: b :: c :: (mid ++ [d, e])) = headB a b c mid d e := by
  have hml : 1 ≤ mid.length := by cases mid with | nil => exact absurd rfl hm | cons => simp
  have l : (a :: b :: c :: (mid ++ [d, e])).length = mid.length + 5 := by simp
  unfold headOk
  rw [l, decide_eq_true (show 6 ≤ mid.length + 5 by omega), Bool.true_and]
  have g1 : (a :: b :: c :: (mid ++ [d, e])).getD (mid.length + 5 - 2) Str.empty = d := by
    rw [List.getD_eq_getElem?_getD, show mid.length + 5 - 2 = (a :: b :: c :: mid).length by simp, show a :: b :: c :: (mid ++ [d, e]) = (a :: b :: c :: mid) ++ [d, e] by simp, List.getElem?_append_right (Nat.le_refl _), Nat.sub_self]
    rfl
  have g2 : (a :: b :: c :: (mid ++ [d, e])).getD (mid.length + 5 - 1) Str.empty = e := by
    rw [List.getD_eq_getElem?_getD, show mid.length + 5 - 1 = (a :: b :: c :: (mid ++ [d])).length by simp, show a :: b :: c :: (mid ++ [d, e]) = (a :: b :: c :: (mid ++ [d])) ++ [e] by simp, List.getElem?_append_right (Nat.le_refl _), Nat.sub_self]
    rfl
  rw [g1, g2]
  have g3 : ((a :: b :: c :: (mid ++ [d, e])).drop 3).take (mid.length + 5 - 5) = mid := by
    show (mid ++ [d, e]).take (mid.length + 5 - 5) = mid
    rw [show mid.length + 5 - 5 = mid.length by omega, List.take_append_of_le_length (Nat.le_refl _), List.take_length]
  rw [g3]
  rfl
def firstNone : Nat → List (Option Kk) → Option Nat
  | _, [] => none
  | n, none :: _ => some n
  | n, some _ :: os => firstNone (n + 1) os
theorem firstNone_all : ∀ {n : Nat} {ks : List Kk}, firstNone n (ks.map some) = none
  | _, [] => rfl
  | n, k :: ks => firstNone_all (n := n + 1) (ks := ks)
theorem firstNone_none : ∀ {n : Nat} {os : List (Option Kk)}, firstNone n os = none → ∃ ks : List Kk, os = ks.map some
  | _, [], _ => ⟨[], rfl⟩
  | n, none :: os, h => by cases h
  | n, some k :: os, h => by
    obtain ⟨ks, e⟩ := firstNone_none (n := n + 1) h
    exact ⟨k :: ks, by rw [e]; rfl⟩
end Tv

set_option linter.unusedVariables false
namespace Tv
open PySem L2
theorem headB_facts {a b c d e : Str} {mid : List Str} (h : headB a b c mid d e = true) : digB b = true ∧ (e = Str.ofString "none" ∨ e ≠ Str.ofString "none" ∧ digB e = true) ∧ (mid = [Str.ofString "none"] ∨ mid ≠ [Str.ofString "none"] ∧ ∀ w ∈ mid, digB w = true ∧ w.length = 1) := by
  unfold headB at h
  simp only [Bool.and_eq_true, Bool.or_eq_true, beq_iff_eq] at h
  obtain ⟨_, ⟨h1, h2⟩, h3⟩ := h
  refine ⟨h1, ?_, ?_⟩
  · by_cases z : e = Str.ofString "none"
    · exact .inl z
    · exact .inr ⟨z, h2.resolve_left z⟩
  · by_cases z : mid = [Str.ofString "none"]
    · exact .inl z
    · refine .inr ⟨z, fun w hw => ?_⟩
      have := List.all_eq_true.mp (h3.resolve_left z) w hw
      simp only [Bool.and_eq_true, decide_eq_true_eq] at this
      exact this
theorem none_dig : digB (Str.ofString "none") = false := by decide +kernel
theorem sv_retO {m : ME} {env : Env} {cs c : Cs} {o : Out T} {Q : Fl → Cs → Prop} (h : m env cs = some (o, c)) (q : match o with | .ok t => Q (.rt t) c | .ex k x => Q (.ex k x) c) : SV (sRet m env) cs Q := by
  cases o with
  | ok t => exact ⟨.rt t, c, by unfold sRet M.go; rw [h], q⟩
  | ex k x => exact ⟨.ex k x, c, by unfold sRet M.go; rw [h], q⟩
theorem calL_at {i c nf : Nat} {mi : List T → M T} {tbl : List (Nat × List T)} {a : MA} {env : Env} {cs cs' : Cs} {ts dts : List T} (h0 : env[i]? = some (some (.cls c))) (ha : EV (a env) cs fun us c1 => us = ts ∧ c1 = cs') (hl : tbl.lookup ts.length = some dts) :
    mCalL i c nf mi tbl a env cs = mMake c nf mi (ts ++ dts) cs' := by
  obtain ⟨us, c1, e, rfl, rfl⟩ := ha
  unfold mCalL
  simp only [h0, if_true]
  unfold mCalS M.bind
  rw [e]
  simp only [hl]
def outFl : Out T → Fl → Prop
  | .ok t, fl => fl = .rt t
  | .ex k x, fl => fl = .ex k x
theorem def_out {n nf : Nat} {b : SM} {ts : List T} {cs c : Cs} {o : Out T} (hn : ts.length = n) (h : SV (b (ts.map some ++ List.replicate (nf - ts.length) none)) cs fun fl c' => outFl o fl ∧ c' = c) : mDef n nf b ts cs = some (o, c) := by
  obtain ⟨fl, c', e, h2, rfl⟩ := h
  unfold mDef
  rw [if_pos hn, e]
  cases o with
  | ok t =>
    cases h2
    rfl
  | ex k x =>
    cases h2
    rfl
end Tv

set_option linter.unusedVariables false
namespace Tv
open PySem L2
def Rl.told (r : Rl) : T := .tup [.int r.len, .lst (r.rests.map T.int), mt r.cap, .lst (r.kinds.map Kk.told)]
def range7 : List Int := [0, 1, 2, 3, 4, 5, 6]
theorem ints_of_perm {vs : List T} {ns : List Int} (h : vs.Perm (ns.map T.int)) : ∃ ms : List Int, vs = ms.map T.int ∧ ms.Perm ns := by
  have key : ∀ vs : List T, (∀ v ∈ vs, ∃ x, v = T.int x) → ∃ ms : List Int, vs = ms.map T.int := by
    intro vs
    induction vs with
    | nil => exact fun _ => ⟨[], rfl⟩
    | cons v vs ih =>
      intro hv
      obtain ⟨x, rfl⟩ := hv v (by simp)
      obtain ⟨ms, rfl⟩ := ih fun u hu => hv u (by simp [hu])
      exact ⟨x :: ms, rfl⟩
  obtain ⟨ms, rfl⟩ := key vs fun v hv => by
    obtain ⟨x, _, rfl⟩ := List.mem_map.mp (h.mem_iff.mp hv)
    exact ⟨x, rfl⟩
  refine ⟨ms, rfl, ?_⟩
  have h2 := h.filterMap (fun t => match t with | .int x => some x | _ => none)
  have e : ∀ l : List Int, (l.map T.int).filterMap (fun t => match t with | .int x => some x | _ => none) = l := by
    intro l
    induction l with
    | nil => rfl
    | cons x l ih => rw [List.map_cons, List.filterMap_cons]; simp only [ih]
  rwa [e, e] at h2
def selfT : T → Option T
  | .int i => some (.int i)
  | _ => none
theorem selfT_map (ns : List Int) : (ns.map T.int).filterMap selfT = ns.map T.int := by
  induction ns with
  | nil => rfl
  | cons n ns ih => rw [List.map_cons, List.filterMap_cons]; show T.int n :: _ = _; rw [ih]
theorem restsB_take {ms : List Int} {n : Nat} (h : ms.Perm range7) (hn : n ≤ 4) : restsB (sortI (ms.take n)) = true := by
  rw [restsB_perm (sortI_perm _)]
  unfold restsB
  have h1 : ∀ x ∈ ms.take n, restB x = true := fun x hx => by
    have := h.mem_iff.mp (List.mem_of_mem_take hx)
    unfold range7 at this
    simp only [List.mem_cons, List.not_mem_nil, or_false] at this
    rcases this with rfl | rfl | rfl | rfl | rfl | rfl | rfl <;> decide
  have h2 : (ms.take n).Nodup := (h.nodup_iff.mpr (by decide)).sublist (List.take_sublist _ _)
  have h3 : (ms.take n).length < 7 := by rw [List.length_take]; omega
  rw [List.all_eq_true.mpr h1, decide_eq_true h2, decide_eq_true h3]
  rfl
theorem sortI_idem (ns : List Int) : sortI (sortI ns) = sortI ns := (sortI_uniq (List.Perm.refl _) (sortI_sorted ns)).symm
theorem names_ok {nm : Str} (h : nm ∈ names10) : nameB nm = true := by
  simp only [names10, List.mem_cons, List.not_mem_nil, or_false] at h
  rcases h with rfl | rfl | rfl | rfl | rfl | rfl | rfl | rfl | rfl | rfl <;> decide +kernel
theorem dk_mt (k : Nat) (m : Option Int) : dk k (mt m) = true := by cases m <;> unfold mt dk <;> rfl
theorem dk_told (k : Nat) {q : Kk} (h : q.ok) : dk (k + 1) q.told = true := by
  unfold Kk.told
  unfold dk
  refine dkL_all fun t ht => ?_
  simp only [List.mem_cons, List.not_mem_nil, or_false] at ht
  rcases ht with rfl | rfl | rfl | rfl | rfl
  · unfold dk
    cases q.f <;> exact strOk_of _
  · unfold dk
    exact (nameB_facts h.nm).2.1
  · unfold dk; rfl
  · unfold dk; rfl
  · exact dk_mt _ _
theorem ev_neNilD {ts : List T} {cs : Cs} {Q : T → Cs → Prop} {k : Nat} (h : dkL k ts = true) (hk : k < 60) : EV (neT (.lst ts) (.lst [])) cs Q ↔ Q (.bl (!ts.isEmpty)) cs := by
  rw [ev_neDat (k := k + 1) (l := 1) (by unfold dk; exact h) (by unfold dk dkL; rfl) (by omega) (by decide)]
  have : eqvt (.lst ts) (.lst []) = ts.isEmpty := by
    unfold eqvt
    cases ts with
    | nil => unfold eqvtL; rfl
    | cons t ts => unfold eqvtL; rfl
  rw [this]
def anyT : T → Option T
  | .tup [a, b, c, d, .non] => some (.tup [a, b, c, d, .non])
  | _ => none
theorem anyT_some {q : Kk} {i : Int} (h : q.many = some i) : anyT q.told = none := by
  unfold Kk.told mt
  rw [h]
  rfl
theorem anyT_none {q : Kk} (h : q.many = none) : anyT q.told = some q.told := by
  unfold Kk.told mt
  rw [h]
  rfl
theorem anyT_map {ks : List Kk} (h : ∀ k ∈ ks, k.ok) : dkL 1 ((ks.map Kk.told).filterMap anyT) = true := dkL_all fun t ht => by
  obtain ⟨u, hu, e⟩ := List.mem_filterMap.mp ht
  obtain ⟨k, hk, rfl⟩ := List.mem_map.mp hu
  cases hm : k.many with
  | none => rw [anyT_none hm] at e; cases e; exact dk_told 0 (h k hk)
  | some i => rw [anyT_some hm] at e; cases e
structure DrawnRule (r : Rl) (many most : Int) : Prop where
  ok : r.ok
  len : r.len ≤ most
  few : r.kinds.length ≤ many
  rests : r.rests.length ≤ 4
  cap : ∀ c, r.cap = some c → c ≤ 3 * most
  at_ : ∀ k ∈ r.kinds, k.a ≤ most ∧ k.b ≤ most ∧ (∀ i, k.many = some i → i ≤ 3) ∧ k.nm ∈ names10
theorem capPick {t : T} {d : Int} (h : t ∈ [T.non, .non, .non, .int d]) : ∃ m : Option Int, t = mt m ∧ ∀ i, m = some i → i = d := by
  simp only [List.mem_cons, List.not_mem_nil, or_false] at h
  rcases h with rfl | rfl | rfl | rfl
  · exact ⟨none, rfl, fun i e => by cases e⟩
  · exact ⟨none, rfl, fun i e => by cases e⟩
  · exact ⟨none, rfl, fun i e => by cases e⟩
  · exact ⟨some d, rfl, fun i e => by cases e; rfl⟩
theorem restPick {t : T} (h : t ∈ [T.int 0, .int 0, .int 1, .int 2, .int 2, .int 4]) : ∃ n : Nat, t = .int n ∧ n ≤ 4 := by
  simp only [List.mem_cons, List.not_mem_nil, or_false] at h
  rcases h with rfl | rfl | rfl | rfl | rfl | rfl
  · exact ⟨0, rfl, by decide⟩
  · exact ⟨0, rfl, by decide⟩
  · exact ⟨1, rfl, by decide⟩
  · exact ⟨2, rfl, by decide⟩
  · exact ⟨2, rfl, by decide⟩
  · exact ⟨4, rfl, by decide⟩
def ruleTail : SM :=
  (bCons (sIf (mAndT (mTst (mOp isntT (mVar 5) (mC T.non))) (mTst (mOp neT (mLc [4] (mIt (mVar 8)) (gSet 4) (mTst (mOp isT (mOp ixT (mVar 4) (mC (T.int 4))) (mC T.non))) (mVar 4)) (mLst aNil)))) (sSet 5 (mCall minC (aCons (mCall intC (aCons (mVar 5) aNil)) (aCons (mOp addT (mVar 7) (mC (T.int 200))) aNil)))) bNil)
    (sRet (mTup (aCons (mVar 7) (aCons (mVar 3) (aCons (mVar 5) (aCons (mVar 8) aNil)))))))
theorem rule_tail {x0 x1 x2 x4 x6 x9 : Option T} {cs : Cs} {size : Int} {rs : List Int} {cap : Option Int} {ks : List Kk} {Q : Fl → Cs → Prop} (hk : ∀ k ∈ ks, k.ok) (hf : ks.length ≤ 10)
    (q : ∀ cap2 : Option Int, (∀ c, cap2 = some c → cap = some c ∨ (cap.isSome ∧ c = size + 200)) → (∀ c, cap2 = some c → ∃ d, cap = some d ∧ c ≤ d) → Q (.rt (Rl.told ⟨size, rs, cap2, ks⟩)) cs) :
    SV (ruleTail [x0, x1, x2, some (.lst (rs.map T.int)), x4, some (mt cap), x6, some (.int size), some (.lst (ks.map Kk.told)), x9]) cs Q := by
  unfold ruleTail
  have hz : sizeLine = 16777216 := rfl
  cases cap with
  | none =>
    simp only [mt]
    fail "sy"
    refine ⟨by decide, ?_⟩
    exact q none (fun c e => by cases e) fun c e => by cases e
  | some c =>
    simp only [mt]
    fail "sy"
    refine lv_pure anyT rfl ?_ ?_
    · intro t ht
      obtain ⟨k, hk, rfl⟩ := List.mem_map.mp ht
      refine ⟨_, rfl, ?_⟩
      cases hm : k.many with
      | none =>
        rw [anyT_none hm]
        unfold Kk.told
        rw [hm]
        simp only [mt]
        fail "sy"
      | some i =>
        rw [anyT_some hm]
        unfold Kk.told
        rw [hm]
        simp only [mt]
        fail "sy"
    · have hl := List.length_filterMap_le anyT (ks.map Kk.told)
      rw [List.length_map] at hl
      refine ⟨by omega, ?_⟩
      fail "sy"
      refine ⟨by decide, ?_⟩
      rw [ev_neNilD (anyT_map hk) (by decide)]
      cases hb : ((ks.map Kk.told).filterMap anyT).isEmpty with
      | true =>
        fail "sy"
        refine ⟨by decide, ?_⟩
        exact q (some c) (fun d e => .inl e) fun d e => ⟨c, rfl, by cases e; exact Int.le_refl _⟩
      | false =>
        fail "sy"
        refine ⟨by decide, ?_⟩
        by_cases hc : size + 200 < c
        · rw [if_pos hc]
          exact q (some (size + 200)) (fun d e => .inr ⟨rfl, by cases e; rfl⟩) fun d e => ⟨c, rfl, by cases e; omega⟩
        · rw [if_neg hc]
          exact q (some c) (fun d e => .inl e) fun d e => ⟨c, rfl, by cases e; exact Int.le_refl _⟩
set_option maxHeartbeats 4000000 in
theorem e_l_rule {D L : Nat} {cs : Cs} {many most : Int} (hd : Deal D L cs) (m0 : 0 ≤ many) (m1 : many ≤ 9) (h0 : 1 ≤ most) (h1 : most ≤ 10 ^ 18) : CV m_l_rule [.own D, .int many, .int most] cs fun t cs' => ∃ r : Rl, t = r.told ∧ DrawnRule r many most ∧ Wnt D L cs cs' := by
  refine cv_def rfl ?_
  show SV (b_l_rule [some (.own D), some (.int many), some (.int most), none, none, none, none, none, none, none]) cs _
  unfold b_l_rule
  have hz : sizeLine = 16777216 := rfl
  have h3 : (10 : Int) ^ 18 = 1000000000000000000 := by decide
  have h4 : (10 : Int) ^ 19 = 10000000000000000000 := by decide
  fail "sy"
  refine (e_mixed (us := range7.map T.int) hd rfl (by decide +kernel) (by decide +kernel)).mono ?_
  rintro t cs1 ⟨vs, rfl, pm, w1⟩
  obtain ⟨ms, rfl, pm2⟩ := ints_of_perm pm
  have hms : ms.length = 7 := pm2.length_eq
  fail "sy"
  refine ⟨by decide, ?_⟩
  refine (e_pick w1.d (by simp) (by simp)).mono ?_
  rintro t cs2 ⟨hn0, w2⟩
  obtain ⟨n, rfl, hn⟩ := restPick hn0
  fail "sy"
  rw [ev_slL, cut_take (by omega) (by rw [List.length_map]; omega), ← List.map_take, Int.toNat_natCast]
  fail "sy"
  refine lv_pure selfT rfl ?_ ?_
  · intro t ht
    obtain ⟨i, hi, rfl⟩ := List.mem_map.mp ht
    refine ⟨_, rfl, ?_⟩
    fail "sy"
    rfl
  rw [selfT_map]
  refine ⟨by rw [List.length_map, List.length_take, hz]; omega, ?_⟩
  fail "sy"
  rw [ev_sorted rfl]
  have hrs := restsB_take pm2 hn
  have hso := sortI_idem (ms.take n)
  have hrl : (sortI (ms.take n)).length ≤ 4 := by rw [(sortI_perm _).length_eq, List.length_take]; omega
  generalize sortI (ms.take n) = rs at hrs hso hrl ⊢
  have w12 := w1.trans w2
  have ht : ∀ {env : Env}, ruleTail env = ruleTail env := rfl
  fail "sy"
  refine (e_draw w12.d (by omega) (by omega)).mono ?_
  rintro t cs3 ⟨d, rfl, d0, d1, w3⟩
  fail "sy"
  refine ⟨by decide, ?_⟩
  refine (e_pick (w12.trans w3).d (by simp) (by simp)).mono ?_
  rintro t cs4 ⟨hc, w4⟩
  obtain ⟨cap, rfl, hcap⟩ := capPick hc
  have w14 := (w12.trans w3).trans w4
  fail "sy"
  refine (e_draw w14.d (by omega) (by omega)).mono ?_
  rintro t cs5 ⟨m, rfl, mm0, mm1, w5⟩
  fail "sy"
  refine (e_names (w14.trans w5).d (by omega) (by omega)).mono ?_
  rintro t cs6 ⟨nms, rfl, nl, nnd, nat, w6⟩
  have w16 := (w14.trans w5).trans w6
  fail "sy"
  refine (e_draw w16.d (by omega) (by omega)).mono ?_
  rintro t cs7 ⟨siz, rfl, s0, s1, w7⟩
  have w17 := w16.trans w7
  fail "sy"
  refine lv_step0 (fun acc rest c => Wnt D L cs c ∧ ∃ don : List Kk, acc = don.map Kk.told ∧ nms = don.map Kk.nm ++ rest ∧ ∀ k ∈ don, k.ok ∧ k.a ≤ most ∧ k.b ≤ most ∧ (∀ i, k.many = some i → i ≤ 3)) T.str ⟨w17, [], rfl, rfl, fun k hk => by cases hk⟩ (fun _ _ _ _ => rfl) ?_ ?_
  · rintro x acc rest c ⟨w, don, rfl, e, hdon⟩
    refine ⟨_, rfl, ?_⟩
    fail "sy"
    refine (e_kind w.d (names_ok (nat x (by rw [e]; simp))) h0 h1).mono ?_
    rintro t c2 ⟨k, rfl, hk, hkn, hab, hmm, w8⟩
    refine ⟨w.trans w8, don ++ [k], by simp, by rw [e]; simp [hkn], fun k2 hk2 => ?_⟩
    rcases List.mem_append.mp hk2 with hk2 | hk2
    · exact hdon k2 hk2
    · rw [List.mem_singleton.mp hk2]
      exact ⟨hk, hab.1, hab.2, hmm⟩
  · rintro us c ⟨w, ks, rfl, e, hks⟩
    rw [List.append_nil] at e
    have kl : ks.length = m.toNat := by rw [← nl, e, List.length_map]
    refine ⟨by rw [List.length_map, hz]; omega, ?_⟩
    refine rule_tail (fun k hk => (hks k hk).1) (by omega) ?_
    intro cap2 hc1 hc2
    refine ⟨⟨1 + siz, rs, cap2, ks⟩, rfl, ⟨⟨?_, ?_, hrs, hso, ?_, fun k hk => (hks k hk).1, by rw [← e]; exact nnd, ?_⟩, ?_, ?_, hrl, ?_, fun k hk => ?_⟩, w⟩
    · show 1 ≤ 1 + siz
      omega
    · show 1 + siz < 10 ^ 19
      omega
    · intro c' hc'
      rcases hc1 c' hc' with h | ⟨_, h⟩
      · have := hcap c' h
        omega
      · omega
    · show ks.length ≤ 100
      omega
    · show 1 + siz ≤ most
      omega
    · show (ks.length : Int) ≤ many
      omega
    · intro c' hc'
      obtain ⟨d', h1', h2'⟩ := hc2 c' hc'
      have := hcap d' h1'
      omega
    · have := hks k hk
      exact ⟨this.2.1, this.2.2.1, this.2.2.2, nat _ (by rw [e]; exact List.mem_map_of_mem hk)⟩
end Tv

set_option linter.unusedVariables false
namespace Tv
open PySem L2
theorem ev_eqNilD {ts : List T} {cs : Cs} {Q : T → Cs → Prop} {k : Nat} (h : dkL k ts = true) (hk : k < 60) : EV (eqT (.lst ts) (.lst [])) cs Q ↔ Q (.bl ts.isEmpty) cs := by
  rw [ev_eqDat (k := k + 1) (l := 1) (by unfold dk; exact h) (by unfold dk dkL; rfl) (by omega) (by decide)]
  have : eqvt (.lst ts) (.lst []) = ts.isEmpty := by
    unfold eqvt
    cases ts with
    | nil => unfold eqvtL; rfl
    | cons t ts => unfold eqvtL; rfl
  rw [this]
def itemsV : T → List T
  | .lst ts => ts
  | .tup ts => ts
  | _ => []
def dueV (t : T) : T := if seqV t = true then (match wrongAt 0 (itemsV t) with
  | some n => .int n
  | none => .non) else .int 0
theorem xv_make {c nf d : Nat} {x : Option T} {mi : List T → M T} {ts : List T} {cs cs' : Cs} (h : XV (mi (.own cs.length :: ts)) (cs ++ [.obj c []]) d x cs') : XV (mMake c nf mi ts) cs d x cs' := by
  show mMake c nf mi ts cs = _
  unfold mMake
  rw [show mi (.own cs.length :: ts) (cs ++ [.obj c []]) = some (.ex d x, cs') from h]
theorem any_seq {k : Nat} {t : T} {cs : Cs} (h : AnyV k t) (hs : seqV t = true) : SqA cs t (itemsV t) ∧ ∀ u ∈ itemsV t, AnyV (k - 1) u := by
  cases h with
  | lst ts hl ha => exact ⟨.lst, ha⟩
  | tup ts hl ha => exact ⟨.tup, ha⟩
  | _ => cases hs
theorem e_l_heard {k : Nat} {t : T} {cs : Cs} (h : AnyV k t) : CV m_l_heard [t] cs fun u cs' => u = dueV t ∧ ∃ l, cs' = cs ++ l := by
  refine cv_def rfl ?_
  show SV (b_l_heard [some t, none, none]) cs _
  unfold b_l_heard dueV
  fail "sz"
  refine sv_try1 ?_
  cases hs : seqV t with
  | false =>
    refine sv_exprX (xv_cal (cs1 := cs) rfl (xv_make (e_Unsure_initN h hs))) ?_
    refine ⟨_, rfl, rfl, ?_⟩
    show EV (xPure xPay _) _ _
    rw [ev_pure]
    refine ⟨_, rfl, ?_⟩
    fail "sz"
    exact ⟨_, rfl⟩
  | true =>
    obtain ⟨hq, ha⟩ := any_seq (cs := cs) h hs
    rw [if_pos rfl]
    cases hw : wrongAt 0 (itemsV t) with
    | some n =>
      refine sv_exprX (xv_cal (cs1 := cs) rfl (xv_make (e_Unsure_initX hq.app ha hw))) ?_
      refine ⟨_, rfl, rfl, ?_⟩
      show EV (xPure xPay _) _ _
      rw [ev_pure]
      refine ⟨_, rfl, ?_⟩
      fail "sz"
      exact ⟨_, rfl⟩
    | none =>
      fail "sz"
      refine cv_Unsure hq ha hw ?_
      fail "sz"
      exact ⟨_, rfl⟩
/-! ### the law's own look -/
def geV (low : Int) : T → Bool
  | .int i => decide (low ≤ i)
  | _ => false
theorem e_l_is_day {k : Nat} {t : T} {low : Int} {cs : Cs} (h : AnyV k t) : CV m_l_is_day [t, .int low] cs fun u cs' => u = .bl (geV low t) ∧ cs' = cs := by
  refine cv_def rfl ?_
  show SV (b_l_is_day [some t, some (.int low)]) cs _
  unfold b_l_is_day
  cases h <;> (fail "sz" <;> rfl)
theorem day0 {t : T} : geV 0 t = numV t := by cases t <;> rfl
theorem day1 {t : T} : geV 1 t = cntV t := by cases t <;> rfl
def offT (t : T) : Option T := match t with
  | .str y => match sign? y with
    | some c => if c ∈ letters.cps.toList then none else some (.str y)
    | none => none
  | _ => none
theorem off_map (cs : List Nat) : (cs.map fun c => T.str ⟨#[c]⟩).filterMap offT = (cs.filter fun c => !decide (97 ≤ c ∧ c ≤ 122)).map fun c => T.str ⟨#[c]⟩ := by
  induction cs with
  | nil => rfl
  | cons c cs ih =>
    rw [List.map_cons, List.filterMap_cons, List.filter_cons, show offT (.str ⟨#[c]⟩) = if c ∈ letters.cps.toList then none else some (.str ⟨#[c]⟩) from rfl, ih]
    have := letters_mem c
    by_cases h : c ∈ letters.cps.toList
    · rw [decide_eq_true h] at this
      rw [if_pos h, ← this]
      rfl
    · rw [decide_eq_false h] at this
      rw [if_neg h, ← this]
      rfl
theorem off_none (cs : List Nat) : ((cs.filter fun c => !decide (97 ≤ c ∧ c ≤ 122)).map fun c => T.str ⟨#[c]⟩).isEmpty = cs.all fun c => decide (97 ≤ c ∧ c ≤ 122) := by
  induction cs with
  | nil => rfl
  | cons c cs ih =>
    rw [List.filter_cons, List.all_cons, ← ih]
    cases decide (97 ≤ c ∧ c ≤ 122) <;> rfl
theorem signs_flat (cs : List Nat) : (cs.map fun c => T.str ⟨#[c]⟩).all flatOk = true → True := fun _ => trivial
theorem e_l_is_title {k : Nat} {t : T} {cs : Cs} (h : AnyV k t) : CV m_l_is_title [t] cs fun u cs' => u = .bl (nameV t) ∧ cs' = cs := by
  have hz : sizeLine = 16777216 := rfl
  refine cv_def rfl ?_
  show SV (b_l_is_title [some t, none]) cs _
  unfold b_l_is_title
  cases h with
  | str x ho hl =>
    fail "sz"
    rw [show [T.str (Str.ofString "any"), T.str (Str.ofString "none"), T.str (Str.ofString "anew"), T.str (Str.ofString "lift"), T.str (Str.ofString "term")] = (["any", "none", "anew", "lift", "term"] : List Str).map T.str from rfl, ev_inStrs]
    fail "sz"
    have hN : nameV (.str x) = (!decide (x ∈ (["any", "none", "anew", "lift", "term"] : List Str)) && (decide (1 ≤ x.length) && decide (x.length ≤ 4) && x.cps.toList.all fun c => decide (97 ≤ c ∧ c ≤ 122))) := rfl
    by_cases hn : x ∈ (["any", "none", "anew", "lift", "term"] : List Str)
    · rw [decide_eq_true hn]
      fail "sz"
      rw [hN, decide_eq_true hn]
      rfl
    · rw [decide_eq_false hn]
      fail "sz"
      rw [ev_lenS (by omega)]
      fail "sz"
      have c1 : decide ((0 : Int) < ((x.length : Nat) : Int)) = decide (1 ≤ x.length) := decide_eq_decide.mpr (by omega)
      have c4 : decide (((x.length : Nat) : Int) < 5) = decide (x.length ≤ 4) := decide_eq_decide.mpr (by omega)
      rw [c1]
      by_cases h1 : 1 ≤ x.length
      · rw [decide_eq_true h1]
        fail "sz"
        rw [c4]
        by_cases h4 : x.length ≤ 4
        · rw [decide_eq_true h4]
          fail "sz"
          refine ⟨_, rfl, ?_⟩
          refine lv_pure offT rfl ?_ ?_
          · intro t ht
            obtain ⟨c, hc, rfl⟩ := List.mem_map.mp ht
            refine ⟨[some (.str x), some (.str ⟨#[c]⟩)], rfl, ?_⟩
            fail "sz"
            rw [show Str.ofString "abcdefghijklmnopqrstuvwxyz" = letters from rfl, ev_ninSign]
            rw [show offT (.str ⟨#[c]⟩) = if c ∈ letters.cps.toList then none else some (.str ⟨#[c]⟩) from rfl]
            by_cases hm : c ∈ letters.cps.toList
            · rw [decide_eq_true hm, if_pos hm]
              fail "sz"
            · rw [decide_eq_false hm, if_neg hm]
              fail "sz"
          rw [show (fr (x.cps.toList.map fun c => T.str ⟨#[c]⟩)).1 = x.cps.toList.map fun c => T.str ⟨#[c]⟩ from rfl, off_map]
          have hx := num_len' x
          have hf := List.length_filter_le (fun c => !decide (97 ≤ c ∧ c ≤ 122)) x.cps.toList
          refine ⟨by rw [List.length_map]; omega, ?_⟩
          fail "sz"
          rw [ev_eqNilD (k := 0), off_none]
          · fail "sz"
            rw [hN, decide_eq_false hn, decide_eq_true h1, decide_eq_true h4]
            rfl
          · refine dkL_all fun t ht => ?_
            obtain ⟨c, hc, rfl⟩ := List.mem_map.mp ht
            unfold dk
            exact strOk_all.mpr fun d hd => by
              rw [List.mem_singleton.mp hd]
              exact strOk_all.mp ho c ((List.mem_filter.mp hc).1)
          · decide
        · rw [decide_eq_false h4]
          fail "sz"
          rw [hN, decide_eq_false h4, Bool.and_false, Bool.false_and, Bool.and_false]
      · rw [decide_eq_false h1]
        fail "sz"
        rw [hN, decide_eq_false h1, Bool.false_and, Bool.false_and, Bool.and_false]
  | _ => fail "sz" <;> rfl
end Tv

set_option linter.unusedVariables false
namespace Tv
open PySem L2
theorem e_l_is_one {k : Nat} {t : T} {cs : Cs} (h : AnyV k t) : CV m_l_is_one [t] cs fun u cs' => u = .bl (unsB t) ∧ cs' = cs := by
  refine cv_def rfl ?_
  show SV (b_l_is_one [some t]) cs _
  unfold b_l_is_one
  cases h with
  | tup ts hl ha =>
    fail "sz"
    by_cases h4 : ts.length = 4
    · obtain ⟨a, b, c, d, rfl⟩ := four h4
      have A := ha a (by simp)
      have Bb := ha b (by simp)
      have C := ha c (by simp)
      have Dd := ha d (by simp)
      have hU : unsB (.tup [a, b, c, d]) = (numV a && (numV b && (leV a b && (nameV c && cntV d)))) := rfl
      have i0 : atI [a, b, c, d] 0 = some a := rfl
      have i1 : atI [a, b, c, d] 1 = some b := rfl
      have i2 : atI [a, b, c, d] 2 = some c := rfl
      have i3 : atI [a, b, c, d] 3 = some d := rfl
      fail "sz"
      rw [show (!decide (((4 : Nat) : Int) = 4)) = false from rfl]
      fail "sz"
      refine (e_l_is_title C).mono ?_
      rintro u cs1 ⟨rfl, rfl⟩
      fail "sz"
      cases e4 : nameV c with
      | false =>
        fail "sz"
        rw [hU, e4, Bool.false_and, Bool.and_false, Bool.and_false, Bool.and_false]
      | true =>
        fail "sz"
        refine (e_l_is_day Dd).mono ?_
        rintro u cs1 ⟨rfl, rfl⟩
        rw [day1]
        fail "sz"
        cases e5 : cntV d with
        | false =>
          fail "sz"
          rw [hU, e5, Bool.and_false, Bool.and_false, Bool.and_false, Bool.and_false]
        | true =>
          fail "sz"
          refine (e_l_is_day A).mono ?_
          rintro u cs1 ⟨rfl, rfl⟩
          rw [day0]
          fail "sz"
          cases e1 : numV a with
          | false =>
            fail "sz"
            rw [hU, e1]
            rfl
          | true =>
            fail "sz"
            refine (e_l_is_day Bb).mono ?_
            rintro u cs1 ⟨rfl, rfl⟩
            rw [day0]
            fail "sz"
            cases e2 : numV b with
            | false =>
              fail "sz"
              rw [hU, e1, e2]
              rfl
            | true =>
              obtain ⟨i, rfl, _⟩ := numV_int e1
              obtain ⟨j, rfl, _⟩ := numV_int e2
              fail "sz"
              rw [hU, e1, e2, e4, e5]
              unfold leV
              simp
    · rw [unsB_len h4, decide_eq_false (show ¬ ((ts.length : Int) = 4) by omega)]
      fail "sz"
  | _ => fail "sz" <;> rfl
def wrongs : Nat → List T → List Nat
  | _, [] => []
  | n, t :: ts => if unsB t = true then wrongs (n + 1) ts else n :: wrongs (n + 1) ts
def spotT : T → Option T
  | .tup [.int n, u] => if unsB u = true then none else some (.int n)
  | _ => none
theorem spot_map : ∀ (n : Nat) (ts : List T), (enumFrom n ts).filterMap spotT = (wrongs n ts).map fun (n : Nat) => T.int (n : Int)
  | _, [] => rfl
  | n, t :: ts => by
    rw [enumFrom, List.filterMap_cons, show spotT (.tup [.int (n : Int), t]) = if unsB t = true then none else some (.int (n : Int)) from rfl, wrongs, spot_map (n + 1) ts]
    by_cases h : unsB t = true
    · rw [if_pos h, if_pos h]
    · rw [if_neg h, if_neg h]
      rfl
theorem wrongs_head : ∀ (n : Nat) (ts : List T), (wrongs n ts).head? = wrongAt n ts
  | _, [] => rfl
  | n, t :: ts => by
    rw [wrongs, wrongAt]
    split
    · exact wrongs_head (n + 1) ts
    · rfl
theorem wrongs_len : ∀ (n : Nat) (ts : List T), (wrongs n ts).length ≤ ts.length
  | _, [] => Nat.le_refl _
  | n, t :: ts => by
    rw [wrongs]
    have := wrongs_len (n + 1) ts
    split <;> simp only [List.length_cons] <;> omega
theorem e_l_due {k : Nat} {t : T} {cs : Cs} (h : AnyV k t) : CV m_l_due [t] cs fun u cs' => u = dueV t ∧ cs' = cs := by
  have hz : sizeLine = 16777216 := rfl
  refine cv_def rfl ?_
  show SV (b_l_due [some t, none, none, none]) cs _
  unfold b_l_due
  have rest : ∀ (us : List T) (t : T), seqV t = true → itemsV t = us → us.length ≤ 100 → (∃ p, seqT cs t = some (us, p) ∧ p cs = true) → (∀ u ∈ us, AnyV (k - 1) u) → SV (bCons (sSet 1 (mLc [2, 3] (mEnum (aCons (mVar 0) aNil)) (gTupT 2 (gConsT (gSet 2) (gConsT (gSet 3) gNilC))) (mNotT (mTru (mCal m_l_is_one [] (aCons (mVar 3) aNil)))) (mVar 2)))
  (sRet (mIfE (mTst (mOp neT (mVar 1) (mLst aNil))) (mOp ixT (mVar 1) (mC (.int 0))) (mC .non))) [some t, none, none, none]) cs fun fl cs' => match fl with
      | .nx e => T.non = dueV t ∧ cs' = cs
      | .rt u => u = dueV t ∧ cs' = cs
      | _ => False := by
    rintro us t hs hi hl ⟨p, e1, e2⟩ ha
    fail "sz"
    refine ⟨_, e1, ?_⟩
    refine lv_pure spotT e2 ?_ ?_
    · intro u hu
      obtain ⟨n, w, rfl, hw⟩ : ∃ (n : Nat) (w : T), u = .tup [.int (n : Int), w] ∧ w ∈ us := by
        have key : ∀ (n : Nat) (us : List T), u ∈ enumFrom n us → ∃ (n : Nat) (w : T), u = .tup [.int (n : Int), w] ∧ w ∈ us := by
          intro n us
          induction us generalizing n with
          | nil => intro h; cases h
          | cons w ws ih =>
            intro h
            rw [enumFrom] at h
            rcases List.mem_cons.mp h with rfl | h
            · exact ⟨n, w, rfl, by simp⟩
            · obtain ⟨m, v, e, hv⟩ := ih (n + 1) h
              exact ⟨m, v, e, by simp [hv]⟩
        exact key 0 us hu
      refine ⟨_, rfl, ?_⟩
      fail "sz"
      refine (e_l_is_one (ha w hw)).mono ?_
      rintro x cs1 ⟨rfl, rfl⟩
      rw [show spotT (.tup [.int (n : Int), w]) = if unsB w = true then none else some (.int (n : Int)) from rfl]
      fail "sz"
      cases unsB w with
      | true => fail "sz"
      | false => fail "sz"
    · rw [spot_map]
      have wl := wrongs_len 0 us
      have wl2 : (wrongs 0 us).length ≤ sizeLine := by omega
      refine ⟨by rw [List.length_map]; exact wl2, ?_⟩
      fail "sz"
      rw [ev_neNilD (k := 0) (dkL_all fun u hu => by (obtain ⟨n, _, rfl⟩ := List.mem_map.mp hu; unfold dk; rfl)) (by decide)]
      have hh := wrongs_head 0 us
      unfold dueV
      rw [if_pos hs, hi, ← hh]
      cases wrongs 0 us with
      | nil => fail "sz"; rfl
      | cons n ns => fail "sz"; exact rfl
  cases h with
  | lst us hl ha =>
    have := rest us (.lst us) rfl rfl hl ⟨_, rfl, rfl⟩ ha
    generalize (bCons (sSet 1 (mLc [2, 3] (mEnum (aCons (mVar 0) aNil)) (gTupT 2 (gConsT (gSet 2) (gConsT (gSet 3) gNilC))) (mNotT (mTru (mCal m_l_is_one [] (aCons (mVar 3) aNil)))) (mVar 2))) (sRet (mIfE (mTst (mOp neT (mVar 1) (mLst aNil))) (mOp ixT (mVar 1) (mC (.int 0))) (mC .non)))) = M at this ⊢
    fail "sz"
    exact this
  | tup us hl ha =>
    have := rest us (.tup us) rfl rfl hl ⟨_, rfl, rfl⟩ ha
    generalize (bCons (sSet 1 (mLc [2, 3] (mEnum (aCons (mVar 0) aNil)) (gTupT 2 (gConsT (gSet 2) (gConsT (gSet 3) gNilC))) (mNotT (mTru (mCal m_l_is_one [] (aCons (mVar 3) aNil)))) (mVar 2))) (sRet (mIfE (mTst (mOp neT (mVar 1) (mLst aNil))) (mOp ixT (mVar 1) (mC (.int 0))) (mC .non)))) = M at this ⊢
    fail "sz"
    exact this
  | _ => fail "sz" <;> rfl
end Tv

set_option linter.unusedVariables false
namespace Tv
open PySem L2
/-! ### unsure occasions drawn -/
structure Un where
  lo : Int
  hi : Int
  nm : Str
  d : Int
def Un.t (u : Un) : T := .tup [.int u.lo, .int u.hi, .str u.nm, .int u.d]
structure Un.ok (u : Un) : Prop where
  l0 : 0 ≤ u.lo
  lh : u.lo ≤ u.hi
  h1 : u.hi ≤ 1000000
  nm : nameB u.nm = true
  d0 : 1 ≤ u.d
  d1 : u.d ≤ 5
theorem Un.ok.any {u : Un} (h : u.ok) : AnyV 1 u.t := by
  obtain ⟨n1, n2, _, _⟩ := nameB_facts h.nm
  refine .tup _ (by simp) fun t ht => ?_
  have a := h.l0
  have b := h.lh
  have c := h.h1
  have d := h.d0
  have e := h.d1
  simp only [List.mem_cons, List.not_mem_nil, or_false] at ht
  rcases ht with rfl | rfl | rfl | rfl
  · exact .int _ (by omega) (by omega)
  · exact .int _ (by omega) (by omega)
  · exact .str _ n2 (by omega)
  · exact .int _ (by omega) (by omega)
theorem Un.ok.uns {u : Un} (h : u.ok) : unsB u.t = true := by
  show (decide (0 ≤ u.lo) && (decide (0 ≤ u.hi) && (decide (u.lo ≤ u.hi) && (nameB u.nm && decide (1 ≤ u.d))))) = true
  rw [decide_eq_true h.l0, decide_eq_true h.lh, h.nm, decide_eq_true h.d0, decide_eq_true (Int.le_trans h.l0 h.lh)]
  rfl
theorem Wnt.setN {D L f : Nat} {cs c : Cs} {x : Cell} (h : Wnt D L cs c) (hf : cs.length = f) (nD : D ≠ f) (nL : L ≠ f) : Wnt D L cs (c.set f x) := ⟨h.d.set (Ne.symm nD) (Ne.symm nL), ⟨fun k y e n1 n2 => get_ne (h.k.kp k y e n1 n2) (by have := get_lt e; omega)⟩⟩
structure UnI (D L f : Nat) (cs : Cs) (told : T) (ws : List Str) (m : Int) (ts : List T) (env : Env) (c : Cs) : Prop where
  ex : ∃ (us : List Un) (z9 : Int) (y7 y8 y9 y10 : Option T) (n : Nat), env = [some (.own D), some told, some (.int 5), some (.int m), some (.lst (ws.map T.str)), some (.own f), some (.int z9), y7, y8, y9, y10] ∧ Wnt D L cs c ∧ c[f]? = some (.lst (us.map Un.t)) ∧ 1 ≤ z9 ∧ z9 < 65 ∧ us.length + ts.length ≤ 5 ∧ ∀ u ∈ us, u.ok
def nmsT : T → Option T
  | .tup (_ :: n :: _) => some n
  | _ => none
theorem nms_map (ks : List Kk) : (ks.map Kk.told).filterMap nmsT = (ks.map Kk.nm).map T.str := by
  induction ks with
  | nil => rfl
  | cons k ks ih => rw [List.map_cons, List.filterMap_cons, ih]; rfl
set_option maxHeartbeats 4000000 in
theorem e_l_unsure {D L : Nat} {cs : Cs} {r : Rl} {many : Int} (hd : Deal D L cs) (hr : DrawnRule r many 9) (hmany : many ≤ 9) : CV m_l_unsure [.own D, r.told, .int 5, .int 30] cs fun t cs' => ∃ us : List Un, t = .lst (us.map Un.t) ∧ us.length ≤ 5 ∧ (∀ u ∈ us, u.ok) ∧ Wnt D L cs cs' := by
  refine cv_def rfl ?_
  have hz : sizeLine = 16777216 := rfl
  have few := hr.few
  have hs : r.told = .tup [.int r.len, .lst (r.rests.map T.int), mt r.cap, .lst (r.kinds.map Kk.told)] := rfl
  show SV (b_l_unsure [some (.own D), some r.told, some (.int 5), some (.int 30), none, none, none, none, none, none, none]) cs _
  unfold b_l_unsure
  generalize htold : r.told = told at hs ⊢
  fail "sz"
  rw [hs]
  fail "sz"
  refine lv_pure nmsT rfl ?_ ?_
  · intro t ht
    obtain ⟨k, hk, rfl⟩ := List.mem_map.mp ht
    refine ⟨_, rfl, ?_⟩
    unfold Kk.told
    fail "sz"
    rfl
  · rw [nms_map]
    refine ⟨by simp only [List.length_map]; omega, ?_⟩
    fail "sz"
    rw [ev_addL (by simp only [List.length_map, List.length_cons, List.length_nil]; omega)]
    fail "sz"
    have hws : (r.kinds.map Kk.nm).map T.str ++ [T.str (Str.ofString "qq")] = (r.kinds.map Kk.nm ++ [Str.ofString "qq"]).map T.str := by rw [List.map_append]; rfl
    have hwn : ∀ w ∈ r.kinds.map Kk.nm ++ [Str.ofString "qq"], nameB w = true := by
      intro w hw
      rcases List.mem_append.mp hw with hw | hw
      · obtain ⟨k, hk, rfl⟩ := List.mem_map.mp hw
        exact (hr.ok.ks k hk).nm
      · rw [List.mem_singleton.mp hw]
        decide +kernel
    have hwl : (r.kinds.map Kk.nm ++ [Str.ofString "qq"]).length ≤ 10 := by simp only [List.length_append, List.length_map, List.length_cons, List.length_nil]; omega
    have hw0 : r.kinds.map Kk.nm ++ [Str.ofString "qq"] ≠ [] := by simp
    rw [hws]
    generalize r.kinds.map Kk.nm ++ [Str.ofString "qq"] = ws at hwn hwl hw0 ⊢
    have gf : (cs ++ [Cell.lst []])[cs.length]? = some (.lst []) := get_last
    have w0 : Wnt D L cs (cs ++ [Cell.lst []]) := (Wnt.refl hd).app
    have nD : D ≠ cs.length := by have := hd.ltD; omega
    have nL : L ≠ cs.length := by have := hd.ltL; omega
    generalize cs ++ [Cell.lst []] = cs0 at gf w0 ⊢
    generalize hfl : cs.length = f at gf nD nL ⊢
    fail "sz"
    refine (e_draw w0.d (by decide) (by decide)).mono ?_
    rintro t cs1 ⟨n, rfl, n0, n1, w1⟩
    have gf1 := w1.k.kp f _ gf (Ne.symm nD) (Ne.symm nL)
    have w01 := w0.trans w1
    fail "sz"
    refine ⟨by omega, by omega, ?_⟩
    refine for_inv (UnI D L f cs _ ws 30) (fun _ _ _ _ => rfl) ?_ ?_ _ _ _ ⟨[], 1, none, none, none, none, 0, rfl, w01, gf1, by decide, by decide, by simp only [List.length_map, List.length_range, List.length_nil]; omega, fun u hu => by cases hu⟩
    · rintro t ts env c ⟨us, z, y7, y8, y9, y10, m, rfl, w, gc, z0, z1, hl, hu⟩
      refine ⟨_, rfl, ?_⟩
      fail "sz"
      refine (e_draw w.d (by decide) (by decide)).mono ?_
      rintro t cs2 ⟨a, rfl, a0, a1, w2⟩
      fail "sz"
      refine (e_draw w2.d (by decide) (by decide)).mono ?_
      rintro t cs3 ⟨lo, rfl, lo0, lo1, w3⟩
      fail "sz"
      have body : ∀ (wd z2 : Int) (y9 : Option T), 1 ≤ wd → wd ≤ 4 → 1 ≤ z2 → z2 < 65 → SV (sExpr (mBm BT.lst appendM (mVar 5) (aCons (mTup (aCons (mVar 10) (aCons (mOp subT (mOp addT (mVar 10) (mVar 9)) (mC (T.int 1))) (aCons (mCal m_l_pick [] (aCons (mVar 0) (aCons (mVar 4) aNil))) (aCons (mOp addT (mC (T.int 1)) (mCal m_l_draw [] (aCons (mVar 0) (aCons (mC (T.int 5)) aNil)))) aNil))))) aNil))
          [some (T.own D), some (T.tup [T.int r.len, T.lst (List.map T.int r.rests), mt r.cap, T.lst (List.map Kk.told r.kinds)]), some (T.int 5), some (T.int 30), some (T.lst (List.map T.str ws)), some (T.own f), some (T.int z2), y7, some t, some (T.int wd), some (T.int lo)]) cs3 fun fl c' => match fl with
            | .nx e => UnI D L f cs (T.tup [T.int r.len, T.lst (List.map T.int r.rests), mt r.cap, T.lst (List.map Kk.told r.kinds)]) ws 30 ts e c'
            | _ => False := by
        intro wd z2 y9 wd0 wd1 z20 z21
        have w13 := (w.trans w2).trans w3
        have gc3 := w3.k.kp f _ (w2.k.kp f _ gc (Ne.symm nD) (Ne.symm nL)) (Ne.symm nD) (Ne.symm nL)
        fail "sz"
        refine ⟨by unfold isBT lstOf; simp only [gc3, Option.isSome_some], ?_⟩
        refine (e_pick (us := ws.map T.str) w13.d (by simpa using hw0) (by rw [List.length_map]; omega)).mono ?_
        rintro t cs4 ⟨ht, w4⟩
        obtain ⟨nm, hnm, rfl⟩ := List.mem_map.mp ht
        fail "sz"
        refine (e_draw (w13.trans w4).d (by decide) (by decide)).mono ?_
        rintro t cs5 ⟨dd, rfl, dd0, dd1, w5⟩
        have w15 := (w13.trans w4).trans w5
        have gc5 := w5.k.kp f _ (w4.k.kp f _ gc3 (Ne.symm nD) (Ne.symm nL)) (Ne.symm nD) (Ne.symm nL)
        fail "sz"
        rw [List.length_cons] at hl
        rw [ev_append gc5 (by rw [List.length_map, hz]; omega)]
        refine ⟨us ++ [⟨lo, lo + wd - 1, nm, 1 + dd⟩], z2, y7, _, _, _, m, rfl, w15.setN hfl nD nL, ?_, z20, z21, ?_, ?_⟩
        · rw [get_set gc5, List.map_append]
          rfl
        · rw [List.length_append, List.length_singleton]
          omega
        · intro u hu'
          rcases List.mem_append.mp hu' with hu' | hu'
          · exact hu u hu'
          · rw [List.mem_singleton.mp hu']
            refine ⟨?_, ?_, ?_, hwn nm hnm, ?_, ?_⟩ <;> (dsimp only; omega)
      generalize (sExpr (mBm BT.lst appendM (mVar 5) (aCons (mTup (aCons (mVar 10) (aCons (mOp subT (mOp addT (mVar 10) (mVar 9)) (mC (T.int 1))) (aCons (mCal m_l_pick [] (aCons (mVar 0) (aCons (mVar 4) aNil))) (aCons (mOp addT (mC (T.int 1)) (mCal m_l_draw [] (aCons (mVar 0) (aCons (mC (T.int 5)) aNil)))) aNil))))) aNil))) = M at body ⊢
      rw [ev_mulR (by omega) (by omega)]
      fail "sz"
      by_cases h65 : (1 + a) * z < 65
      · rw [decide_eq_true h65]
        fail "sz"
        rw [ev_mulR (by omega) (by omega)]
        fail "sz"
        rw [Int.mul_comm]
        have hp : 1 ≤ (1 + a) * z := Int.le_trans z0 (by have := Int.mul_le_mul_of_nonneg_right (show 1 ≤ 1 + a by omega) (show 0 ≤ z by omega); rwa [Int.one_mul] at this)
        exact (body (1 + a) ((1 + a) * z) none (by omega) (by omega) hp h65).mono fun fl c' h => by cases fl <;> first | exact h | cases h
      · rw [decide_eq_false h65]
        fail "sz"
        rw [Int.mul_one]
        exact (body 1 z none (by decide) (by decide) z0 z1).mono fun fl c' h => by cases fl <;> first | exact h | cases h
    · rintro env c ⟨us, z, y7, y8, y9, y10, m, rfl, w, gc, z0, z1, hl, hu⟩
      fail "sz"
      refine sv_frz rfl gc ?_
      fail "sz"
      exact ⟨us, rfl, by simpa using hl, hu, w.setN hfl nD nL⟩
end Tv

set_option linter.unusedVariables false
namespace Tv
open PySem L2
/-! ### what repr shows -/
def showT (t : T) : Str := match dat0 t with
  | some d => PyData.shown d
  | none => Str.empty
/-- t is data of depth k at most whose text has n signs at most -/
def Sh (t : T) (k n : Nat) : Prop := ∃ d, dat0 t = some d ∧ PyData.showable d = true ∧ PyData.hasDict d = false ∧ PyData.depth d ≤ k ∧ (PyData.shown d).length ≤ n
theorem Sh.mono {t : T} {k n k' n' : Nat} (h : Sh t k n) (hk : k ≤ k') (hn : n ≤ n') : Sh t k' n' := let ⟨d, a, b, c, e, f⟩ := h; ⟨d, a, b, c, Nat.le_trans e hk, Nat.le_trans f hn⟩
theorem ev_repr {t : T} {k n : Nat} (h : Sh t k n) (hk : k ≤ 40) (hn : n ≤ sizeLine) {cs : Cs} {Q : T → Cs → Prop} : EV (reprC [t]) cs Q ↔ Q (.str (showT t)) cs := ev_some (by
  obtain ⟨d, a, b, c, e, f⟩ := h
  unfold reprC
  simp only [dat_of a]
  rw [if_pos ⟨b, c, Nat.le_trans e hk, Nat.le_trans f hn⟩]
  unfold showT
  rw [a])
theorem sh_non : Sh .non 0 4 := ⟨_, rfl, rfl, rfl, Nat.le_refl _, by decide +kernel⟩
theorem sh_bl (b : Bool) : Sh (.bl b) 0 5 := ⟨_, rfl, rfl, rfl, Nat.le_refl _, by cases b <;> decide +kernel⟩
theorem sh_int {i : Int} (h : i.natAbs < 10 ^ 25) : Sh (.int i) 0 26 := by
  have hb : i.natAbs < 2 ^ 84 := by
    have : (10 : Nat) ^ 25 ≤ 2 ^ 84 := by decide
    omega
  refine ⟨_, rfl, decide_eq_true (Nat.lt_trans (PySem.Flt.log2_lt_of (by decide) hb) (by decide)), rfl, Nat.le_refl _, ?_⟩
  have := PySem.int_text_length_le10 (k := 25) (by decide) h
  show (Str.ofString (toString i)).length ≤ 26
  rw [PySem.ofString_length]
  exact this
theorem sh_str {x : Str} (h : PyData.strOk x = true) : Sh (.str x) 0 (10 * x.length + 2) := by
  refine ⟨_, rfl, rfl, rfl, Nat.le_refl _, StrLaws.reprText_len x fun c hc => ?_⟩
  have ho : Array.all x.cps _ = true := h
  rw [Array.all_eq_true_iff_forall_mem] at ho
  have := of_decide_eq_true (ho c (by simpa using hc))
  have h16 : (16 : Nat) ^ 8 = 4294967296 := by decide
  omega
theorem sh_all {k n : Nat} : ∀ {ts : List T}, (∀ t ∈ ts, Sh t k n) → ∃ ds, datL0 ts = some ds ∧ PyData.showableAll ds = true ∧ PyData.hasDictAll ds = false ∧ PyData.depthAll ds ≤ k ∧ ((PyData.shownAll ds).map (·.length)).sum ≤ ts.length * n ∧ (PyData.shownAll ds).length = ts.length
  | [], _ => ⟨[], rfl, rfl, rfl, Nat.zero_le _, by simp [PyData.shownAll], rfl⟩
  | t :: ts, h => by
    obtain ⟨d, a, b, c, e, f⟩ := h t List.mem_cons_self
    obtain ⟨ds, a2, b2, c2, e2, f2, g2⟩ := sh_all fun u hu => h u (List.mem_cons_of_mem _ hu)
    refine ⟨d :: ds, by unfold datL0; simp only [a, a2], ?_, ?_, ?_, ?_, ?_⟩
    · rw [PyData.showableAll, b, b2]; rfl
    · rw [PyData.hasDictAll, c, c2]; rfl
    · rw [PyData.depthAll]; omega
    · rw [PyData.shownAll, List.map_cons, List.sum_cons, List.length_cons, Nat.add_mul]
      omega
    · rw [PyData.shownAll, List.length_cons, List.length_cons, g2]
theorem sh_tup {k n : Nat} {ts : List T} (h : ∀ t ∈ ts, Sh t k n) : Sh (.tup ts) (k + 1) (ts.length * (n + 2) + 3) := by
  obtain ⟨ds, a, b, c, e, f, g⟩ := sh_all h
  refine ⟨.tuple ds, by unfold dat0; rw [a]; rfl, b, c, by rw [PyData.depth]; omega, ?_⟩
  have := tupleText_len_le (PyData.shownAll ds)
  rw [PyData.shown, Nat.mul_add]
  omega
theorem sh_lst {k n : Nat} {ts : List T} (h : ∀ t ∈ ts, Sh t k n) : Sh (.lst ts) (k + 1) (ts.length * (n + 2) + 3) := by
  obtain ⟨ds, a, b, c, e, f, g⟩ := sh_all h
  refine ⟨.list ds, by unfold dat0; rw [a]; rfl, b, c, by rw [PyData.depth]; omega, ?_⟩
  have := listText_len_le (PyData.shownAll ds)
  rw [PyData.shown, Nat.mul_add]
  omega
theorem sh_two {k n : Nat} {a b : T} (ha : Sh a k n) (hb : Sh b k n) : Sh (.tup [a, b]) (k + 1) (2 * (n + 2) + 3) := sh_tup (ts := [a, b]) fun t ht => by
  simp only [List.mem_cons, List.not_mem_nil, or_false] at ht
  rcases ht with rfl | rfl
  · exact ha
  · exact hb
end Tv

set_option linter.unusedVariables false
namespace Tv
open PySem L2
theorem wrong_app : ∀ {n : Nat} {p : List T} {o : T} {rest : List T}, (∀ t ∈ p, unsB t = true) → unsB o = false → wrongAt n (p ++ o :: rest) = some (n + p.length)
  | n, [], o, rest, _, ho => by
    rw [List.nil_append, wrongAt, ho]
    rfl
  | n, t :: p, o, rest, hp, ho => by
    rw [List.cons_append, wrongAt, hp t (by simp), if_pos rfl, wrong_app (fun u hu => hp u (by simp [hu])) ho, List.length_cons]
    congr 1
    omega
theorem wrong_none : ∀ {n : Nat} {p : List T}, (∀ t ∈ p, unsB t = true) → wrongAt n p = none
  | n, [], _ => rfl
  | n, t :: p, hp => by
    rw [wrongAt, hp t (by simp), if_pos rfl]
    exact wrong_none fun u hu => hp u (by simp [hu])
def odd13 : List T := [.tup [.int 1, .int 0, .str "a", .int 1], .tup [.int 0, .int 0, .str "none", .int 1], .tup [.int 0, .int 0, .str "a", .int 0], .tup [.int (-1), .int 0, .str "a", .int 1], .tup [.int 0, .bl true, .str "a", .int 1], .lst [.int 0, .int 0, .str "a", .int 1],
  .tup [.int 0, .int 0, .str "a"], .tup [.int 0, .int 0, .str "a", .int 1, .int 1], .tup [.str "0", .int 0, .str "a", .int 1], .tup [.int 0, .int 0, .str "talks", .int 1], .tup [.int 0, .int 0, .non, .int 1], .non, .str "a"]
def anyB0 : T → Bool
  | .non => true
  | .bl _ => true
  | .int i => decide (-(10 ^ 18) ≤ i) && decide (i ≤ 10 ^ 18)
  | .str x => PyData.strOk x && decide (x.length ≤ 100)
  | _ => false
def anyB1 : T → Bool
  | .tup ts => decide (ts.length ≤ 100) && ts.all anyB0
  | .lst ts => decide (ts.length ≤ 100) && ts.all anyB0
  | t => anyB0 t
theorem any_B0 {k : Nat} {t : T} (h : anyB0 t = true) : AnyV k t := by
  cases t with
  | non => exact .non
  | bl b => exact .bl b
  | int i =>
    obtain ⟨a, b⟩ := Bool.and_eq_true_iff.mp h
    exact .int i (of_decide_eq_true a) (of_decide_eq_true b)
  | str x =>
    obtain ⟨a, b⟩ := Bool.and_eq_true_iff.mp h
    exact .str x a (of_decide_eq_true b)
  | _ => cases h
theorem any_B1 {k : Nat} {t : T} (h : anyB1 t = true) : AnyV (k + 1) t := by
  cases t with
  | tup ts =>
    obtain ⟨a, b⟩ := Bool.and_eq_true_iff.mp h
    exact .tup ts (of_decide_eq_true a) fun t ht => any_B0 (List.all_eq_true.mp b t ht)
  | lst ts =>
    obtain ⟨a, b⟩ := Bool.and_eq_true_iff.mp h
    exact .lst ts (of_decide_eq_true a) fun t ht => any_B0 (List.all_eq_true.mp b t ht)
  | _ => exact any_B0 h
theorem odd_facts : ∀ t ∈ odd13, AnyV 1 t ∧ unsB t = false := by
  have h : odd13.all (fun t => anyB1 t && !unsB t) = true := by decide +kernel
  intro t ht
  obtain ⟨a, b⟩ := Bool.and_eq_true_iff.mp (List.all_eq_true.mp h t ht)
  exact ⟨any_B1 a, by simpa using b⟩
theorem un_sh {u : Un} (h : u.ok) : Sh u.t 1 251 := by
  have a := h.l0
  have b := h.lh
  have c := h.h1
  have d := h.d0
  have e := h.d1
  have p : (10 : Nat) ^ 25 = 10000000000000000000000000 := by decide
  obtain ⟨n1, n2, _, _⟩ := nameB_facts h.nm
  refine (sh_tup (k := 0) (n := 60) (ts := [.int u.lo, .int u.hi, .str u.nm, .int u.d]) fun t ht => ?_).mono (by decide) (Nat.le_refl _)
  simp only [List.mem_cons, List.not_mem_nil, or_false] at ht
  rcases ht with rfl | rfl | rfl | rfl
  · exact (sh_int (by omega)).mono (by decide) (by decide)
  · exact (sh_int (by omega)).mono (by decide) (by decide)
  · exact (sh_str n2).mono (by decide) (by omega)
  · exact (sh_int (by omega)).mono (by decide) (by decide)
structure LawI (ns : List Int) (D L : Nat) (ts : List T) (env : Env) (cs : Cs) : Prop where
  ex : ∃ x2 x3 x4 x5 x6 x7 x8 x9 x10 x11 x12 : Option T, env = [some (.ro (ns.map .int)), some (.own D), x2, x3, x4, x5, x6, x7, x8, x9, x10, x11, x12] ∧ Deal D L cs
set_option maxHeartbeats 8000000 in
theorem law_true (ns : List Int) (h : ns.length ≤ 63) : ∃ cs', m_law [.ro (ns.map .int)] [] = some (.ok (.bl true), cs') := by
  have key : CV m_law [.ro (ns.map .int)] [] fun t _ => t = .bl true := by
    refine cv_def rfl ?_
    show SV (b_law [some (.ro (ns.map .int)), none, none, none, none, none, none, none, none, none, none, none, none]) [] _
    unfold b_law
    have hz : sizeLine = 16777216 := rfl
    fail "sz"
    refine (e_deal h).mono ?_
    rintro t cs0 ⟨rfl, hd, _⟩
    fail "sz"
    refine for_inv (LawI ns (([] : Cs).length + 1) ([] : Cs).length) (fun _ _ _ _ => rfl) ?_ ?_ _ _ _ ⟨⟨none, none, none, none, none, none, none, none, none, none, none, rfl, hd⟩⟩
    · rintro t ts env cs ⟨⟨x2, x3, x4, x5, x6, x7, x8, x9, x10, x11, x12, rfl, hd⟩⟩
      generalize (([] : Cs).length + 1) = D at *
      generalize ([] : Cs).length = L at *
      refine ⟨_, rfl, ?_⟩
      fail "sz"
      refine (e_l_rule hd (by decide) (by decide) (by decide) (by decide)).mono ?_
      rintro t1 cs1 ⟨r, rfl, hr, w1⟩
      generalize htold : r.told = told
      fail "sz"
      rw [← htold]
      refine (e_l_unsure w1.d hr (by decide)).mono ?_
      rintro t2 cs2 ⟨us, rfl, ul, uo, w2⟩
      rw [htold]
      fail "sz"
      rw [ev_listOC rfl]
      have gg : (cs2 ++ [Cell.lst (us.map Un.t)])[cs2.length]? = some (.lst (us.map Un.t)) := get_last
      have uany : ∀ u ∈ us.map Un.t, AnyV 1 u := fun u hu => by
        obtain ⟨v, hv, rfl⟩ := List.mem_map.mp hu
        exact (uo v hv).any
      have uuns : ∀ u ∈ us.map Un.t, unsB u = true := fun u hu => by
        obtain ⟨v, hv, rfl⟩ := List.mem_map.mp hu
        exact (uo v hv).uns
      have ush : Sh (.tup (us.map Un.t)) 2 1268 := (sh_tup (k := 1) (n := 251) fun u hu => by
        obtain ⟨v, hv, rfl⟩ := List.mem_map.mp hu
        exact un_sh (uo v hv)).mono (by decide) (by rw [List.length_map]; omega)
      have ull : (us.map Un.t).length ≤ 5 := by rw [List.length_map]; exact ul
      have w12 := w1.trans w2
      generalize us.map Un.t = vs at *
      fail "sz"
      refine cv_Unsure (SqA.own gg) uany (wrong_none uuns) ?_
      fail "sz"
      have gg2 : (cs2 ++ [Cell.lst vs] ++ [Cell.dead])[cs2.length]? = some (.lst vs) := get_app gg
      refine ⟨by unfold isBT lstOf; simp only [gg2, Option.isSome_some], ?_⟩
      rw [ev_append gg2 (by rw [hz]; omega)]
      have hd2 := w12.d
      have nD := hd2.ltD
      have nL := hd2.ltL
      have d3 : Deal D L ((cs2 ++ [Cell.lst vs] ++ [Cell.dead]).set cs2.length (Cell.lst (vs ++ [T.tup [.int 1, .int 1, .str "late", .int 1]]))) := ((hd2.app).app).set (by omega) (by omega)
      generalize (cs2 ++ [Cell.lst vs] ++ [Cell.dead]).set cs2.length (Cell.lst (vs ++ [T.tup [.int 1, .int 1, .str "late", .int 1]])) = cs3 at d3 ⊢
      fail "sz"
      rw [ev_repr ush (by decide) (by decide)]
      fail "sz"
      rw [ev_repr ush (by decide) (by decide)]
      fail "sz"
      rw [ev_neStr, beq_self_eq_true]
      fail "sz"
      refine cv_Unsure SqA.tup uany (wrong_none uuns) ?_
      fail "sz"
      rw [ev_repr ush (by decide) (by decide)]
      fail "sz"
      rw [ev_repr ush (by decide) (by decide)]
      fail "sz"
      rw [ev_neStr, beq_self_eq_true]
      fail "sz"
      rw [ev_addL (by decide)]
      fail "sz"
      show SV (forL _ _ _ _ [_, _, _, _, _, _, _, some (T.lst odd13), _, _, _, _, _]) _ _
      refine for_inv (fun ts2 env c => ∃ y8 y9 y10 y11 y12 : Option T, env = [some (T.ro (List.map T.int ns)), some (T.own D), some t, some told, some (T.lst vs), some (T.own (List.length cs2)), some (T.obj 3 [T.tup vs]), some (T.lst odd13), y8, y9, y10, y11, y12] ∧ Deal D L c) (fun _ _ _ _ => rfl) ?_ ?_ _ _ _ ⟨_, _, _, _, _, rfl, d3.app⟩
      · rintro t2 ts2 env c ⟨y8, y9, y10, y11, y12, rfl, dc⟩
        refine ⟨_, rfl, ?_⟩
        fail "sz"
        rw [ev_slL, show (3 : Int) = ((3 : Nat) : Int) from rfl, cut_takeN]
        have fany : ∀ u ∈ vs.take 3, AnyV 1 u := fun u hu => uany u (List.mem_of_mem_take hu)
        have funs : ∀ u ∈ vs.take 3, unsB u = true := fun u hu => uuns u (List.mem_of_mem_take hu)
        have fl : (vs.take 3).length ≤ 3 := by rw [List.length_take]; omega
        generalize vs.take 3 = fw at fany funs fl ⊢
        fail "sz"
        refine (e_draw dc (by omega) (by omega)).mono ?_
        rintro t4 c1 ⟨spot, rfl, sp0, sp1, v1⟩
        obtain ⟨sp, rfl⟩ : ∃ n : Nat, spot = (n : Int) := ⟨spot.toNat, by omega⟩
        fail "sz"
        rw [ev_slL, cut_takeN]
        fail "sz"
        refine (e_pick (us := odd13) v1.d (by decide) (by decide)).mono ?_
        rintro o1 c2 ⟨ho1, v2⟩
        fail "sz"
        have tl : (fw.take sp).length = sp := by rw [List.length_take]; omega
        have dl : (fw.drop sp).length ≤ 3 := by rw [List.length_drop]; omega
        rw [ev_addL (by rw [List.length_singleton, hz]; omega)]
        fail "sz"
        rw [ev_slL, cut_dropN]
        fail "sz"
        rw [ev_addL (by rw [List.length_append, List.length_singleton, hz]; omega)]
        fail "sz"
        refine (e_pick (us := odd13) (v1.trans v2).d (by decide) (by decide)).mono ?_
        rintro o2 c3 ⟨ho2, v3⟩
        fail "sz"
        rw [ev_addL (by rw [List.length_append, List.length_append, List.length_singleton, List.length_singleton, hz]; omega)]
        have oa1 := (odd_facts o1 ho1).1
        have oa2 := (odd_facts o2 ho2).1
        have hw : wrongAt 0 (fw.take sp ++ [o1] ++ fw.drop sp ++ [o2]) = some sp := by
          rw [List.append_assoc, List.append_assoc, List.singleton_append, wrong_app (fun u hu => funs u (List.mem_of_mem_take hu)) (odd_facts o1 ho1).2, tl, Nat.zero_add]
        have ban : ∀ u ∈ fw.take sp ++ [o1] ++ fw.drop sp ++ [o2], AnyV 1 u := by
          intro u hu
          simp only [List.mem_append, List.mem_singleton] at hu
          rcases hu with ((hu | rfl) | hu) | rfl
          · exact fany u (List.mem_of_mem_take hu)
          · exact oa1
          · exact fany u (List.mem_of_mem_drop hu)
          · exact oa2
        have bl : (fw.take sp ++ [o1] ++ fw.drop sp ++ [o2]).length ≤ 100 := by
          simp only [List.length_append, List.length_singleton]
          omega
        generalize fw.take sp ++ [o1] ++ fw.drop sp ++ [o2] = bent at hw ban bl ⊢
        have due1 : dueV (.lst bent) = .int sp := by
          unfold dueV
          rw [if_pos (show seqV (.lst bent) = true from rfl), show itemsV (.lst bent) = bent from rfl, hw]
        have due2 : dueV (.tup bent) = .int sp := by
          unfold dueV
          rw [if_pos (show seqV (.tup bent) = true from rfl), show itemsV (.tup bent) = bent from rfl, hw]
        fail "sz"
        refine (e_l_heard (.lst bent bl ban)).mono ?_
        rintro u4 c4 ⟨rfl, l4, rfl⟩
        rw [due1]
        fail "sz"
        refine (e_l_heard (.tup bent bl ban)).mono ?_
        rintro u5 c5 ⟨rfl, l5, rfl⟩
        rw [due2]
        fail "sz"
        have d5 : Deal D L (c3 ++ l4 ++ l5) := ((((v1.trans v2).trans v3).d).app).app
        generalize c3 ++ l4 ++ l5 = c6 at d5 ⊢
        refine (e_l_any 8 6 (by decide) d5).mono ?_
        rintro v c7 ⟨hv, v7⟩
        fail "sz"
        have ok : ∀ x, okd (dueV x) := fun x => by
          unfold dueV
          split
          · split <;> exact ⟨_, rfl, rfl⟩
          · exact ⟨_, rfl, rfl⟩
        refine (e_l_heard hv).mono ?_
        rintro u8 c8 ⟨rfl, l8, rfl⟩
        fail "sz"
        refine (e_l_due hv).mono ?_
        rintro u9 c9 ⟨rfl, rfl⟩
        rw [ev_neSame (ok _)]
        fail "sz"
        rw [ev_addL (by rw [List.length_singleton, hz]; omega)]
        have lan : AnyV 7 (.lst (fw ++ [v])) := .lst _ (by rw [List.length_append, List.length_singleton]; omega) fun u hu => by
          rcases List.mem_append.mp hu with hu | hu
          · exact any_up (fany u hu) (by decide)
          · rw [List.mem_singleton.mp hu]
            exact hv
        fail "sz"
        refine (e_l_heard lan).mono ?_
        rintro u10 c10 ⟨rfl, l10, rfl⟩
        fail "sz"
        rw [ev_addL (by rw [List.length_singleton, hz]; omega)]
        fail "sz"
        refine (e_l_due lan).mono ?_
        rintro u11 c11 ⟨rfl, rfl⟩
        rw [ev_neSame (ok _)]
        fail "sz"
        exact (v7.d.app).app
      · rintro env c ⟨y8, y9, y10, y11, y12, rfl, dc⟩
        exact ⟨⟨_, _, _, _, _, _, _, _, _, _, _, rfl, dc⟩⟩
    · rintro env cs ⟨⟨x2, x3, x4, x5, x6, x7, x8, x9, x10, x11, x12, rfl, hd⟩⟩
      fail "sz"
      refine cv_Unsure (k := 0) SqA.lst (fun u hu => by cases hu) rfl ?_
      fail "sz"
      rw [ev_eqDat (k := 1) (l := 1) (by decide) (by decide) (by decide) (by decide)]
      rw [show eqvt (.tup []) (.tup []) = true from by decide +kernel]
      fail "sz"
      refine (e_l_heard (k := 0) (.str "" (by decide +kernel) (by decide +kernel))).mono ?_
      rintro u c1 ⟨rfl, _⟩
      rw [show dueV (.str (Str.ofString "")) = .int 0 from rfl]
      fail "sz"
  obtain ⟨t, cs', e, rfl⟩ := key
  exact ⟨cs', e⟩
end Tv

namespace Tv
open PySem L2 ClX Ts
abbrev atOf (CTermError CInvalidStory CInvalidUnsure CUnsure : Addr) : Nat → Addr
  | 0 => CTermError
  | 1 => CInvalidStory
  | 2 => CInvalidUnsure
  | 3 => CUnsure
  | _ => CTermError
theorem raw0 {P : Program} {w : World} {K : PySem.W.Frag} {mg : Str → Option Value} {base : Heap} {CX : CXT} {k : Nat} {f : Addr} {fd : FuncData} {ps : List Str} {sp : Sp} (F : FnOk P w K mg base CX k f fd ps sp) (hb : Binds K fd ps []) : FnR P w K mg base CX k f sp :=
  (F.raw hb .nil).imp fun vs H Q E h => by rw [List.append_nil]; exact h
set_option maxHeartbeats 8000000 in
theorem all_mk {l : PySem.W.OpenLaw} {w : World} {K : PySem.W.Frag} {h : Heap} {mg : Str → Option Value} {fa CUnsure CTermError CInvalidStory CInvalidUnsure f_InvalidUnsure_init f_l_deal f_l_draw f_l_pick f_l_mixed f_l_names f_l_kind f_l_rule f_l_unsure f_is_sequence f_is_integer f_is_number f_is_name f_is_count f_is_unsure f_Unsure_init f_l_any f_l_heard f_l_is_day f_l_is_title f_l_is_one f_l_due f_law A_NO_NAMES : Addr} (X : K.In h) (G : h.Ns mainGlobals mg) (hfa : mg "law" = some (.ref fa))
    {od_InvalidUnsure_init an_InvalidUnsure_init od_l_deal an_l_deal od_l_draw an_l_draw od_l_pick an_l_pick od_l_mixed an_l_mixed od_l_names an_l_names od_l_kind an_l_kind od_l_rule an_l_rule od_l_unsure an_l_unsure od_is_sequence an_is_sequence od_is_integer an_is_integer od_is_number an_is_number od_is_name an_is_name od_is_count an_is_count od_is_unsure an_is_unsure od_Unsure_init an_Unsure_init od_l_any an_l_any od_l_heard an_l_heard od_l_is_day an_l_is_day od_l_is_title an_l_is_title od_l_is_one an_l_is_one od_l_due an_l_due od_law an_law od_A_NO_NAMES : Option Addr} {sl_InvalidUnsure_init sl_l_deal sl_l_draw sl_l_pick sl_l_mixed sl_l_names sl_l_kind sl_l_rule sl_l_unsure sl_is_sequence sl_is_integer sl_is_number sl_is_name sl_is_count sl_is_unsure sl_Unsure_init sl_l_any sl_l_heard sl_l_is_day sl_l_is_title sl_l_is_one sl_l_due sl_law sl_A_NO_NAMES : Array (Option Value)} {oc_InvalidUnsure_init kV_InvalidUnsure_init dc_InvalidUnsure_init pm_InvalidUnsure_init cd_InvalidUnsure_init ct_InvalidUnsure_init oc_l_deal kV_l_deal dc_l_deal pm_l_deal cd_l_deal ct_l_deal oc_l_draw kV_l_draw dc_l_draw pm_l_draw cd_l_draw ct_l_draw oc_l_pick kV_l_pick dc_l_pick pm_l_pick cd_l_pick ct_l_pick oc_l_mixed kV_l_mixed dc_l_mixed pm_l_mixed cd_l_mixed ct_l_mixed oc_l_names kV_l_names dc_l_names pm_l_names cd_l_names ct_l_names oc_l_kind kV_l_kind dc_l_kind pm_l_kind cd_l_kind ct_l_kind oc_l_rule kV_l_rule dc_l_rule pm_l_rule cd_l_rule ct_l_rule oc_l_unsure kV_l_unsure dc_l_unsure pm_l_unsure cd_l_unsure ct_l_unsure oc_is_sequence kV_is_sequence dc_is_sequence pm_is_sequence cd_is_sequence ct_is_sequence oc_is_integer kV_is_integer dc_is_integer pm_is_integer cd_is_integer ct_is_integer oc_is_number kV_is_number dc_is_number pm_is_number cd_is_number ct_is_number oc_is_name kV_is_name dc_is_name pm_is_name cd_is_name ct_is_name oc_is_count kV_is_count dc_is_count pm_is_count cd_is_count ct_is_count oc_is_unsure kV_is_unsure dc_is_unsure pm_is_unsure cd_is_unsure ct_is_unsure oc_Unsure_init kV_Unsure_init dc_Unsure_init pm_Unsure_init cd_Unsure_init ct_Unsure_init oc_l_any kV_l_any dc_l_any pm_l_any cd_l_any ct_l_any oc_l_heard kV_l_heard dc_l_heard pm_l_heard cd_l_heard ct_l_heard oc_l_is_day kV_l_is_day dc_l_is_day pm_l_is_day cd_l_is_day ct_l_is_day oc_l_is_title kV_l_is_title dc_l_is_title pm_l_is_title cd_l_is_title ct_l_is_title oc_l_is_one kV_l_is_one dc_l_is_one pm_l_is_one cd_l_is_one ct_l_is_one oc_l_due kV_l_due dc_l_due pm_l_due cd_l_due ct_l_due oc_law kV_law dc_law pm_law cd_law ct_law : Value} {n_A_NO_NAMES : Nat} {tk_A_NO_NAMES_0 tk_A_NO_NAMES_1 tk_A_NO_NAMES_2 tk_A_NO_NAMES_3 tk_A_NO_NAMES_4 tk_LETTERS tk_MOST_LETTERS : Tok} {nm_CInvalidUnsure q_CInvalidUnsure : Str} {N_CInvalidUnsure : Addr} {bs_CInvalidUnsure sub_CInvalidUnsure : List Value} {sn_CInvalidUnsure : List Str} {ab_CInvalidUnsure : Bool} {col_CInvalidUnsure : Option Bool} {dd_CInvalidUnsure : Option Addr} {k0_CInvalidUnsure k1_CInvalidUnsure k2_CInvalidUnsure k3_CInvalidUnsure k5_CInvalidUnsure : Option Value}
    (g_CUnsure : PySem.W.nsIn K mainGlobals "Unsure" = some (some (.ref CUnsure)))
    (pg_CUnsure : PySem.W.plainGet K CUnsure Str.empty = true)
    (hd_CUnsure : PySem.W.hasDictIn K CUnsure = true)
    (po_CUnsure : PySem.W.plainOver K CUnsure = true)
    (sa_CUnsure : PySem.W.findIn K (.ref CUnsure) "__setattr__" = some (some (.builtin "object.__setattr__")))
    (mk_CUnsure : PySem.W.makesIn K CUnsure = true)
    (kc_CUnsure : PySem.W.keepIn K (.ref CUnsure) = true)
    (n_CUnsure_occasions : PySem.W.findIn K (.ref CUnsure) "occasions" = some none)
    (ha_CUnsure : PySem.W.findIn K (.ref CUnsure) "__class__" = some (some (.builtin "object.__class__")))
    (hn_cls : PySem.W.specialIn K (.builtin "object.__class__") "__get__" = some (some (.builtin "getset_descriptor.__get__")))
    (ht_cls : PySem.W.takesIn K (.builtin "object.__class__") = some true)
    (hm_CUnsure : PySem.W.mroIn K CUnsure (.type "object") = some true)
    (k0_CUnsure : PySem.W.kitOne K (.ref CUnsure) (.type "int") = some false)
    (k1_CUnsure : PySem.W.kitOne K (.ref CUnsure) (.type "bool") = some false)
    (k2_CUnsure : PySem.W.kitOne K (.ref CUnsure) (.type "str") = some false)
    (k3_CUnsure : PySem.W.kitOne K (.ref CUnsure) (.type "list") = some false)
    (k4_CUnsure : PySem.W.kitOne K (.ref CUnsure) (.type "tuple") = some false)
    (g_CTermError : PySem.W.nsIn K mainGlobals "TermError" = some (some (.ref CTermError)))
    (g_CInvalidStory : PySem.W.nsIn K mainGlobals "InvalidStory" = some (some (.ref CInvalidStory)))
    (g_CInvalidUnsure : PySem.W.nsIn K mainGlobals "InvalidUnsure" = some (some (.ref CInvalidUnsure)))
    (l_CInvalidUnsure : K.lookup CInvalidUnsure = some (excClassObj nm_CInvalidUnsure q_CInvalidUnsure CInvalidUnsure N_CInvalidUnsure bs_CInvalidUnsure [.ref CTermError, .type "ValueError", .type "Exception", .type "BaseException", .type "object"] true sn_CInvalidUnsure sub_CInvalidUnsure ab_CInvalidUnsure col_CInvalidUnsure dd_CInvalidUnsure k0_CInvalidUnsure k1_CInvalidUnsure k2_CInvalidUnsure k3_CInvalidUnsure k5_CInvalidUnsure "ValueError.__new__"))
    (sa_CInvalidUnsure : PySem.W.findIn K (.ref CInvalidUnsure) "__setattr__" = some (some (.builtin "object.__setattr__")))
    (ex_CInvalidUnsure : PySem.W.subIn K (.ref CInvalidUnsure) (.type "BaseException") = some true)
    (ty_CInvalidUnsure : PySem.W.typeIn K (.ref CInvalidUnsure) = some (.type "type"))
    (kc_CInvalidUnsure : PySem.W.keepIn K (.ref CInvalidUnsure) = true)
    (a_InvalidUnsure_init : PySem.W.findIn K (.ref CInvalidUnsure) "__init__" = some (some (.ref f_InvalidUnsure_init)))
    (t_InvalidUnsure_init : PySem.W.typeIn K (.ref f_InvalidUnsure_init) = some (.type "function"))
    (l_InvalidUnsure_init : K.lookup f_InvalidUnsure_init = some ⟨oc_InvalidUnsure_init, od_InvalidUnsure_init, .func (PySem.W.fnOf "__init__" "InvalidUnsure.__init__" (C8.fnArgs s_InvalidUnsure_init) (C8.fnBody s_InvalidUnsure_init) (C8.fnScope s_InvalidUnsure_init) .none kV_InvalidUnsure_init dc_InvalidUnsure_init pm_InvalidUnsure_init an_InvalidUnsure_init cd_InvalidUnsure_init ct_InvalidUnsure_init), sl_InvalidUnsure_init⟩)
    (c_InvalidUnsure_init : PySem.W.codeIn K cd_InvalidUnsure_init "InvalidUnsure.__init__" = true)
    (no_CInvalidUnsure : PySem.W.findIn K (.ref CInvalidUnsure) "at" = some none)
    (ga_CInvalidUnsure : PySem.W.findIn K (.ref CInvalidUnsure) "__getattribute__" = some (some (.builtin "BaseException.__getattribute__")))
    (gg_CInvalidUnsure : PySem.W.findIn K (.ref CInvalidUnsure) "__getattr__" = some none)
    (hd_CInvalidUnsure : PySem.W.hasDictIn K CInvalidUnsure = true)
    (ha_CInvalidUnsure : PySem.W.findIn K (.ref CInvalidUnsure) "__class__" = some (some (.builtin "object.__class__")))
    (hm_CInvalidUnsure : PySem.W.mroIn K CInvalidUnsure (.type "object") = some true)
    (su_CInvalidUnsure : PySem.W.subIn K (.ref CInvalidUnsure) (.ref CInvalidUnsure) = some true)
    (xk_InvalidUnsure__TermError : PySem.W.kitOne K (.ref CInvalidUnsure) (.ref CTermError) = some true)
    (xk_InvalidUnsure__InvalidStory : PySem.W.kitOne K (.ref CInvalidUnsure) (.ref CInvalidStory) = some false)
    (a_l_deal : PySem.W.nsIn K mainGlobals "_law_deal" = some (some (.ref f_l_deal)))
    (l_l_deal : K.lookup f_l_deal = some ⟨oc_l_deal, od_l_deal, .func (PySem.W.fnOf "_law_deal" "_law_deal" (C8.fnArgs s_l_deal) (C8.fnBody s_l_deal) (C8.fnScope s_l_deal) .none kV_l_deal dc_l_deal pm_l_deal an_l_deal cd_l_deal ct_l_deal), sl_l_deal⟩)
    (c_l_deal : PySem.W.codeIn K cd_l_deal "_law_deal" = true)
    (k_l_deal : PySem.W.keepIn K (.ref f_l_deal) = true)
    (a_l_draw : PySem.W.nsIn K mainGlobals "_law_draw" = some (some (.ref f_l_draw)))
    (l_l_draw : K.lookup f_l_draw = some ⟨oc_l_draw, od_l_draw, .func (PySem.W.fnOf "_law_draw" "_law_draw" (C8.fnArgs s_l_draw) (C8.fnBody s_l_draw) (C8.fnScope s_l_draw) .none kV_l_draw dc_l_draw pm_l_draw an_l_draw cd_l_draw ct_l_draw), sl_l_draw⟩)
    (c_l_draw : PySem.W.codeIn K cd_l_draw "_law_draw" = true)
    (k_l_draw : PySem.W.keepIn K (.ref f_l_draw) = true)
    (a_l_pick : PySem.W.nsIn K mainGlobals "_law_pick" = some (some (.ref f_l_pick)))
    (l_l_pick : K.lookup f_l_pick = some ⟨oc_l_pick, od_l_pick, .func (PySem.W.fnOf "_law_pick" "_law_pick" (C8.fnArgs s_l_pick) (C8.fnBody s_l_pick) (C8.fnScope s_l_pick) .none kV_l_pick dc_l_pick pm_l_pick an_l_pick cd_l_pick ct_l_pick), sl_l_pick⟩)
    (c_l_pick : PySem.W.codeIn K cd_l_pick "_law_pick" = true)
    (k_l_pick : PySem.W.keepIn K (.ref f_l_pick) = true)
    (a_l_mixed : PySem.W.nsIn K mainGlobals "_law_mixed" = some (some (.ref f_l_mixed)))
    (l_l_mixed : K.lookup f_l_mixed = some ⟨oc_l_mixed, od_l_mixed, .func (PySem.W.fnOf "_law_mixed" "_law_mixed" (C8.fnArgs s_l_mixed) (C8.fnBody s_l_mixed) (C8.fnScope s_l_mixed) .none kV_l_mixed dc_l_mixed pm_l_mixed an_l_mixed cd_l_mixed ct_l_mixed), sl_l_mixed⟩)
    (c_l_mixed : PySem.W.codeIn K cd_l_mixed "_law_mixed" = true)
    (k_l_mixed : PySem.W.keepIn K (.ref f_l_mixed) = true)
    (a_l_names : PySem.W.nsIn K mainGlobals "_law_names" = some (some (.ref f_l_names)))
    (l_l_names : K.lookup f_l_names = some ⟨oc_l_names, od_l_names, .func (PySem.W.fnOf "_law_names" "_law_names" (C8.fnArgs s_l_names) (C8.fnBody s_l_names) (C8.fnScope s_l_names) .none kV_l_names dc_l_names pm_l_names an_l_names cd_l_names ct_l_names), sl_l_names⟩)
    (c_l_names : PySem.W.codeIn K cd_l_names "_law_names" = true)
    (k_l_names : PySem.W.keepIn K (.ref f_l_names) = true)
    (a_l_kind : PySem.W.nsIn K mainGlobals "_law_kind" = some (some (.ref f_l_kind)))
    (l_l_kind : K.lookup f_l_kind = some ⟨oc_l_kind, od_l_kind, .func (PySem.W.fnOf "_law_kind" "_law_kind" (C8.fnArgs s_l_kind) (C8.fnBody s_l_kind) (C8.fnScope s_l_kind) .none kV_l_kind dc_l_kind pm_l_kind an_l_kind cd_l_kind ct_l_kind), sl_l_kind⟩)
    (c_l_kind : PySem.W.codeIn K cd_l_kind "_law_kind" = true)
    (k_l_kind : PySem.W.keepIn K (.ref f_l_kind) = true)
    (a_l_rule : PySem.W.nsIn K mainGlobals "_law_rule" = some (some (.ref f_l_rule)))
    (l_l_rule : K.lookup f_l_rule = some ⟨oc_l_rule, od_l_rule, .func (PySem.W.fnOf "_law_rule" "_law_rule" (C8.fnArgs s_l_rule) (C8.fnBody s_l_rule) (C8.fnScope s_l_rule) .none kV_l_rule dc_l_rule pm_l_rule an_l_rule cd_l_rule ct_l_rule), sl_l_rule⟩)
    (c_l_rule : PySem.W.codeIn K cd_l_rule "_law_rule" = true)
    (k_l_rule : PySem.W.keepIn K (.ref f_l_rule) = true)
    (a_l_unsure : PySem.W.nsIn K mainGlobals "_law_unsure" = some (some (.ref f_l_unsure)))
    (l_l_unsure : K.lookup f_l_unsure = some ⟨oc_l_unsure, od_l_unsure, .func (PySem.W.fnOf "_law_unsure" "_law_unsure" (C8.fnArgs s_l_unsure) (C8.fnBody s_l_unsure) (C8.fnScope s_l_unsure) .none kV_l_unsure dc_l_unsure pm_l_unsure an_l_unsure cd_l_unsure ct_l_unsure), sl_l_unsure⟩)
    (c_l_unsure : PySem.W.codeIn K cd_l_unsure "_law_unsure" = true)
    (k_l_unsure : PySem.W.keepIn K (.ref f_l_unsure) = true)
    (a_is_sequence : PySem.W.nsIn K mainGlobals "is_sequence" = some (some (.ref f_is_sequence)))
    (l_is_sequence : K.lookup f_is_sequence = some ⟨oc_is_sequence, od_is_sequence, .func (PySem.W.fnOf "is_sequence" "is_sequence" (C8.fnArgs s_is_sequence) (C8.fnBody s_is_sequence) (C8.fnScope s_is_sequence) .none kV_is_sequence dc_is_sequence pm_is_sequence an_is_sequence cd_is_sequence ct_is_sequence), sl_is_sequence⟩)
    (c_is_sequence : PySem.W.codeIn K cd_is_sequence "is_sequence" = true)
    (k_is_sequence : PySem.W.keepIn K (.ref f_is_sequence) = true)
    (a_is_integer : PySem.W.nsIn K mainGlobals "is_integer" = some (some (.ref f_is_integer)))
    (l_is_integer : K.lookup f_is_integer = some ⟨oc_is_integer, od_is_integer, .func (PySem.W.fnOf "is_integer" "is_integer" (C8.fnArgs s_is_integer) (C8.fnBody s_is_integer) (C8.fnScope s_is_integer) .none kV_is_integer dc_is_integer pm_is_integer an_is_integer cd_is_integer ct_is_integer), sl_is_integer⟩)
    (c_is_integer : PySem.W.codeIn K cd_is_integer "is_integer" = true)
    (k_is_integer : PySem.W.keepIn K (.ref f_is_integer) = true)
    (a_is_number : PySem.W.nsIn K mainGlobals "is_number" = some (some (.ref f_is_number)))
    (l_is_number : K.lookup f_is_number = some ⟨oc_is_number, od_is_number, .func (PySem.W.fnOf "is_number" "is_number" (C8.fnArgs s_is_number) (C8.fnBody s_is_number) (C8.fnScope s_is_number) .none kV_is_number dc_is_number pm_is_number an_is_number cd_is_number ct_is_number), sl_is_number⟩)
    (c_is_number : PySem.W.codeIn K cd_is_number "is_number" = true)
    (k_is_number : PySem.W.keepIn K (.ref f_is_number) = true)
    (a_is_name : PySem.W.nsIn K mainGlobals "is_name" = some (some (.ref f_is_name)))
    (l_is_name : K.lookup f_is_name = some ⟨oc_is_name, od_is_name, .func (PySem.W.fnOf "is_name" "is_name" (C8.fnArgs s_is_name) (C8.fnBody s_is_name) (C8.fnScope s_is_name) .none kV_is_name dc_is_name pm_is_name an_is_name cd_is_name ct_is_name), sl_is_name⟩)
    (c_is_name : PySem.W.codeIn K cd_is_name "is_name" = true)
    (k_is_name : PySem.W.keepIn K (.ref f_is_name) = true)
    (a_is_count : PySem.W.nsIn K mainGlobals "is_count" = some (some (.ref f_is_count)))
    (l_is_count : K.lookup f_is_count = some ⟨oc_is_count, od_is_count, .func (PySem.W.fnOf "is_count" "is_count" (C8.fnArgs s_is_count) (C8.fnBody s_is_count) (C8.fnScope s_is_count) .none kV_is_count dc_is_count pm_is_count an_is_count cd_is_count ct_is_count), sl_is_count⟩)
    (c_is_count : PySem.W.codeIn K cd_is_count "is_count" = true)
    (k_is_count : PySem.W.keepIn K (.ref f_is_count) = true)
    (a_is_unsure : PySem.W.nsIn K mainGlobals "is_unsure" = some (some (.ref f_is_unsure)))
    (l_is_unsure : K.lookup f_is_unsure = some ⟨oc_is_unsure, od_is_unsure, .func (PySem.W.fnOf "is_unsure" "is_unsure" (C8.fnArgs s_is_unsure) (C8.fnBody s_is_unsure) (C8.fnScope s_is_unsure) .none kV_is_unsure dc_is_unsure pm_is_unsure an_is_unsure cd_is_unsure ct_is_unsure), sl_is_unsure⟩)
    (c_is_unsure : PySem.W.codeIn K cd_is_unsure "is_unsure" = true)
    (k_is_unsure : PySem.W.keepIn K (.ref f_is_unsure) = true)
    (a_Unsure_init : PySem.W.findIn K (.ref CUnsure) "__init__" = some (some (.ref f_Unsure_init)))
    (i_Unsure_init : PySem.W.isFn K (.ref f_Unsure_init) = true)
    (l_Unsure_init : K.lookup f_Unsure_init = some ⟨oc_Unsure_init, od_Unsure_init, .func (PySem.W.fnOf "__init__" "Unsure.__init__" (C8.fnArgs s_Unsure_init) (C8.fnBody s_Unsure_init) (C8.fnScope s_Unsure_init) .none kV_Unsure_init dc_Unsure_init pm_Unsure_init an_Unsure_init cd_Unsure_init ct_Unsure_init), sl_Unsure_init⟩)
    (c_Unsure_init : PySem.W.codeIn K cd_Unsure_init "Unsure.__init__" = true)
    (k_Unsure_init : PySem.W.keepIn K (.ref f_Unsure_init) = true)
    (a_l_any : PySem.W.nsIn K mainGlobals "_law_any" = some (some (.ref f_l_any)))
    (l_l_any : K.lookup f_l_any = some ⟨oc_l_any, od_l_any, .func (PySem.W.fnOf "_law_any" "_law_any" (C8.fnArgs s_l_any) (C8.fnBody s_l_any) (C8.fnScope s_l_any) .none kV_l_any dc_l_any pm_l_any an_l_any cd_l_any ct_l_any), sl_l_any⟩)
    (c_l_any : PySem.W.codeIn K cd_l_any "_law_any" = true)
    (k_l_any : PySem.W.keepIn K (.ref f_l_any) = true)
    (a_l_heard : PySem.W.nsIn K mainGlobals "_law_heard" = some (some (.ref f_l_heard)))
    (l_l_heard : K.lookup f_l_heard = some ⟨oc_l_heard, od_l_heard, .func (PySem.W.fnOf "_law_heard" "_law_heard" (C8.fnArgs s_l_heard) (C8.fnBody s_l_heard) (C8.fnScope s_l_heard) .none kV_l_heard dc_l_heard pm_l_heard an_l_heard cd_l_heard ct_l_heard), sl_l_heard⟩)
    (c_l_heard : PySem.W.codeIn K cd_l_heard "_law_heard" = true)
    (k_l_heard : PySem.W.keepIn K (.ref f_l_heard) = true)
    (a_l_is_day : PySem.W.nsIn K mainGlobals "_law_is_day" = some (some (.ref f_l_is_day)))
    (l_l_is_day : K.lookup f_l_is_day = some ⟨oc_l_is_day, od_l_is_day, .func (PySem.W.fnOf "_law_is_day" "_law_is_day" (C8.fnArgs s_l_is_day) (C8.fnBody s_l_is_day) (C8.fnScope s_l_is_day) .none kV_l_is_day dc_l_is_day pm_l_is_day an_l_is_day cd_l_is_day ct_l_is_day), sl_l_is_day⟩)
    (c_l_is_day : PySem.W.codeIn K cd_l_is_day "_law_is_day" = true)
    (k_l_is_day : PySem.W.keepIn K (.ref f_l_is_day) = true)
    (a_l_is_title : PySem.W.nsIn K mainGlobals "_law_is_title" = some (some (.ref f_l_is_title)))
    (l_l_is_title : K.lookup f_l_is_title = some ⟨oc_l_is_title, od_l_is_title, .func (PySem.W.fnOf "_law_is_title" "_law_is_title" (C8.fnArgs s_l_is_title) (C8.fnBody s_l_is_title) (C8.fnScope s_l_is_title) .none kV_l_is_title dc_l_is_title pm_l_is_title an_l_is_title cd_l_is_title ct_l_is_title), sl_l_is_title⟩)
    (c_l_is_title : PySem.W.codeIn K cd_l_is_title "_law_is_title" = true)
    (k_l_is_title : PySem.W.keepIn K (.ref f_l_is_title) = true)
    (a_l_is_one : PySem.W.nsIn K mainGlobals "_law_is_one" = some (some (.ref f_l_is_one)))
    (l_l_is_one : K.lookup f_l_is_one = some ⟨oc_l_is_one, od_l_is_one, .func (PySem.W.fnOf "_law_is_one" "_law_is_one" (C8.fnArgs s_l_is_one) (C8.fnBody s_l_is_one) (C8.fnScope s_l_is_one) .none kV_l_is_one dc_l_is_one pm_l_is_one an_l_is_one cd_l_is_one ct_l_is_one), sl_l_is_one⟩)
    (c_l_is_one : PySem.W.codeIn K cd_l_is_one "_law_is_one" = true)
    (k_l_is_one : PySem.W.keepIn K (.ref f_l_is_one) = true)
    (a_l_due : PySem.W.nsIn K mainGlobals "_law_due" = some (some (.ref f_l_due)))
    (l_l_due : K.lookup f_l_due = some ⟨oc_l_due, od_l_due, .func (PySem.W.fnOf "_law_due" "_law_due" (C8.fnArgs s_l_due) (C8.fnBody s_l_due) (C8.fnScope s_l_due) .none kV_l_due dc_l_due pm_l_due an_l_due cd_l_due ct_l_due), sl_l_due⟩)
    (c_l_due : PySem.W.codeIn K cd_l_due "_law_due" = true)
    (k_l_due : PySem.W.keepIn K (.ref f_l_due) = true)
    (a_law : PySem.W.nsIn K mainGlobals "law" = some (some (.ref f_law)))
    (l_law : K.lookup f_law = some ⟨oc_law, od_law, .func (PySem.W.fnOf "law" "law" (C8.fnArgs s_law) (C8.fnBody s_law) (C8.fnScope s_law) .none kV_law dc_law pm_law an_law cd_law ct_law), sl_law⟩)
    (c_law : PySem.W.codeIn K cd_law "law" = true)
    (k_law : PySem.W.keepIn K (.ref f_law) = true)
    (g_A_NO_NAMES : PySem.W.nsIn K mainGlobals "NO_NAMES" = some (some (.ref A_NO_NAMES)))
    (l_A_NO_NAMES : K.lookup A_NO_NAMES = some ⟨.type "tuple", od_A_NO_NAMES, .seq #[.str "any" tk_A_NO_NAMES_0, .str "none" tk_A_NO_NAMES_1, .str "anew" tk_A_NO_NAMES_2, .str "lift" tk_A_NO_NAMES_3, .str "term" tk_A_NO_NAMES_4] n_A_NO_NAMES, sl_A_NO_NAMES⟩)
    (z_LETTERS : PySem.W.nsIn K mainGlobals "LETTERS" = some (some (.str "abcdefghijklmnopqrstuvwxyz" tk_LETTERS)))
    (z_MOST_LETTERS : PySem.W.nsIn K mainGlobals "MOST_LETTERS" = some (some (.int 4 tk_MOST_LETTERS)))
    (z_abs : PySem.W.nsIn K mainGlobals "abs" = some none)
    (z_int : PySem.W.nsIn K mainGlobals "int" = some none)
    (z_len : PySem.W.nsIn K mainGlobals "len" = some none)
    (z_list : PySem.W.nsIn K mainGlobals "list" = some none)
    (z_range : PySem.W.nsIn K mainGlobals "range" = some none)
    (z_sorted : PySem.W.nsIn K mainGlobals "sorted" = some none)
    (z_min : PySem.W.nsIn K mainGlobals "min" = some none)
    (z_isinstance : PySem.W.nsIn K mainGlobals "isinstance" = some none)
    (z_tuple : PySem.W.nsIn K mainGlobals "tuple" = some none)
    (z_bool : PySem.W.nsIn K mainGlobals "bool" = some none)
    (z_str : PySem.W.nsIn K mainGlobals "str" = some none)
    (z_all : PySem.W.nsIn K mainGlobals "all" = some none)
    (z_enumerate : PySem.W.nsIn K mainGlobals "enumerate" = some none)
    (z_repr : PySem.W.nsIn K mainGlobals "repr" = some none) :
    ∃ fd : FuncData, (∀ (s : Shared) (v : Value), BindsTo s fd ⟨[v], []⟩ [("_law_script", v)]) ∧ ∀ base : Heap, K.In base → base.Ns mainGlobals mg → TvG.RunAt l.prog w K mg base C8.CX0 callerA fa fd ["_law_script"] (Tv.spLaw K) := by
  have e := hfa.symm.trans (PySem.W.mg_of X G a_law)
  cases e
  have N : ∀ {x : Str}, PySem.W.nsIn K mainGlobals x = some none → mg x = none := fun z => PySem.W.mg_none_of X G z
  have c_CUnsure : Cls K CUnsure := ⟨pg_CUnsure, hd_CUnsure, po_CUnsure, sa_CUnsure⟩
  have N_CUnsure : ClsN K CUnsure ["occasions"] := ⟨c_CUnsure, fun n hn => by
    simp only [List.mem_cons, List.not_mem_nil, or_false] at hn
    rcases hn with rfl
    · exact n_CUnsure_occasions⟩
  have O_CUnsure : OwnT K CUnsure := ⟨c_CUnsure, ha_CUnsure, hn_cls, ht_cls, hm_CUnsure, k0_CUnsure, k1_CUnsure, k2_CUnsure, k3_CUnsure, k4_CUnsure⟩
  have F_InvalidUnsure_init : C8.Fun K "__init__" "InvalidUnsure.__init__" s_InvalidUnsure_init f_InvalidUnsure_init _ := ⟨oc_InvalidUnsure_init, od_InvalidUnsure_init, .none, kV_InvalidUnsure_init, dc_InvalidUnsure_init, pm_InvalidUnsure_init, an_InvalidUnsure_init, cd_InvalidUnsure_init, ct_InvalidUnsure_init, sl_InvalidUnsure_init, rfl, l_InvalidUnsure_init, c_InvalidUnsure_init⟩
  have X_CInvalidUnsure : OexC K CInvalidUnsure := ⟨⟨_, _, _, _, _, _, _, _, _, _, _, _, _, _, _, l_CInvalidUnsure, rfl⟩, sa_CInvalidUnsure, ex_CInvalidUnsure, ty_CInvalidUnsure, kc_CInvalidUnsure⟩
  have te_CInvalidUnsure : PySem.W.exmOne K (.ref CInvalidUnsure) (.ref CInvalidUnsure) = some true := PySem.W.exm_ref ex_CInvalidUnsure hd_CInvalidUnsure ty_CInvalidUnsure su_CInvalidUnsure
  have EC_CInvalidUnsure : ExcC K CInvalidUnsure := ⟨ga_CInvalidUnsure, gg_CInvalidUnsure, ex_CInvalidUnsure, hd_CInvalidUnsure, ha_CInvalidUnsure, hn_cls, ht_cls, hm_CInvalidUnsure⟩
  have XF_CInvalidUnsure : XfC K CInvalidUnsure := ⟨ga_CInvalidUnsure, gg_CInvalidUnsure, ex_CInvalidUnsure, hd_CInvalidUnsure⟩
  have D_l_deal : C8.Def K mg "_law_deal" s_l_deal f_l_deal _ := ⟨⟨oc_l_deal, od_l_deal, .none, kV_l_deal, dc_l_deal, pm_l_deal, an_l_deal, cd_l_deal, ct_l_deal, sl_l_deal, rfl, l_l_deal, c_l_deal⟩, PySem.W.mg_of X G a_l_deal, k_l_deal⟩
  have D_l_draw : C8.Def K mg "_law_draw" s_l_draw f_l_draw _ := ⟨⟨oc_l_draw, od_l_draw, .none, kV_l_draw, dc_l_draw, pm_l_draw, an_l_draw, cd_l_draw, ct_l_draw, sl_l_draw, rfl, l_l_draw, c_l_draw⟩, PySem.W.mg_of X G a_l_draw, k_l_draw⟩
  have D_l_pick : C8.Def K mg "_law_pick" s_l_pick f_l_pick _ := ⟨⟨oc_l_pick, od_l_pick, .none, kV_l_pick, dc_l_pick, pm_l_pick, an_l_pick, cd_l_pick, ct_l_pick, sl_l_pick, rfl, l_l_pick, c_l_pick⟩, PySem.W.mg_of X G a_l_pick, k_l_pick⟩
  have D_l_mixed : C8.Def K mg "_law_mixed" s_l_mixed f_l_mixed _ := ⟨⟨oc_l_mixed, od_l_mixed, .none, kV_l_mixed, dc_l_mixed, pm_l_mixed, an_l_mixed, cd_l_mixed, ct_l_mixed, sl_l_mixed, rfl, l_l_mixed, c_l_mixed⟩, PySem.W.mg_of X G a_l_mixed, k_l_mixed⟩
  have D_l_names : C8.Def K mg "_law_names" s_l_names f_l_names _ := ⟨⟨oc_l_names, od_l_names, .none, kV_l_names, dc_l_names, pm_l_names, an_l_names, cd_l_names, ct_l_names, sl_l_names, rfl, l_l_names, c_l_names⟩, PySem.W.mg_of X G a_l_names, k_l_names⟩
  have D_l_kind : C8.Def K mg "_law_kind" s_l_kind f_l_kind _ := ⟨⟨oc_l_kind, od_l_kind, .none, kV_l_kind, dc_l_kind, pm_l_kind, an_l_kind, cd_l_kind, ct_l_kind, sl_l_kind, rfl, l_l_kind, c_l_kind⟩, PySem.W.mg_of X G a_l_kind, k_l_kind⟩
  have D_l_rule : C8.Def K mg "_law_rule" s_l_rule f_l_rule _ := ⟨⟨oc_l_rule, od_l_rule, .none, kV_l_rule, dc_l_rule, pm_l_rule, an_l_rule, cd_l_rule, ct_l_rule, sl_l_rule, rfl, l_l_rule, c_l_rule⟩, PySem.W.mg_of X G a_l_rule, k_l_rule⟩
  have D_l_unsure : C8.Def K mg "_law_unsure" s_l_unsure f_l_unsure _ := ⟨⟨oc_l_unsure, od_l_unsure, .none, kV_l_unsure, dc_l_unsure, pm_l_unsure, an_l_unsure, cd_l_unsure, ct_l_unsure, sl_l_unsure, rfl, l_l_unsure, c_l_unsure⟩, PySem.W.mg_of X G a_l_unsure, k_l_unsure⟩
  have D_is_sequence : C8.Def K mg "is_sequence" s_is_sequence f_is_sequence _ := ⟨⟨oc_is_sequence, od_is_sequence, .none, kV_is_sequence, dc_is_sequence, pm_is_sequence, an_is_sequence, cd_is_sequence, ct_is_sequence, sl_is_sequence, rfl, l_is_sequence, c_is_sequence⟩, PySem.W.mg_of X G a_is_sequence, k_is_sequence⟩
  have D_is_integer : C8.Def K mg "is_integer" s_is_integer f_is_integer _ := ⟨⟨oc_is_integer, od_is_integer, .none, kV_is_integer, dc_is_integer, pm_is_integer, an_is_integer, cd_is_integer, ct_is_integer, sl_is_integer, rfl, l_is_integer, c_is_integer⟩, PySem.W.mg_of X G a_is_integer, k_is_integer⟩
  have D_is_number : C8.Def K mg "is_number" s_is_number f_is_number _ := ⟨⟨oc_is_number, od_is_number, .none, kV_is_number, dc_is_number, pm_is_number, an_is_number, cd_is_number, ct_is_number, sl_is_number, rfl, l_is_number, c_is_number⟩, PySem.W.mg_of X G a_is_number, k_is_number⟩
  have D_is_name : C8.Def K mg "is_name" s_is_name f_is_name _ := ⟨⟨oc_is_name, od_is_name, .none, kV_is_name, dc_is_name, pm_is_name, an_is_name, cd_is_name, ct_is_name, sl_is_name, rfl, l_is_name, c_is_name⟩, PySem.W.mg_of X G a_is_name, k_is_name⟩
  have D_is_count : C8.Def K mg "is_count" s_is_count f_is_count _ := ⟨⟨oc_is_count, od_is_count, .none, kV_is_count, dc_is_count, pm_is_count, an_is_count, cd_is_count, ct_is_count, sl_is_count, rfl, l_is_count, c_is_count⟩, PySem.W.mg_of X G a_is_count, k_is_count⟩
  have D_is_unsure : C8.Def K mg "is_unsure" s_is_unsure f_is_unsure _ := ⟨⟨oc_is_unsure, od_is_unsure, .none, kV_is_unsure, dc_is_unsure, pm_is_unsure, an_is_unsure, cd_is_unsure, ct_is_unsure, sl_is_unsure, rfl, l_is_unsure, c_is_unsure⟩, PySem.W.mg_of X G a_is_unsure, k_is_unsure⟩
  have F_Unsure_init : C8.Fun K "__init__" "Unsure.__init__" s_Unsure_init f_Unsure_init _ := ⟨oc_Unsure_init, od_Unsure_init, .none, kV_Unsure_init, dc_Unsure_init, pm_Unsure_init, an_Unsure_init, cd_Unsure_init, ct_Unsure_init, sl_Unsure_init, rfl, l_Unsure_init, c_Unsure_init⟩
  have D_l_any : C8.Def K mg "_law_any" s_l_any f_l_any _ := ⟨⟨oc_l_any, od_l_any, .none, kV_l_any, dc_l_any, pm_l_any, an_l_any, cd_l_any, ct_l_any, sl_l_any, rfl, l_l_any, c_l_any⟩, PySem.W.mg_of X G a_l_any, k_l_any⟩
  have D_l_heard : C8.Def K mg "_law_heard" s_l_heard f_l_heard _ := ⟨⟨oc_l_heard, od_l_heard, .none, kV_l_heard, dc_l_heard, pm_l_heard, an_l_heard, cd_l_heard, ct_l_heard, sl_l_heard, rfl, l_l_heard, c_l_heard⟩, PySem.W.mg_of X G a_l_heard, k_l_heard⟩
  have D_l_is_day : C8.Def K mg "_law_is_day" s_l_is_day f_l_is_day _ := ⟨⟨oc_l_is_day, od_l_is_day, .none, kV_l_is_day, dc_l_is_day, pm_l_is_day, an_l_is_day, cd_l_is_day, ct_l_is_day, sl_l_is_day, rfl, l_l_is_day, c_l_is_day⟩, PySem.W.mg_of X G a_l_is_day, k_l_is_day⟩
  have D_l_is_title : C8.Def K mg "_law_is_title" s_l_is_title f_l_is_title _ := ⟨⟨oc_l_is_title, od_l_is_title, .none, kV_l_is_title, dc_l_is_title, pm_l_is_title, an_l_is_title, cd_l_is_title, ct_l_is_title, sl_l_is_title, rfl, l_l_is_title, c_l_is_title⟩, PySem.W.mg_of X G a_l_is_title, k_l_is_title⟩
  have D_l_is_one : C8.Def K mg "_law_is_one" s_l_is_one f_l_is_one _ := ⟨⟨oc_l_is_one, od_l_is_one, .none, kV_l_is_one, dc_l_is_one, pm_l_is_one, an_l_is_one, cd_l_is_one, ct_l_is_one, sl_l_is_one, rfl, l_l_is_one, c_l_is_one⟩, PySem.W.mg_of X G a_l_is_one, k_l_is_one⟩
  have D_l_due : C8.Def K mg "_law_due" s_l_due f_l_due _ := ⟨⟨oc_l_due, od_l_due, .none, kV_l_due, dc_l_due, pm_l_due, an_l_due, cd_l_due, ct_l_due, sl_l_due, rfl, l_l_due, c_l_due⟩, PySem.W.mg_of X G a_l_due, k_l_due⟩
  have F_law : C8.Fun K "law" "law" s_law fa _ := ⟨oc_law, od_law, .none, kV_law, dc_law, pm_law, an_law, cd_law, ct_law, sl_law, rfl, l_law, c_law⟩
  have T_A_NO_NAMES : ∀ H, SqT K H A_NO_NAMES [.str "any", .str "none", .str "anew", .str "lift", .str "term"] := fun H => .inr ⟨_, _, n_A_NO_NAMES, l_A_NO_NAMES, rfl, rfl, (by show 5 ≤ sizeLine; decide), .cons ⟨_, rfl⟩ (.cons ⟨_, rfl⟩ (.cons ⟨_, rfl⟩ (.cons ⟨_, rfl⟩ (.cons ⟨_, rfl⟩ (.nil)))))⟩
  have m_LETTERS : ∃ u, mg "LETTERS" = some u ∧ RelV (.str "abcdefghijklmnopqrstuvwxyz") u := ⟨_, PySem.W.mg_of X G z_LETTERS, _, rfl⟩
  have m_MOST_LETTERS : ∃ u, mg "MOST_LETTERS" = some u ∧ RelV (.int 4) u := ⟨_, PySem.W.mg_of X G z_MOST_LETTERS, _, rfl⟩
  refine ⟨PySem.W.fnOf "law" "law" (C8.fnArgs s_law) (C8.fnBody s_law) (C8.fnScope s_law) .none kV_law dc_law pm_law an_law cd_law ct_law, fun s v => .of_eq rfl, fun base _ _ => ?_⟩
  have ty_all : ∀ c, ownF c = true → TyOk (Bk K (atOf CTermError CInvalidStory CInvalidUnsure CUnsure)) c := fun c hc => by
    simp only [ownF, Bool.or_eq_true, beq_iff_eq, or_assoc] at hc
    rcases hc with rfl
    · exact ⟨c_CUnsure, ha_CUnsure, hn_cls, ht_cls, hm_CUnsure⟩
  have kb_int : ∀ c, ownF c = true → PySem.W.kitOne K (.ref ((atOf CTermError CInvalidStory CInvalidUnsure CUnsure) c)) (.type "int") = some false := fun c hc => by
    simp only [ownF, Bool.or_eq_true, beq_iff_eq, or_assoc] at hc
    rcases hc with rfl
    · exact k0_CUnsure
  have kb_bool : ∀ c, ownF c = true → PySem.W.kitOne K (.ref ((atOf CTermError CInvalidStory CInvalidUnsure CUnsure) c)) (.type "bool") = some false := fun c hc => by
    simp only [ownF, Bool.or_eq_true, beq_iff_eq, or_assoc] at hc
    rcases hc with rfl
    · exact k1_CUnsure
  have kb_str : ∀ c, ownF c = true → PySem.W.kitOne K (.ref ((atOf CTermError CInvalidStory CInvalidUnsure CUnsure) c)) (.type "str") = some false := fun c hc => by
    simp only [ownF, Bool.or_eq_true, beq_iff_eq, or_assoc] at hc
    rcases hc with rfl
    · exact k2_CUnsure
  have kb_list : ∀ c, ownF c = true → PySem.W.kitOne K (.ref ((atOf CTermError CInvalidStory CInvalidUnsure CUnsure) c)) (.type "list") = some false := fun c hc => by
    simp only [ownF, Bool.or_eq_true, beq_iff_eq, or_assoc] at hc
    rcases hc with rfl
    · exact k3_CUnsure
  have kb_tuple : ∀ c, ownF c = true → PySem.W.kitOne K (.ref ((atOf CTermError CInvalidStory CInvalidUnsure CUnsure) c)) (.type "tuple") = some false := fun c hc => by
    simp only [ownF, Bool.or_eq_true, beq_iff_eq, or_assoc] at hc
    rcases hc with rfl
    · exact k4_CUnsure
  have er_InvalidUnsure := err_InvalidUnsure (P := l.prog) (w := w) (base := base) F_InvalidUnsure_init rfl X_CInvalidUnsure a_InvalidUnsure_init t_InvalidUnsure_init no_CInvalidUnsure (PySem.W.mg_of X G g_CInvalidUnsure)
  have ok_Unsure : ClsOk (Bk K (atOf CTermError CInvalidStory CInvalidUnsure CUnsure)) 3 := ⟨c_CUnsure, (show (nmF 3).Nodup by decide +kernel), fun f hf => N_CUnsure.no f hf, (show (nmF 3).length < 100 by decide +kernel)⟩
  have fn_l_deal := fn_l_deal (P := l.prog) (w := w) (K := K) (mg := mg) (base := base) (at_ := (atOf CTermError CInvalidStory CInvalidUnsure CUnsure)) (N z_abs) (N z_int) D_l_deal.fn
  have cal_l_deal : Ts.CalX l.prog w K mg base 2 "_law_deal" (spM (Bk K (atOf CTermError CInvalidStory CInvalidUnsure CUnsure)) m_l_deal) [] := cal_M (B := (Bk K (atOf CTermError CInvalidStory CInvalidUnsure CUnsure))) fn_l_deal D_l_deal.mgf D_l_deal.kp (C8.Fun.binds D_l_deal.fn rfl (ps := ["_law_script"]) fun _ _ _ _ _ _ us hl => match us, hl with | [_], _ => rfl) .nil
  have fn_l_draw := fn_l_draw (P := l.prog) (w := w) (K := K) (mg := mg) (base := base) (at_ := (atOf CTermError CInvalidStory CInvalidUnsure CUnsure)) (N z_int) D_l_draw.fn
  have cal_l_draw : Ts.CalX l.prog w K mg base 2 "_law_draw" (spM (Bk K (atOf CTermError CInvalidStory CInvalidUnsure CUnsure)) m_l_draw) [] := cal_M (B := (Bk K (atOf CTermError CInvalidStory CInvalidUnsure CUnsure))) fn_l_draw D_l_draw.mgf D_l_draw.kp (C8.Fun.binds D_l_draw.fn rfl (ps := ["_law_deal_here", "_law_many"]) fun _ _ _ _ _ _ us hl => match us, hl with | [_, _], _ => rfl) .nil
  have fn_l_pick := fn_l_pick (P := l.prog) (w := w) (K := K) (mg := mg) (base := base) (at_ := (atOf CTermError CInvalidStory CInvalidUnsure CUnsure)) cal_l_draw (N z_len) D_l_pick.fn
  have cal_l_pick : Ts.CalX l.prog w K mg base 3 "_law_pick" (spM (Bk K (atOf CTermError CInvalidStory CInvalidUnsure CUnsure)) m_l_pick) [] := cal_M (B := (Bk K (atOf CTermError CInvalidStory CInvalidUnsure CUnsure))) fn_l_pick D_l_pick.mgf D_l_pick.kp (C8.Fun.binds D_l_pick.fn rfl (ps := ["_law_deal_here", "_law_some"]) fun _ _ _ _ _ _ us hl => match us, hl with | [_, _], _ => rfl) .nil
  have fn_l_mixed := fn_l_mixed (P := l.prog) (w := w) (K := K) (mg := mg) (base := base) (at_ := (atOf CTermError CInvalidStory CInvalidUnsure CUnsure)) (N z_list) cal_l_draw (N z_len) D_l_mixed.fn
  have cal_l_mixed : Ts.CalX l.prog w K mg base 3 "_law_mixed" (spM (Bk K (atOf CTermError CInvalidStory CInvalidUnsure CUnsure)) m_l_mixed) [] := cal_M (B := (Bk K (atOf CTermError CInvalidStory CInvalidUnsure CUnsure))) fn_l_mixed D_l_mixed.mgf D_l_mixed.kp (C8.Fun.binds D_l_mixed.fn rfl (ps := ["_law_deal_here", "_law_some"]) fun _ _ _ _ _ _ us hl => match us, hl with | [_, _], _ => rfl) .nil
  have fn_l_names := fn_l_names (P := l.prog) (w := w) (K := K) (mg := mg) (base := base) (at_ := (atOf CTermError CInvalidStory CInvalidUnsure CUnsure)) cal_l_mixed D_l_names.fn
  have cal_l_names : Ts.CalX l.prog w K mg base 4 "_law_names" (spM (Bk K (atOf CTermError CInvalidStory CInvalidUnsure CUnsure)) m_l_names) [] := cal_M (B := (Bk K (atOf CTermError CInvalidStory CInvalidUnsure CUnsure))) fn_l_names D_l_names.mgf D_l_names.kp (C8.Fun.binds D_l_names.fn rfl (ps := ["_law_deal_here", "_law_many"]) fun _ _ _ _ _ _ us hl => match us, hl with | [_, _], _ => rfl) .nil
  have fn_l_kind := fn_l_kind (P := l.prog) (w := w) (K := K) (mg := mg) (base := base) (at_ := (atOf CTermError CInvalidStory CInvalidUnsure CUnsure)) cal_l_pick cal_l_draw D_l_kind.fn
  have cal_l_kind : Ts.CalX l.prog w K mg base 4 "_law_kind" (spM (Bk K (atOf CTermError CInvalidStory CInvalidUnsure CUnsure)) m_l_kind) [] := cal_M (B := (Bk K (atOf CTermError CInvalidStory CInvalidUnsure CUnsure))) fn_l_kind D_l_kind.mgf D_l_kind.kp (C8.Fun.binds D_l_kind.fn rfl (ps := ["_law_deal_here", "_law_word", "_law_most"]) fun _ _ _ _ _ _ us hl => match us, hl with | [_, _, _], _ => rfl) .nil
  have fn_l_rule := fn_l_rule (P := l.prog) (w := w) (K := K) (mg := mg) (base := base) (at_ := (atOf CTermError CInvalidStory CInvalidUnsure CUnsure)) cal_l_mixed (N z_list) (N z_range) cal_l_pick (N z_int) (N z_sorted) cal_l_draw cal_l_names cal_l_kind (N z_min) D_l_rule.fn
  have cal_l_rule : Ts.CalX l.prog w K mg base 5 "_law_rule" (spM (Bk K (atOf CTermError CInvalidStory CInvalidUnsure CUnsure)) m_l_rule) [] := cal_M (B := (Bk K (atOf CTermError CInvalidStory CInvalidUnsure CUnsure))) fn_l_rule D_l_rule.mgf D_l_rule.kp (C8.Fun.binds D_l_rule.fn rfl (ps := ["_law_deal_here", "_law_many", "_law_most"]) fun _ _ _ _ _ _ us hl => match us, hl with | [_, _, _], _ => rfl) .nil
  have fn_l_unsure := fn_l_unsure (P := l.prog) (w := w) (K := K) (mg := mg) (base := base) (at_ := (atOf CTermError CInvalidStory CInvalidUnsure CUnsure)) cal_l_draw (N z_range) cal_l_pick D_l_unsure.fn
  have cal_l_unsure : Ts.CalX l.prog w K mg base 4 "_law_unsure" (spM (Bk K (atOf CTermError CInvalidStory CInvalidUnsure CUnsure)) m_l_unsure) [] := cal_M (B := (Bk K (atOf CTermError CInvalidStory CInvalidUnsure CUnsure))) fn_l_unsure D_l_unsure.mgf D_l_unsure.kp (C8.Fun.binds D_l_unsure.fn rfl (ps := ["_law_deal_here", "_law_told", "_law_many", "_law_most"]) fun _ _ _ _ _ _ us hl => match us, hl with | [_, _, _, _], _ => rfl) .nil
  have fn_is_sequence := fn_is_sequence (P := l.prog) (w := w) (K := K) (mg := mg) (base := base) (at_ := (atOf CTermError CInvalidStory CInvalidUnsure CUnsure)) (N z_isinstance) (N z_list) (N z_tuple) ty_all kb_list kb_tuple D_is_sequence.fn
  have cal_is_sequence : Ts.CalX l.prog w K mg base 2 "is_sequence" (spM (Bk K (atOf CTermError CInvalidStory CInvalidUnsure CUnsure)) m_is_sequence) [] := cal_M (B := (Bk K (atOf CTermError CInvalidStory CInvalidUnsure CUnsure))) fn_is_sequence D_is_sequence.mgf D_is_sequence.kp (C8.Fun.binds D_is_sequence.fn rfl (ps := ["value"]) fun _ _ _ _ _ _ us hl => match us, hl with | [_], _ => rfl) .nil
  have fn_is_integer := fn_is_integer (P := l.prog) (w := w) (K := K) (mg := mg) (base := base) (at_ := (atOf CTermError CInvalidStory CInvalidUnsure CUnsure)) (N z_isinstance) (N z_bool) ty_all kb_bool (N z_int) kb_int D_is_integer.fn
  have cal_is_integer : Ts.CalX l.prog w K mg base 2 "is_integer" (spM (Bk K (atOf CTermError CInvalidStory CInvalidUnsure CUnsure)) m_is_integer) [] := cal_M (B := (Bk K (atOf CTermError CInvalidStory CInvalidUnsure CUnsure))) fn_is_integer D_is_integer.mgf D_is_integer.kp (C8.Fun.binds D_is_integer.fn rfl (ps := ["value"]) fun _ _ _ _ _ _ us hl => match us, hl with | [_], _ => rfl) .nil
  have fn_is_number := fn_is_number (P := l.prog) (w := w) (K := K) (mg := mg) (base := base) (at_ := (atOf CTermError CInvalidStory CInvalidUnsure CUnsure)) cal_is_integer D_is_number.fn
  have cal_is_number : Ts.CalX l.prog w K mg base 3 "is_number" (spM (Bk K (atOf CTermError CInvalidStory CInvalidUnsure CUnsure)) m_is_number) [] := cal_M (B := (Bk K (atOf CTermError CInvalidStory CInvalidUnsure CUnsure))) fn_is_number D_is_number.mgf D_is_number.kp (C8.Fun.binds D_is_number.fn rfl (ps := ["value"]) fun _ _ _ _ _ _ us hl => match us, hl with | [_], _ => rfl) .nil
  have fn_is_name := fn_is_name (P := l.prog) (w := w) (K := K) (mg := mg) (base := base) (at_ := (atOf CTermError CInvalidStory CInvalidUnsure CUnsure)) (PySem.W.mg_of X G g_A_NO_NAMES) T_A_NO_NAMES (N z_isinstance) (N z_str) ty_all kb_str m_LETTERS (N z_all) (N z_len) m_MOST_LETTERS D_is_name.fn
  have cal_is_name : Ts.CalX l.prog w K mg base 2 "is_name" (spM (Bk K (atOf CTermError CInvalidStory CInvalidUnsure CUnsure)) m_is_name) [] := cal_M (B := (Bk K (atOf CTermError CInvalidStory CInvalidUnsure CUnsure))) fn_is_name D_is_name.mgf D_is_name.kp (C8.Fun.binds D_is_name.fn rfl (ps := ["value"]) fun _ _ _ _ _ _ us hl => match us, hl with | [_], _ => rfl) .nil
  have fn_is_count := fn_is_count (P := l.prog) (w := w) (K := K) (mg := mg) (base := base) (at_ := (atOf CTermError CInvalidStory CInvalidUnsure CUnsure)) cal_is_integer D_is_count.fn
  have cal_is_count : Ts.CalX l.prog w K mg base 3 "is_count" (spM (Bk K (atOf CTermError CInvalidStory CInvalidUnsure CUnsure)) m_is_count) [] := cal_M (B := (Bk K (atOf CTermError CInvalidStory CInvalidUnsure CUnsure))) fn_is_count D_is_count.mgf D_is_count.kp (C8.Fun.binds D_is_count.fn rfl (ps := ["value"]) fun _ _ _ _ _ _ us hl => match us, hl with | [_], _ => rfl) .nil
  have fn_is_unsure := fn_is_unsure (P := l.prog) (w := w) (K := K) (mg := mg) (base := base) (at_ := (atOf CTermError CInvalidStory CInvalidUnsure CUnsure)) (N z_len) (N z_isinstance) (N z_tuple) ty_all kb_tuple cal_is_count cal_is_name cal_is_number D_is_unsure.fn
  have cal_is_unsure : Ts.CalX l.prog w K mg base 4 "is_unsure" (spM (Bk K (atOf CTermError CInvalidStory CInvalidUnsure CUnsure)) m_is_unsure) [] := cal_M (B := (Bk K (atOf CTermError CInvalidStory CInvalidUnsure CUnsure))) fn_is_unsure D_is_unsure.mgf D_is_unsure.kp (C8.Fun.binds D_is_unsure.fn rfl (ps := ["value"]) fun _ _ _ _ _ _ us hl => match us, hl with | [_], _ => rfl) .nil
  have fn_Unsure_init := fn_Unsure_init (P := l.prog) (w := w) (K := K) (mg := mg) (base := base) (at_ := (atOf CTermError CInvalidStory CInvalidUnsure CUnsure)) cal_is_sequence er_InvalidUnsure (N z_enumerate) cal_is_unsure (N z_tuple) ok_Unsure F_Unsure_init
  have mk_Unsure : Ts.MakX l.prog w K mg base 5 "Unsure" CUnsure (spM (Bk K (atOf CTermError CInvalidStory CInvalidUnsure CUnsure)) m_Unsure_init) [] := mak_M (B := (Bk K (atOf CTermError CInvalidStory CInvalidUnsure CUnsure))) (c := 3) (x := "Unsure") ⟨mk_CUnsure, a_Unsure_init, i_Unsure_init, kc_CUnsure⟩ fn_Unsure_init (PySem.W.mg_of X G g_CUnsure) (C8.Fun.binds F_Unsure_init rfl (ps := ["self", "occasions"]) fun _ _ _ _ _ _ us hl => match us, hl with | [_, _], _ => rfl) .nil
  have fn_l_any_0 := fn_l_any_0 (P := l.prog) (w := w) (K := K) (mg := mg) (base := base) (at_ := (atOf CTermError CInvalidStory CInvalidUnsure CUnsure)) D_l_any.fn
  have cal_l_any_0 : Ts.CalX l.prog w K mg base 3 "_law_any" (spM (Bk K (atOf CTermError CInvalidStory CInvalidUnsure CUnsure)) (m_l_any 0)) [] := cal_M (B := (Bk K (atOf CTermError CInvalidStory CInvalidUnsure CUnsure))) fn_l_any_0 D_l_any.mgf D_l_any.kp (C8.Fun.binds D_l_any.fn rfl (ps := ["_law_deal_here", "_law_deep"]) fun _ _ _ _ _ _ us hl => match us, hl with | [_, _], _ => rfl) .nil
  have fn_l_any_1 := fn_l_any (P := l.prog) (w := w) (K := K) (mg := mg) (base := base) (at_ := (atOf CTermError CInvalidStory CInvalidUnsure CUnsure)) (r := m_l_any 0) (v := 3) (by decide) cal_l_draw (N z_range) (N z_tuple) cal_l_pick cal_l_any_0 D_l_any.fn
  have cal_l_any_1 : Ts.CalX l.prog w K mg base 4 "_law_any" (spM (Bk K (atOf CTermError CInvalidStory CInvalidUnsure CUnsure)) (m_l_any 1)) [] := cal_M (B := (Bk K (atOf CTermError CInvalidStory CInvalidUnsure CUnsure))) fn_l_any_1 D_l_any.mgf D_l_any.kp (C8.Fun.binds D_l_any.fn rfl (ps := ["_law_deal_here", "_law_deep"]) fun _ _ _ _ _ _ us hl => match us, hl with | [_, _], _ => rfl) .nil
  have fn_l_any_2 := fn_l_any (P := l.prog) (w := w) (K := K) (mg := mg) (base := base) (at_ := (atOf CTermError CInvalidStory CInvalidUnsure CUnsure)) (r := m_l_any 1) (v := 4) (by decide) cal_l_draw (N z_range) (N z_tuple) cal_l_pick cal_l_any_1 D_l_any.fn
  have cal_l_any_2 : Ts.CalX l.prog w K mg base 5 "_law_any" (spM (Bk K (atOf CTermError CInvalidStory CInvalidUnsure CUnsure)) (m_l_any 2)) [] := cal_M (B := (Bk K (atOf CTermError CInvalidStory CInvalidUnsure CUnsure))) fn_l_any_2 D_l_any.mgf D_l_any.kp (C8.Fun.binds D_l_any.fn rfl (ps := ["_law_deal_here", "_law_deep"]) fun _ _ _ _ _ _ us hl => match us, hl with | [_, _], _ => rfl) .nil
  have fn_l_any_3 := fn_l_any (P := l.prog) (w := w) (K := K) (mg := mg) (base := base) (at_ := (atOf CTermError CInvalidStory CInvalidUnsure CUnsure)) (r := m_l_any 2) (v := 5) (by decide) cal_l_draw (N z_range) (N z_tuple) cal_l_pick cal_l_any_2 D_l_any.fn
  have cal_l_any_3 : Ts.CalX l.prog w K mg base 6 "_law_any" (spM (Bk K (atOf CTermError CInvalidStory CInvalidUnsure CUnsure)) (m_l_any 3)) [] := cal_M (B := (Bk K (atOf CTermError CInvalidStory CInvalidUnsure CUnsure))) fn_l_any_3 D_l_any.mgf D_l_any.kp (C8.Fun.binds D_l_any.fn rfl (ps := ["_law_deal_here", "_law_deep"]) fun _ _ _ _ _ _ us hl => match us, hl with | [_, _], _ => rfl) .nil
  have fn_l_any_4 := fn_l_any (P := l.prog) (w := w) (K := K) (mg := mg) (base := base) (at_ := (atOf CTermError CInvalidStory CInvalidUnsure CUnsure)) (r := m_l_any 3) (v := 6) (by decide) cal_l_draw (N z_range) (N z_tuple) cal_l_pick cal_l_any_3 D_l_any.fn
  have cal_l_any_4 : Ts.CalX l.prog w K mg base 7 "_law_any" (spM (Bk K (atOf CTermError CInvalidStory CInvalidUnsure CUnsure)) (m_l_any 4)) [] := cal_M (B := (Bk K (atOf CTermError CInvalidStory CInvalidUnsure CUnsure))) fn_l_any_4 D_l_any.mgf D_l_any.kp (C8.Fun.binds D_l_any.fn rfl (ps := ["_law_deal_here", "_law_deep"]) fun _ _ _ _ _ _ us hl => match us, hl with | [_, _], _ => rfl) .nil
  have fn_l_any_5 := fn_l_any (P := l.prog) (w := w) (K := K) (mg := mg) (base := base) (at_ := (atOf CTermError CInvalidStory CInvalidUnsure CUnsure)) (r := m_l_any 4) (v := 7) (by decide) cal_l_draw (N z_range) (N z_tuple) cal_l_pick cal_l_any_4 D_l_any.fn
  have cal_l_any_5 : Ts.CalX l.prog w K mg base 8 "_law_any" (spM (Bk K (atOf CTermError CInvalidStory CInvalidUnsure CUnsure)) (m_l_any 5)) [] := cal_M (B := (Bk K (atOf CTermError CInvalidStory CInvalidUnsure CUnsure))) fn_l_any_5 D_l_any.mgf D_l_any.kp (C8.Fun.binds D_l_any.fn rfl (ps := ["_law_deal_here", "_law_deep"]) fun _ _ _ _ _ _ us hl => match us, hl with | [_, _], _ => rfl) .nil
  have fn_l_any_6 := fn_l_any (P := l.prog) (w := w) (K := K) (mg := mg) (base := base) (at_ := (atOf CTermError CInvalidStory CInvalidUnsure CUnsure)) (r := m_l_any 5) (v := 8) (by decide) cal_l_draw (N z_range) (N z_tuple) cal_l_pick cal_l_any_5 D_l_any.fn
  have cal_l_any_6 : Ts.CalX l.prog w K mg base 9 "_law_any" (spM (Bk K (atOf CTermError CInvalidStory CInvalidUnsure CUnsure)) (m_l_any 6)) [] := cal_M (B := (Bk K (atOf CTermError CInvalidStory CInvalidUnsure CUnsure))) fn_l_any_6 D_l_any.mgf D_l_any.kp (C8.Fun.binds D_l_any.fn rfl (ps := ["_law_deal_here", "_law_deep"]) fun _ _ _ _ _ _ us hl => match us, hl with | [_, _], _ => rfl) .nil
  have fn_l_any_7 := fn_l_any (P := l.prog) (w := w) (K := K) (mg := mg) (base := base) (at_ := (atOf CTermError CInvalidStory CInvalidUnsure CUnsure)) (r := m_l_any 6) (v := 9) (by decide) cal_l_draw (N z_range) (N z_tuple) cal_l_pick cal_l_any_6 D_l_any.fn
  have cal_l_any_7 : Ts.CalX l.prog w K mg base 10 "_law_any" (spM (Bk K (atOf CTermError CInvalidStory CInvalidUnsure CUnsure)) (m_l_any 7)) [] := cal_M (B := (Bk K (atOf CTermError CInvalidStory CInvalidUnsure CUnsure))) fn_l_any_7 D_l_any.mgf D_l_any.kp (C8.Fun.binds D_l_any.fn rfl (ps := ["_law_deal_here", "_law_deep"]) fun _ _ _ _ _ _ us hl => match us, hl with | [_, _], _ => rfl) .nil
  have fn_l_any_8 := fn_l_any (P := l.prog) (w := w) (K := K) (mg := mg) (base := base) (at_ := (atOf CTermError CInvalidStory CInvalidUnsure CUnsure)) (r := m_l_any 7) (v := 10) (by decide) cal_l_draw (N z_range) (N z_tuple) cal_l_pick cal_l_any_7 D_l_any.fn
  have cal_l_any_8 : Ts.CalX l.prog w K mg base 11 "_law_any" (spM (Bk K (atOf CTermError CInvalidStory CInvalidUnsure CUnsure)) (m_l_any 8)) [] := cal_M (B := (Bk K (atOf CTermError CInvalidStory CInvalidUnsure CUnsure))) fn_l_any_8 D_l_any.mgf D_l_any.kp (C8.Fun.binds D_l_any.fn rfl (ps := ["_law_deal_here", "_law_deep"]) fun _ _ _ _ _ _ us hl => match us, hl with | [_, _], _ => rfl) .nil
  have cal_l_any := cal_l_any_8
  have fn_l_heard := fn_l_heard (P := l.prog) (w := w) (K := K) (mg := mg) (base := base) (at_ := (atOf CTermError CInvalidStory CInvalidUnsure CUnsure)) (PySem.W.mg_of X G g_CInvalidUnsure) te_CInvalidUnsure mk_Unsure (N z_isinstance) EC_CInvalidUnsure (PySem.W.mg_of X G g_CTermError) xk_InvalidUnsure__TermError (PySem.W.mg_of X G g_CInvalidStory) xk_InvalidUnsure__InvalidStory XF_CInvalidUnsure no_CInvalidUnsure D_l_heard.fn
  have cal_l_heard : Ts.CalX l.prog w K mg base 7 "_law_heard" (spM (Bk K (atOf CTermError CInvalidStory CInvalidUnsure CUnsure)) m_l_heard) [] := cal_M (B := (Bk K (atOf CTermError CInvalidStory CInvalidUnsure CUnsure))) fn_l_heard D_l_heard.mgf D_l_heard.kp (C8.Fun.binds D_l_heard.fn rfl (ps := ["_law_value"]) fun _ _ _ _ _ _ us hl => match us, hl with | [_], _ => rfl) .nil
  have fn_l_is_day := fn_l_is_day (P := l.prog) (w := w) (K := K) (mg := mg) (base := base) (at_ := (atOf CTermError CInvalidStory CInvalidUnsure CUnsure)) (N z_isinstance) (N z_bool) ty_all kb_bool (N z_int) kb_int D_l_is_day.fn
  have cal_l_is_day : Ts.CalX l.prog w K mg base 2 "_law_is_day" (spM (Bk K (atOf CTermError CInvalidStory CInvalidUnsure CUnsure)) m_l_is_day) [] := cal_M (B := (Bk K (atOf CTermError CInvalidStory CInvalidUnsure CUnsure))) fn_l_is_day D_l_is_day.mgf D_l_is_day.kp (C8.Fun.binds D_l_is_day.fn rfl (ps := ["_law_value", "_law_low"]) fun _ _ _ _ _ _ us hl => match us, hl with | [_, _], _ => rfl) .nil
  have fn_l_is_title := fn_l_is_title (P := l.prog) (w := w) (K := K) (mg := mg) (base := base) (at_ := (atOf CTermError CInvalidStory CInvalidUnsure CUnsure)) (N z_len) (N z_isinstance) (N z_str) ty_all kb_str D_l_is_title.fn
  have cal_l_is_title : Ts.CalX l.prog w K mg base 2 "_law_is_title" (spM (Bk K (atOf CTermError CInvalidStory CInvalidUnsure CUnsure)) m_l_is_title) [] := cal_M (B := (Bk K (atOf CTermError CInvalidStory CInvalidUnsure CUnsure))) fn_l_is_title D_l_is_title.mgf D_l_is_title.kp (C8.Fun.binds D_l_is_title.fn rfl (ps := ["_law_value"]) fun _ _ _ _ _ _ us hl => match us, hl with | [_], _ => rfl) .nil
  have fn_l_is_one := fn_l_is_one (P := l.prog) (w := w) (K := K) (mg := mg) (base := base) (at_ := (atOf CTermError CInvalidStory CInvalidUnsure CUnsure)) cal_l_is_day cal_l_is_title (N z_len) (N z_isinstance) (N z_tuple) ty_all kb_tuple D_l_is_one.fn
  have cal_l_is_one : Ts.CalX l.prog w K mg base 3 "_law_is_one" (spM (Bk K (atOf CTermError CInvalidStory CInvalidUnsure CUnsure)) m_l_is_one) [] := cal_M (B := (Bk K (atOf CTermError CInvalidStory CInvalidUnsure CUnsure))) fn_l_is_one D_l_is_one.mgf D_l_is_one.kp (C8.Fun.binds D_l_is_one.fn rfl (ps := ["_law_value"]) fun _ _ _ _ _ _ us hl => match us, hl with | [_], _ => rfl) .nil
  have fn_l_due := fn_l_due (P := l.prog) (w := w) (K := K) (mg := mg) (base := base) (at_ := (atOf CTermError CInvalidStory CInvalidUnsure CUnsure)) (N z_isinstance) (N z_list) (N z_tuple) ty_all kb_list kb_tuple (N z_enumerate) cal_l_is_one D_l_due.fn
  have cal_l_due : Ts.CalX l.prog w K mg base 4 "_law_due" (spM (Bk K (atOf CTermError CInvalidStory CInvalidUnsure CUnsure)) m_l_due) [] := cal_M (B := (Bk K (atOf CTermError CInvalidStory CInvalidUnsure CUnsure))) fn_l_due D_l_due.mgf D_l_due.kp (C8.Fun.binds D_l_due.fn rfl (ps := ["_law_value"]) fun _ _ _ _ _ _ us hl => match us, hl with | [_], _ => rfl) .nil
  exact fn_law_ (P := l.prog) (w := w) (K := K) (mg := mg) (base := base) (at_ := (atOf CTermError CInvalidStory CInvalidUnsure CUnsure)) cal_l_deal (N z_range) cal_l_rule cal_l_unsure (N z_list) mk_Unsure (N z_tuple) ok_Unsure (N z_repr) cal_l_draw (N z_len) cal_l_pick cal_l_heard cal_l_any cal_l_due F_law law_true
theorem walk {l : PySem.W.OpenLaw} {q : Program} {loose : List Str} {XP : (Str → Option Value) → Heap → Prop} {YP : World → Heap → Prop} {d : DefRec} {K : Params → PySem.W.Frag} (hn : l.most = some 63) (hdf : d.params.defaults = [])
    (hY : ∀ (w : World) (h : Heap), YP w h → (K w.params).In h)
    (F : ∀ (w : World) (mg : Str → Option Value) (fa : Addr) (h : Heap), (K w.params).In h → h.Ns mainGlobals mg → mg d.name = some (.ref fa) →
      ∃ fd : FuncData, (∀ (s : Shared) (u : Value), BindsTo s fd ⟨[u], []⟩ [("_law_script", u)]) ∧ ∀ base : Heap, (K w.params).In base → base.Ns mainGlobals mg → TvG.RunAt l.prog w (K w.params) mg base C8.CX0 callerA fa fd ["_law_script"] (spLaw (K w.params))) :
    PySem.W.WalkO q loose XP YP l.row.toRowW d [] (fun f vs => PySem.call f vs) :=
  TvG.walk_at (n := 63) (x := "_law_script") (CX := fun _ => C8.CX0) (sp := fun w => Tv.spLaw (K w.params)) hn (by decide) hdf hY F (fun _ _ a ns hl _ hS => ⟨a, ns, rfl, hS, hl, fun _ => rfl⟩) fun _ _ _ _ _ z => z
end Tv
open PySem PySem.W PyProof.Rows
set_option maxRecDepth 100000 in
set_option maxHeartbeats 0 in
theorem PySem.Challenge.cw_termstill_k48_unsure_occasions_made_holds : PySem.Challenge.rw_termstill_k48_unsure_occasions_made.Holds := by
  w_on; o_law; k_head; (case hw => w_witness2)
  k_fill
  refine Tv.walk (l := PySem.Challenge.rw_termstill_k48_unsure_occasions_made) rfl rfl (fun w h Y => PySem.W.kIn_of Y) ?F
  case F =>
    intro w mg fa h KX G hmg
    refine' Tv.all_mk KX G hmg ?g_CUnsure ?pg_CUnsure ?hd_CUnsure ?po_CUnsure ?sa_CUnsure ?mk_CUnsure ?kc_CUnsure ?n_CUnsure_occasions ?ha_CUnsure ?hn_cls ?ht_cls ?hm_CUnsure ?k0_CUnsure ?k1_CUnsure ?k2_CUnsure ?k3_CUnsure ?k4_CUnsure ?g_CTermError ?g_CInvalidStory ?g_CInvalidUnsure ?l_CInvalidUnsure ?sa_CInvalidUnsure ?ex_CInvalidUnsure ?ty_CInvalidUnsure ?kc_CInvalidUnsure ?a_InvalidUnsure_init ?t_InvalidUnsure_init ?l_InvalidUnsure_init ?c_InvalidUnsure_init ?no_CInvalidUnsure ?ga_CInvalidUnsure ?gg_CInvalidUnsure ?hd_CInvalidUnsure ?ha_CInvalidUnsure ?hm_CInvalidUnsure ?su_CInvalidUnsure ?xk_InvalidUnsure__TermError ?xk_InvalidUnsure__InvalidStory ?a_l_deal ?l_l_deal ?c_l_deal ?k_l_deal ?a_l_draw ?l_l_draw ?c_l_draw ?k_l_draw ?a_l_pick ?l_l_pick ?c_l_pick ?k_l_pick ?a_l_mixed ?l_l_mixed ?c_l_mixed ?k_l_mixed ?a_l_names ?l_l_names ?c_l_names ?k_l_names ?a_l_kind ?l_l_kind ?c_l_kind ?k_l_kind ?a_l_rule ?l_l_rule ?c_l_rule ?k_l_rule ?a_l_unsure ?l_l_unsure ?c_l_unsure ?k_l_unsure ?a_is_sequence ?l_is_sequence ?c_is_sequence ?k_is_sequence ?a_is_integer ?l_is_integer ?c_is_integer ?k_is_integer ?a_is_number ?l_is_number ?c_is_number ?k_is_number ?a_is_name ?l_is_name ?c_is_name ?k_is_name ?a_is_count ?l_is_count ?c_is_count ?k_is_count ?a_is_unsure ?l_is_unsure ?c_is_unsure ?k_is_unsure ?a_Unsure_init ?i_Unsure_init ?l_Unsure_init ?c_Unsure_init ?k_Unsure_init ?a_l_any ?l_l_any ?c_l_any ?k_l_any ?a_l_heard ?l_l_heard ?c_l_heard ?k_l_heard ?a_l_is_day ?l_l_is_day ?c_l_is_day ?k_l_is_day ?a_l_is_title ?l_l_is_title ?c_l_is_title ?k_l_is_title ?a_l_is_one ?l_l_is_one ?c_l_is_one ?k_l_is_one ?a_l_due ?l_l_due ?c_l_due ?k_l_due ?a_law ?l_law ?c_law ?k_law ?g_A_NO_NAMES ?l_A_NO_NAMES ?z_LETTERS ?z_MOST_LETTERS ?z_abs ?z_int ?z_len ?z_list ?z_range ?z_sorted ?z_min ?z_isinstance ?z_tuple ?z_bool ?z_str ?z_all ?z_enumerate ?z_repr
    (case g_CUnsure => k_is)
    (case pg_CUnsure => k_is)
    (case hd_CUnsure => k_is)
    (case po_CUnsure => k_is)
    (case sa_CUnsure => k_is)
    (case mk_CUnsure => k_is)
    (case kc_CUnsure => k_is)
    (case n_CUnsure_occasions => k_is)
    (case ha_CUnsure => k_is)
    (case hn_cls => k_is)
    (case ht_cls => k_is)
    (case hm_CUnsure => k_is)
    (case k0_CUnsure => (first | kit_is | k_is))
    (case k1_CUnsure => (first | kit_is | k_is))
    (case k2_CUnsure => (first | kit_is | k_is))
    (case k3_CUnsure => (first | kit_is | k_is))
    (case k4_CUnsure => (first | kit_is | k_is))
    (case g_CTermError => k_is)
    (case g_CInvalidStory => k_is)
    (case g_CInvalidUnsure => k_is)
    (case l_CInvalidUnsure => k_is)
    (case sa_CInvalidUnsure => k_is)
    (case ex_CInvalidUnsure => k_is)
    (case ty_CInvalidUnsure => k_is)
    (case kc_CInvalidUnsure => k_is)
    (case a_InvalidUnsure_init => k_is)
    (case t_InvalidUnsure_init => k_is)
    (case l_InvalidUnsure_init => k_is)
    (case c_InvalidUnsure_init => k_is)
    (case no_CInvalidUnsure => k_is)
    (case ga_CInvalidUnsure => k_is)
    (case gg_CInvalidUnsure => k_is)
    (case hd_CInvalidUnsure => k_is)
    (case ha_CInvalidUnsure => k_is)
    (case hm_CInvalidUnsure => k_is)
    (case su_CInvalidUnsure => k_is)
    (case xk_InvalidUnsure__TermError => (first | kit_is | k_is))
    (case xk_InvalidUnsure__InvalidStory => (first | kit_is | k_is))
    (case a_l_deal => k_is)
    (case l_l_deal => k_is)
    (case c_l_deal => k_is)
    (case k_l_deal => k_is)
    (case a_l_draw => k_is)
    (case l_l_draw => k_is)
    (case c_l_draw => k_is)
    (case k_l_draw => k_is)
    (case a_l_pick => k_is)
    (case l_l_pick => k_is)
    (case c_l_pick => k_is)
    (case k_l_pick => k_is)
    (case a_l_mixed => k_is)
    (case l_l_mixed => k_is)
    (case c_l_mixed => k_is)
    (case k_l_mixed => k_is)
    (case a_l_names => k_is)
    (case l_l_names => k_is)
    (case c_l_names => k_is)
    (case k_l_names => k_is)
    (case a_l_kind => k_is)
    (case l_l_kind => k_is)
    (case c_l_kind => k_is)
    (case k_l_kind => k_is)
    (case a_l_rule => k_is)
    (case l_l_rule => k_is)
    (case c_l_rule => k_is)
    (case k_l_rule => k_is)
    (case a_l_unsure => k_is)
    (case l_l_unsure => k_is)
    (case c_l_unsure => k_is)
    (case k_l_unsure => k_is)
    (case a_is_sequence => k_is)
    (case l_is_sequence => k_is)
    (case c_is_sequence => k_is)
    (case k_is_sequence => k_is)
    (case a_is_integer => k_is)
    (case l_is_integer => k_is)
    (case c_is_integer => k_is)
    (case k_is_integer => k_is)
    (case a_is_number => k_is)
    (case l_is_number => k_is)
    (case c_is_number => k_is)
    (case k_is_number => k_is)
    (case a_is_name => k_is)
    (case l_is_name => k_is)
    (case c_is_name => k_is)
    (case k_is_name => k_is)
    (case a_is_count => k_is)
    (case l_is_count => k_is)
    (case c_is_count => k_is)
    (case k_is_count => k_is)
    (case a_is_unsure => k_is)
    (case l_is_unsure => k_is)
    (case c_is_unsure => k_is)
    (case k_is_unsure => k_is)
    (case a_Unsure_init => k_is)
    (case i_Unsure_init => k_is)
    (case l_Unsure_init => k_is)
    (case c_Unsure_init => k_is)
    (case k_Unsure_init => k_is)
    (case a_l_any => k_is)
    (case l_l_any => k_is)
    (case c_l_any => k_is)
    (case k_l_any => k_is)
    (case a_l_heard => k_is)
    (case l_l_heard => k_is)
    (case c_l_heard => k_is)
    (case k_l_heard => k_is)
    (case a_l_is_day => k_is)
    (case l_l_is_day => k_is)
    (case c_l_is_day => k_is)
    (case k_l_is_day => k_is)
    (case a_l_is_title => k_is)
    (case l_l_is_title => k_is)
    (case c_l_is_title => k_is)
    (case k_l_is_title => k_is)
    (case a_l_is_one => k_is)
    (case l_l_is_one => k_is)
    (case c_l_is_one => k_is)
    (case k_l_is_one => k_is)
    (case a_l_due => k_is)
    (case l_l_due => k_is)
    (case c_l_due => k_is)
    (case k_l_due => k_is)
    (case a_law => k_is)
    (case l_law => k_is)
    (case c_law => k_is)
    (case k_law => k_is)
    (case g_A_NO_NAMES => k_is)
    (case l_A_NO_NAMES => k_is)
    (case z_LETTERS => k_is)
    (case z_MOST_LETTERS => k_is)
    (case z_abs => k_is)
    (case z_int => k_is)
    (case z_len => k_is)
    (case z_list => k_is)
    (case z_range => k_is)
    (case z_sorted => k_is)
    (case z_min => k_is)
    (case z_isinstance => k_is)
    (case z_tuple => k_is)
    (case z_bool => k_is)
    (case z_str => k_is)
    (case z_all => k_is)
    (case z_enumerate => k_is)
    (case z_repr => k_is)

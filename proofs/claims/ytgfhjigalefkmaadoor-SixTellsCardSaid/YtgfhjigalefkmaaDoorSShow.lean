/-
  Show(p).
-/
import Derived.Test.YtgfhjigalefkmaaDoorSJoin
import Derived.Deep.RegionWith
import Derived.BigQuiet
namespace Go.Proofs.YtgfhjigalefkmaaDoor.Six
open Go.RowKit
set_option linter.unusedSimpArgs false
set_option linter.unusedVariables false

theorem cut8_all (g : Nat) (w : World) : (Instr.sliceAt 22 (.pointer (some ⟨g, 0, none⟩)) none none none).run Tryd.prog w = .ok (.slice (some ⟨g, 0, none⟩) 8 8) w := by
  have hl : Tryd.prog.arrayLen 22 = 8 := by kernel_rfl
  rw [run_sliceAt_array_all w 22 _ (by kernel_rfl), hl]
  have hs : (sizeOf (Tryd.prog.elem 22)).run Tryd.prog w = .ok 1 w := by kernel_rfl
  rw [hs]
  simp [slicedAt, Result.andThen, Addr.add]
theorem cut8_to (g k : Nat) (h : k ≤ 8) (w : World) : (Instr.sliceAt 22 (.pointer (some ⟨g, 0, none⟩)) none (some (.int .i64 k)) none).run Tryd.prog w = .ok (.slice (some ⟨g, 0, none⟩) k 8) w := by
  have hl : Tryd.prog.arrayLen 22 = 8 := by kernel_rfl
  rw [run_sliceAt_array_h w 22 _ (by kernel_rfl) .i64 k (by omega) (by rw [hl]; omega), hl]
  have hs : (sizeOf (Tryd.prog.elem 22)).run Tryd.prog w = .ok 1 w := by kernel_rfl
  rw [hs]
  simp [slicedAt, Result.andThen, Addr.add]
/-- Where a slice from place k on begins. -/
def offOf (k : Nat) : Nat := if k = 8 then 0 else k
theorem cut8_from (g k : Nat) (h : k ≤ 8) (w : World) : (Instr.sliceAt 22 (.pointer (some ⟨g, 0, none⟩)) (some (.int .i64 k)) none none).run Tryd.prog w = .ok (.slice (some ⟨g, offOf k, none⟩) (8 - k) (8 - k)) w := by
  have hl : Tryd.prog.arrayLen 22 = 8 := by kernel_rfl
  rw [run_sliceAt_array_l w 22 _ (by kernel_rfl) .i64 k (by omega) (by rw [hl]; omega), hl]
  have hs : (sizeOf (Tryd.prog.elem 22)).run Tryd.prog w = .ok 1 w := by kernel_rfl
  rw [hs]
  unfold offOf
  by_cases h8 : k = 8
  · subst h8; simp [slicedAt, Result.andThen, Addr.add]
  · have h2 : ¬ 8 = k := fun e => h8 e.symm
    simp [slicedAt, Result.andThen, h2, h8, Addr.add]
    intro h0
    rw [h0]
theorem may_any (p : List Int) (h8 : p.length = 8) (b : Bool) (hb : mayP p = b) (w : World) : Calls Tryd.prog 15 #[.agg (arr p)] w fun e w' => e = .returned (.bool b) ∧ Below w.heap.size w w' := by
  subst hb
  match p, h8 with
  | [a0, a1, a2, a3, a4, a5, a6, a7], _ => exact may_in a0 a1 a2 a3 a4 a5 a6 a7 w
theorem join_row (p q : List Int) (hm : mayP p = true) (g o : Nat) (cap : Nat) (m : Int) (w : World) (hat : At m w) (h : RowAt w g q) (hq : ∀ j (h : j < p.length), q[o + j]? = some p[j]) (hp : p.length ≤ 8) (x : ByteArray) (hx : (⟨(joinC (texts p)).toArray⟩ : ByteArray) = x) (n : Nat) (hn : p.length = n) :
    Calls Tryd.prog 24 #[.slice (some ⟨g, o, none⟩) n cap] w fun e W' => e = .returned (.string x) ∧ Below w.heap.size w W' := by
  subst hx; subst hn
  refine join_any p hp hm g o cap m w hat h.lt fun j hj => ?_
  obtain ⟨h1, h2⟩ := List.getElem?_eq_some_iff.1 (hq j hj)
  rw [h.cell _ h1, h2]
theorem may_take (p : List Int) (k : Nat) (h : mayP p = true) : mayP (p.take k) = true := all_take _ _ _ h
theorem may_drop (p : List Int) (k : Nat) (h : mayP p = true) : mayP (p.drop k) = true := all_drop _ _ _ h
theorem texts_take (p : List Int) (k : Nat) : texts (p.take k) = (texts p).take k := by simp [texts, List.map_take]
theorem texts_drop (p : List Int) (k : Nat) : texts (p.drop k) = (texts p).drop k := by simp [texts, List.map_drop]
theorem showNo (p : List Int) (h8 : p.length = 8) (hm : mayP p = false) (w : World) : Calls Tryd.prog 16 #[.agg (arr p)] w fun e W' => e = .returned (.string ⟨#[]⟩) ∧ Below w.heap.size w W' := by
  have HB := Lib.hid (show Below w.heap.size w (w.alloc (.cells (arr p) 22)) from (Below.refl _ w).alloc (Nat.le_refl _) _)
  have HR := Lib.hid (RowAt.new w p)
  have H8 := Lib.hid h8
  have HM := Lib.hid hm
  clear h8 hm
  go_enter Tryd.func16, Tryd.ntmps16
  go_wp2_with (first | refine wp_load22 rfl _ rfl _ rfl p H8.out HR.out ?_ | (go_at_call 15; refine (may_any p H8.out false HM.out _).mono ?_; rintro e w2 ⟨rfl, hB2⟩))
  go_ret
  exact ⟨rfl, HB.out.trans (hB2.mono HB.out.size)⟩
set_option maxRecDepth 100000 in
set_option maxHeartbeats 2000000 in
theorem showFull (p : List Int) (h8 : p.length = 8) (hm : mayP p = true) (hr : (runP p).2 = 0) (m : Int) (w : World) (hat : At m w) : Calls Tryd.prog 16 #[.agg (arr p)] w fun e W' => e = .returned (.string ⟨(joinC (texts p)).toArray⟩) ∧ Below w.heap.size w W' := by
  have HB := Lib.hid (show Below w.heap.size w (w.alloc (.cells (arr p) 22)) from (Below.refl _ w).alloc (Nat.le_refl _) _)
  have HR := Lib.hid (RowAt.new w p)
  have HA := Lib.hid (hat.later HB.out)
  have H8 := Lib.hid h8
  have HM := Lib.hid hm
  obtain ⟨x, hx⟩ : ∃ x : ByteArray, (⟨(joinC (texts p)).toArray⟩ : ByteArray) = x := ⟨_, rfl⟩
  have HX := Lib.hid hx
  have hrun := fun u => run_any p h8 u
  rw [hr] at hrun
  have HRun := Lib.hid hrun
  have hcut := cut8_all w.heap.size
  rw [hx]
  clear h8 hm hat hx hrun hr
  go_enter Tryd.func16, Tryd.ntmps16
  go_wp2_with (first
    | refine wp_load22 rfl _ rfl _ rfl p H8.out HR.out ?_
    | refine wp_load22 rfl _ rfl _ rfl p H8.out (HR.out.later hB2) ?_
    | (go_at_call 15; refine (may_any p H8.out true HM.out _).mono ?_; rintro e w2 ⟨rfl, hB2⟩)
    | (go_at_call 12; refine (HRun.out _).mono ?_; rintro e w3 ⟨rfl, hB3⟩)
    | (go_at_call 24; refine (join_row p p HM.out w.heap.size 0 8 m _ ((HA.out.later hB2).later hB3) ((HR.out.later hB2).later hB3) (fun j h => by rw [Nat.zero_add]; exact List.getElem?_eq_getElem h) (by have := H8.out; omega) x HX.out 8 H8.out).mono ?_; rintro e w4 ⟨rfl, hB4⟩))
  go_ret
  exact ⟨rfl, Ascii.below4 HB.out hB2 hB3 hB4⟩
/-- What stands ahead of a row, and behind it. -/
theorem row_parts (p : List Int) (h8 : p.length = 8) (a n : Nat) (h : a + n ≤ 8) : (∀ j (hj : j < (p.take a).length), p[0 + j]? = some (p.take a)[j]) ∧ (∀ j (hj : j < (p.drop (a + n)).length), p[offOf (a + n) + j]? = some (p.drop (a + n))[j]) := by
  constructor
  · intro j hj
    rw [Nat.zero_add, List.getElem_take]
    exact List.getElem?_eq_getElem _
  · intro j hj
    have : a + n ≠ 8 := by simp at hj; omega
    unfold offOf
    rw [if_neg this, List.getElem_drop]
    exact List.getElem?_eq_getElem _
set_option maxRecDepth 100000 in
set_option maxHeartbeats 4000000 in
theorem showGap (p : List Int) (h8 : p.length = 8) (hm : mayP p = true) (a n : Nat) (hr : runP p = (a, n)) (hn : 1 ≤ n) (han : a + n ≤ 8) (m : Int) (w : World) (hat : At m w) : Calls Tryd.prog 16 #[.agg (arr p)] w fun e W' => e = .returned (.string ⟨(gapped a n (texts p)).toArray⟩) ∧ Below w.heap.size w W' := by
  have HB := Lib.hid (show Below w.heap.size w (w.alloc (.cells (arr p) 22)) from (Below.refl _ w).alloc (Nat.le_refl _) _)
  have HR := Lib.hid (RowAt.new w p)
  have HA := Lib.hid (hat.later HB.out)
  have H8 := Lib.hid h8
  have HM := Lib.hid hm
  obtain ⟨x, hx⟩ : ∃ x : ByteArray, (⟨(joinC (texts (p.take a))).toArray⟩ : ByteArray) = x := ⟨_, rfl⟩
  obtain ⟨y, hy⟩ : ∃ y : ByteArray, (⟨(joinC (texts (p.drop (a + n)))).toArray⟩ : ByteArray) = y := ⟨_, rfl⟩
  have HX := Lib.hid hx
  have HY := Lib.hid hy
  have hb : x.size ≤ 200 ∧ y.size ≤ 200 := by
    have key : ∀ q : List Int, mayP q = true → q.length ≤ 8 → (joinC (texts q)).length ≤ 200 := by
      intro q hq hl
      have h4 : ∀ t ∈ texts q, t.length ≤ 4 := fun t ht => ((okP_iff t).1 (List.all_eq_true.1 (texts_okP q hq) t ht)).2.1
      have hs := lens_le _ 4 h4
      have e : (texts q).length = q.length := by simp [texts]
      rw [joinC_len]
      omega
    rw [← hx, ← hy]
    exact ⟨key _ (may_take p a hm) (by simp; omega), key _ (may_drop p (a + n) hm) (by simp; omega)⟩
  obtain ⟨bx, bY⟩ := hb
  have HF := Lib.hid (show (⟨(gapped a n (texts p)).toArray⟩ : ByteArray) = x ++ (⟨#[58, 58]⟩ : ByteArray) ++ y by
    rw [← hx, ← hy, texts_take, texts_drop]
    unfold gapped
    apply ByteArray.ext
    simp)
  have hrun := fun u => run_any p h8 u
  rw [hr] at hrun
  have HRun := Lib.hid hrun
  have hcut := cut8_to w.heap.size a (by omega)
  obtain ⟨q, hq⟩ : ∃ q, a + n = q := ⟨_, rfl⟩
  rw [hq] at han
  have hcut2 := cut8_from w.heap.size q han
  have hPt := row_parts p h8 a n (by omega)
  rw [hq] at hPt
  have HPt := Lib.hid hPt
  clear hPt
  have t1 : ((n : Int) == 0) = false := beq_false_of_ne (by omega)
  have HL1 := Lib.hid (show (p.take a).length = a by simp; omega)
  have HL2 := Lib.hid (show (p.drop q).length = 8 - q by simp [h8])
  have HXY := Lib.hid (show (offOf q = 0 ∧ 8 - q = a ∧ 8 - q = 8) → x = y from fun ⟨_, h2, h3⟩ => by
    rw [← hx, ← hy, hq, show q = 0 by omega, show a = 8 by omega, List.take_of_length_le (by omega)]
    rfl)
  generalize hO : offOf q = O at hcut2 HPt HXY
  have esum : (a : Int) + (n : Int) = (q : Int) := by omega
  rw [hq] at HY
  have h8q : (8 : Nat) - q ≤ 8 := by omega
  clear h8 hm hat hx hy hrun hr hO hq
  go_enter Tryd.func16, Tryd.ntmps16
  go_wp2_with (first
    | refine wp_load22 rfl _ rfl _ rfl p H8.out HR.out ?_
    | refine wp_load22 rfl _ rfl _ rfl p H8.out (HR.out.later hB2) ?_
    | (go_at_call 15; refine (may_any p H8.out true HM.out _).mono ?_; rintro e w2 ⟨rfl, hB2⟩)
    | (go_at_call 12; refine (HRun.out _).mono ?_; rintro e w3 ⟨rfl, hB3⟩))
  have HW := Lib.hid (show At m w3 ∧ RowAt w3 w.heap.size p from ⟨(HA.out.later hB2).later hB3, (HR.out.later hB2).later hB3⟩)
  have HBB := Lib.hid (Ascii.below3 HB.out hB2 hB3)
  obtain ⟨J, hJ1, hJ2⟩ : ∃ J : Nat → Nat → Nat → ByteArray, J 0 a 8 = x ∧ J O (8 - q) (8 - q) = y :=
    ⟨fun o l c => if o = 0 ∧ l = a ∧ c = 8 then x else y, by simp, by
      by_cases e : O = 0 ∧ 8 - q = a ∧ 8 - q = 8
      · simp only [if_pos e]
        have := HXY.out e
        exact this
      · simp only [if_neg e]⟩
  have cJ := Lib.hid (show ∀ (o l c : Nat) (h : (o = 0 ∧ l = a ∧ c = 8) ∨ (o = O ∧ l = 8 - q ∧ c = 8 - q)) (u : World) (hu : Below w3.heap.size w3 u), Calls Tryd.prog 24 #[.slice (some ⟨w.heap.size, o, none⟩) l c] u fun e u' => e = .returned (.string (J o l c)) ∧ Below w3.heap.size w3 u' from by
    intro o l c h u hu
    rcases h with ⟨rfl, rfl, rfl⟩ | ⟨rfl, rfl, rfl⟩
    · rw [hJ1]
      exact (join_row (p.take l) p (may_take p l HM.out) w.heap.size 0 8 m u (HW.out.1.later hu) (HW.out.2.later hu) HPt.out.1 (by have := HL1.out; omega) x HX.out l HL1.out).mono fun e u' h => ⟨h.1, hu.trans (h.2.mono hu.size)⟩
    · rw [hJ2]
      exact (join_row (p.drop q) p (may_drop p q HM.out) w.heap.size o (8 - q) m u (HW.out.1.later hu) (HW.out.2.later hu) HPt.out.2 (by have := HL2.out; omega) y HY.out (8 - q) HL2.out).mono fun e u' h => ⟨h.1, hu.trans (h.2.mono hu.size)⟩)
  clear hB2 hB3 HX HY HPt HL1 HL2 HRun HW HXY HM HA HR H8
  have hany : ∀ p : Prop, (∀ u, Below w3.heap.size w3 u → p) ↔ p := fun p => ⟨fun h => h _ (Below.refl _ _), fun h _ _ => h⟩
  refine Ascii.wp_region_quiet_below (by kernel_rfl) (by kernel_rfl) ?_
  repeat (go_big_quiet_step ((intro hu; go_at_call 24; exact cJ.out _ _ _ (by first | exact .inl ⟨rfl, rfl, rfl⟩ | exact .inr ⟨rfl, rfl, rfl⟩) _ hu)))
  refine wpQuiet_nil ?_
  intro u hu
  go_wp2
  go_ret
  exact ⟨by rw [HF.out]; rfl, Ascii.below2 HBB.out hu⟩
/-- Show, of any pieces. -/
theorem show_any (p : List Int) (h8 : p.length = 8) (x : ByteArray) (hx : (⟨(showS p).toArray⟩ : ByteArray) = x) (m : Int) (w : World) (hat : At m w) : Calls Tryd.prog 16 #[.agg (arr p)] w fun e W' => e = .returned (.string x) ∧ Below w.heap.size w W' := by
  subst hx
  unfold showS
  cases hm : mayP p
  · exact showNo p h8 hm w
  · obtain ⟨r1, r2, r3, r4⟩ := run_fits p h8
    unfold showIn
    rw [if_pos rfl]
    by_cases h : (runP p).2 = 0
    · rw [if_pos h]
      exact showFull p h8 hm h m w hat
    · rw [if_neg h]
      exact showGap p h8 hm (runP p).1 (runP p).2 rfl (by omega) r1 m w hat
end Go.Proofs.YtgfhjigalefkmaaDoor.Six

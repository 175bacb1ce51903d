/-
  Merge and Parse.
-/
import Derived.Test.YtbofkmaajhfkeaaDoorPaParts
namespace Go.Proofs.YtbofkmaajhfkeaaDoor.Path
open Go.RowKit Go.Shelf
set_option linter.unusedSimpArgs false
set_option linter.unusedVariables false
attribute [local go_sem] Oper.semAt_some

theorem enc_len (l : T) : (enc l).length ≤ 3 * l.length := Pct.encode_len 3 l

/-- The box holds a slice that owns these texts. -/
def Has (B Bo : Nat) (l : List T) (W : World) : Prop := ∃ u, Boxed W Bo 22 u ∧ W.ownsRow B 9 1 u l.length (l.map tx) ∧ True

set_option maxRecDepth 100000 in
set_option maxHeartbeats 4000000 in
theorem merge_in (a : Option Addr) (c : Nat) (L : List T) (hL : L.length ≤ 1000) (hs : ∀ t ∈ L, t.length ≤ 1000000) (s : ByteArray) (hss : s.size ≤ 30000) (m : Int) (w : World) (hm : MaxAt m w) (hv0 : Strs w (.slice a L.length c) L) :
    CallsIn Fence.wide 5 Tryd.prog 17 #[.slice a L.length c, .string s] w fun e W' => ∃ v', e = .returned v' ∧ Strs W' v' (merge L s.data.toList) ∧ Below w.heap.size w W' := by
  obtain ⟨i0, hi, hz0, hz1, hz2⟩ := info_parts infoText
  have hv0' := hv0
  obtain ⟨a', c', e', k1, k2, k3, k4⟩ := hv0'
  cases e'
  have hahead : Strs w (.slice a (L.length - 1) c) L.dropLast := by
    refine ⟨a, c, by simp, by simp; omega, k2, k3, fun hne => ?_⟩
    obtain ⟨b, off, rfl, hc⟩ := k4 (fun e => hne (by rw [e]; rfl))
    refine ⟨b, off, rfl, fun j hj => ?_⟩
    have hj' : j < L.length := by simp at hj; omega
    rw [hc j hj', List.getElem_dropLast]
  have hH := Lib.hid k4
  have K3 := Lib.hid k3
  clear k4 k3
  refine callsIn_of_wp_marks Tryd.func17 rfl trivial ?_ rfl
  simp only [Tryd.ntmps17, List.size_toArray, List.length_cons, List.length_nil, Nat.reduceAdd, Nat.reduceSub, Array.replicate_succ, Array.replicate_zero, List.push_toArray, List.append_toArray, List.nil_append, List.cons_append]
  gi_wp2_with fail
  refine ⟨trivial, (callsIn_wide.2 (ahead_any a L.length c k1 k2 K3.out w)).mono ?_⟩
  rintro e w0 ⟨rfl, rfl⟩
  gi_wp2_with fail
  refine ⟨trivial, (callsIn_wide.2 (clones_any _ L.dropLast (by simp; omega) w hahead)).mono ?_⟩
  rintro e w1 ⟨v1, rfl, hrow1, hB1⟩
  obtain ⟨a1, c1, rfl, _, _, _⟩ := owns_shape hrow1
  gi_wp2_with fail
  refine ⟨trivial, (callsIn_wide.2 (Tryd.strings_TrimPrefix s ⟨#[47]⟩ _)).mono ?_⟩
  rintro e w2 ⟨rfl, rfl⟩
  rw [show (⟨#[47]⟩ : ByteArray).data.toList = [47] from rfl, strip_prefix]
  have hstl : (strip s.data.toList).length ≤ 30000 := by have := strip_len s.data.toList; have h : s.data.toList.length = s.size := rfl; omega
  gi_wp2_with fail
  refine ⟨trivial, (callsIn_wide.2 (Pct.encode_any ⟨(strip s.data.toList).toArray⟩ (by rw [size_tx]; omega) 3 _)).mono ?_⟩
  rintro e w3 ⟨rfl, hB3⟩
  rw [show (⟨(Pct.encode 3 (⟨(strip s.data.toList).toArray⟩ : ByteArray).data.toList).toArray⟩ : ByteArray) = ⟨(enc (strip s.data.toList)).toArray⟩ from rfl]
  have henl := enc_len (strip s.data.toList)
  have hspl := split_len (enc (strip s.data.toList))
  have hsum := split_sum (enc (strip s.data.toList))
  gi_wp2_with fail
  refine ⟨trivial, (parts_in Fence.wide _ trivial rfl ⟨(enc (strip s.data.toList)).toArray⟩ w3).mono ?_⟩
  rintro e w4 ⟨rfl, rfl⟩
  gi_wp2_with fail
  have bO1 := Boxed.new w1 22 (.slice a1 (L.length - 1) c1)
  have hrow3 := owns_below (hrow1.alloc (.cells #[.slice a1 (L.length - 1) c1] 22)) hB3
  have bO := (boxed_below bO1 hB3).alloc (.cells #[.string ⟨(enc (strip s.data.toList)).toArray⟩] 9)
  have bS := Boxed.new w3 9 (.string ⟨(enc (strip s.data.toList)).toArray⟩)
  have hsz1 := hB1.size
  have hsz3 := hB3.size
  have hlt1 := bO1.lt
  have hb3 : Below w.heap.size w w3 := (hB1.alloc hsz1 _).trans (hB3.mono (by simp; omega))
  have hsz3' := hb3.size
  have hB4 : Below w.heap.size w (w3.alloc (.cells #[.string ⟨(enc (strip s.data.toList)).toArray⟩] 9)) := hb3.alloc hsz3' _
  have hseg : split (enc (strip s.data.toList)) = segs s.data.toList := rfl
  generalize hE : enc (strip s.data.toList) = E at *
  have hcount : (split E).length ≤ 90001 := by omega
  have hEl : E.length ≤ 1000000 := by omega
  have hrow0 : (w3.alloc (.cells #[.string ⟨E.toArray⟩] 9)).ownsRow w.heap.size 9 1 (.slice a1 (L.length - 1) c1) L.dropLast.length (L.dropLast.map tx) := by
    have h : L.dropLast.length = L.length - 1 := by simp
    have h2 := hrow3.alloc (.cells #[.string ⟨E.toArray⟩] 9)
    rw [h] at h2 ⊢
    exact h2
  clear hE
  refine wpIn_rangeFunc_ownG rfl (by omega) (gf := 41) (lb := #[.pointer (some ⟨w3.heap.size, 0, none⟩)]) rfl trivial (enters_of Tryd.func41 (by kernel_rfl) rfl)
    (parts_stops 4 (by omega) w3.heap.size E hEl m _ (hm.later hB4) bS.cell) keepsM_t keepsM_b (Below.refl _ _) (fun _ => rfl)
    (fun pre W => Has w.heap.size w1.heap.size (L.dropLast ++ texts pre) W ∧ Below w.heap.size w W)
    (fun _ _ _ => False)
    (OwnFrom.and (Own.from (holdsRow_own w.heap.size w1.heap.size 22 9 1 (fun pre => (L.dropLast ++ texts pre).length) (fun pre => (L.dropLast ++ texts pre).map tx) (fun _ _ => True)) _) (ownFrom_below (Nat.le_refl _) (by simp; omega)))
    (fun _ _ _ _ _ hs _ _ => hs)
    ⟨by rw [show L.dropLast ++ texts [] = L.dropLast by simp [texts]]; exact ⟨_, bO, hrow0, trivial⟩, hB4⟩
    (fun x => { tmps := #[.slice a L.length c, .string s, undef, undef, .slice none 0 0, .pointer (some ⟨w1.heap.size, 0, none⟩), .string ⟨x.1.toArray⟩, .slice a L.length c, .slice a (L.length - 1) c, .slice a1 (L.length - 1) c1, .string s, .string ⟨(strip s.data.toList).toArray⟩, .string ⟨E.toArray⟩, .func (.func 41) #[] #[.pointer (some ⟨w3.heap.size, 0, none⟩)], .string ⟨x.1.toArray⟩, undef, undef, undef, undef, undef, undef], defers := [] }) ?assign ?body ?done ?stop
  case assign =>
    intro l x W K hK
    gi_wp2
    exact hK
  case body =>
    rintro l pre ⟨x, hx⟩ W ⟨⟨u, hv, hrow, _⟩, hB⟩ hlt
    have hstep : (L.dropLast ++ texts (pre ++ [⟨x, hx⟩])).map tx = (L.dropLast ++ texts pre).map tx ++ [.string ⟨x.toArray⟩] := by rw [texts_snoc]; simp [tx]
    have hstepl : (L.dropLast ++ texts (pre ++ [⟨x, hx⟩])).length = (L.dropLast ++ texts pre).length + 1 := by rw [texts_snoc]; simp; omega
    have hpl : (texts pre).length = pre.length := by simp [texts]
    have hlen : (L.dropLast ++ texts pre).length ≤ 100000 := by rw [List.length_append, hpl]; simp; omega
    have HS := Lib.hid hstep
    have HL := Lib.hid hstepl
    clear hstep hstepl hpl
    generalize (L.dropLast ++ texts pre).map tx = xs at hrow HS
    generalize (L.dropLast ++ texts pre).length = n at hrow HL hlen
    have hc := hv.cell
    have hBs := hB.size
    gi_wp2_with (gi_at_builtin; refine wpListIn_append_own _ rfl _ _ 22 rfl w.heap.size 9 i0 (.string ⟨#[]⟩) 1 16 Tryd.underlying22 hi hz0 hz1 hz2 rfl (by decide) _ _ _ rfl (hrow.alloc _) ⟨W.heap.size, 0, none⟩ 1 1 [.string ⟨x.toArray⟩] rfl rfl (cell_one_new _ _ _) (by simp [Value.oneCell']) (by unfold maxLen; omega) (by omega) (by simp; omega) ?_; intro v' w2 hown' hgrow _; obtain ⟨g', cap', rfl⟩ := ownsRow_succ hown'; obtain ⟨hv1, hv2, hr2, hk2, hbe⟩ := hv.appended (by decide) hrow hBs hsz1 hown' hgrow; have hc1 := hv1.cell; have hf1 := hv1.frozen)
    have hBe := hB.trans hbe
    exact ⟨hk2.from _, fun _ => hm.later hBe, ⟨_, hv2, by rw [HS.out, HL.out]; exact hr2, trivial⟩, hBe⟩
  case done =>
    rintro D ys W hD hys ⟨⟨v, hv, hrow, _⟩, hB⟩ hK
    have hc := hv.cell
    rw [hys] at hrow
    have hst := owns_strs hrow
    have hmW := hm.later hB
    have hle : (L.dropLast ++ split E).length ≤ 100000 := by rw [List.length_append]; simp; omega
    have hts : ∀ t ∈ L.dropLast ++ split E, t.length ≤ 1000000 := fun t ht => by
      rcases List.mem_append.1 ht with h | h
      · exact hs t (List.dropLast_subset _ h)
      · have := hsum t h; omega
    gi_wp2_with fail
    refine ⟨trivial, (callsIn_wide.2 (norm_any v (L.dropLast ++ split E) hle hts m W hmW hst)).mono ?_⟩
    rintro e W5 ⟨v5, rfl, hst5, hB5⟩
    have hK5 : W5.heap[D]? = some (.deferred (some [])) := (hB5.block D (Array.getElem?_eq_some_iff.1 hK).1).trans hK
    have hbe : Below w.heap.size w W5 := hB.trans (hB5.mono hB.size)
    rw [hseg] at hst5
    gi_wp2
    refine ⟨by simp, .inl ⟨_, _, rfl, run_takeDeferred hK5, ?_⟩⟩
    exact ⟨_, results_tmp rfl _ _ _, v5, rfl, strs_kept hst5 (fun p u x => cell_kept x (grownBy_putObj' W5 D _) (fun r e => by cases e; exact ⟨_, hK5, rfl⟩)), hbe.trans (belowK_b (w := w) (Nat.le_refl _) W5 D _ _ (by simp at hD; omega) hK5 rfl rfl)⟩
  case stop =>
    rintro D c pre W _ _ h _
    exact h.elim

theorem merge_any (v : Value) (L : List T) (hL : L.length ≤ 1000) (hs : ∀ t ∈ L, t.length ≤ 1000000) (s : ByteArray) (hss : s.size ≤ 30000) (m : Int) (w : World) (hm : MaxAt m w) (h : Strs w v L) :
    Calls Tryd.prog 17 #[v, .string s] w fun e W' => ∃ v', e = .returned v' ∧ Strs W' v' (merge L s.data.toList) ∧ Below w.heap.size w W' := by
  have h' := h
  obtain ⟨a, c, rfl, _⟩ := h'
  exact callsIn_wide.1 (merge_in a c L hL hs s hss m w hm h)

theorem parse_any (s : ByteArray) (hss : s.size ≤ 30000) (m : Int) (w : World) (hm : MaxAt m w) :
    Calls Tryd.prog 11 #[.string s] w fun e W' => ∃ v', e = .returned v' ∧ Strs W' v' (parse s.data.toList) ∧ Below w.heap.size w W' := by
  go_enter Tryd.func11, Tryd.ntmps11
  go_wp2_with fail
  refine (merge_any (.slice none 0 0) [] (by simp) (by simp) s hss m w hm (Strs.nil w)).mono ?_
  rintro e w1 ⟨v', rfl, hst, hB⟩
  go_wp2
  go_ret
  exact ⟨v', rfl, hst, hB⟩

end Go.Proofs.YtbofkmaajhfkeaaDoor.Path

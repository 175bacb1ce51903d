/-
  cutEnds(s, goes): the text without the bytes that go at its beginning and at its end, here those up to 32.
-/
import Derived.Test.YtmhoooenolackaaEach
namespace Go.Proofs.Ytmhoooenolackaa
open Go.RowKit Go.Shelf
set_option linter.unusedSimpArgs false
set_option linter.unusedVariables false
attribute [local go_sem] Oper.semAt_some

theorem Try.info5'' : (Try.prog.info? 5).map (fun i => (i.zero, i.size, i.bytes)) = some (some (.int .u8 0), 1, 1) := by kernel_rfl

theorem ownsRow_take {W : World} {base : Nat} {e : TypeId} {g k cap m : Nat} {xs : List Value} (h : W.ownsRow base e 1 (.slice (some ⟨g, 0, none⟩) k cap) k xs) (hm : m ≤ k) : W.ownsRow base e 1 (.slice (some ⟨g, 0, none⟩) m cap) m (xs.take m) := by
  obtain ⟨h1, h2⟩ := h
  refine ⟨by rw [List.length_take]; omega, ?_⟩
  rcases h2 with ⟨e, _⟩ | ⟨g', cap', cur, e, hb, hg, hk, hc, hz, ht⟩
  · cases e
  · cases e
    refine .inr ⟨g, cap, cur, rfl, hb, hg, by omega, hc, hz, ?_⟩
    rw [← ht, List.take_take]
    congr 1
    omega

set_option maxRecDepth 100000 in
set_option maxHeartbeats 2000000 in
theorem cutEnds_in (s : ByteArray) (hs : s.size ≤ maxLen) (hb47 : s.size ≤ 140737488355328) (pa : Addr) (w : World) (qa : w.cell? pa = some (.int .u8 32)) :
    CallsIn Fence.wide 5 Try.prog 27 #[.string s, .func (.func 32) #[] #[.pointer (some pa)]] w fun e W' => e = .returned (.string ⟨(trim s.data.toList).toArray⟩) ∧ Below w.heap.size w W' := by
  obtain ⟨i0, hi, hz0, hz1, hz2⟩ := info_parts Try.info5''
  have la := World.block_lt_of_cell? _ _ qa
  refine callsIn_of_wp_marks Try.func27 rfl trivial ?_ rfl
  simp only [Try.ntmps27, List.size_toArray, List.length_cons, List.length_nil, Nat.reduceAdd, Nat.reduceSub, Array.replicate_succ, Array.replicate_zero, List.push_toArray, List.append_toArray, List.nil_append, List.cons_append]
  gi_wp2_with (first | (gi_at_make; refine wpListIn_make_own _ rfl _ _ 30 rfl w.heap.size 5 i0 (.int .u8 0) 1 Try.underlying30 hi hz0 hz1 _ _ _ s.size rfl rfl rfl (by rw [hz2]; omega) hs (by simp) ?_; intro w1 hown0 hg0) | (refine ⟨trivial, ?_⟩; gi_at_call 26; refine (each_in Fence.wide _ trivial rfl _ _).mono ?_; rintro e w' ⟨rfl, rfl⟩))
  rw [World.size_alloc] at hown0
  have bF := (Boxed.new w 23 (.func (.func 32) #[] #[.pointer (some pa)])).kept hg0 (by simp)
  have bO := Boxed.new w1 30 (.slice (some ⟨w.heap.size + 1, 0, none⟩) 0 s.size)
  have bE := Boxed.new (w1.alloc (.cells #[.slice (some ⟨w.heap.size + 1, 0, none⟩) 0 s.size] 30)) 3 (.int .i64 0)
  have bS := Boxed.new ((w1.alloc (.cells #[.slice (some ⟨w.heap.size + 1, 0, none⟩) 0 s.size] 30)).alloc (.cells #[.int .i64 0] 3)) 9 (.string s)
  rw [World.size_alloc] at bE
  rw [World.size_alloc, World.size_alloc] at bS
  have hB1 : Below w.heap.size w w1 := ((Below.refl _ w).alloc (Nat.le_refl _) _).grown hg0 (by simp) (fun j e => by cases e)
  have hsz := hB1.size
  have hlt0 := bF.lt
  have hB0 : Below w.heap.size w (((w1.alloc (.cells #[.slice (some ⟨w.heap.size + 1, 0, none⟩) 0 s.size] 30)).alloc (.cells #[.int .i64 0] 3)).alloc (.cells #[.string s] 9)) := ((hB1.alloc hsz _).alloc (by simp; omega) _).alloc (by simp; omega) _
  refine wpIn_rangeFunc_ownG rfl (by omega) (gf := 31) (lb := #[.pointer (some ⟨w1.heap.size + 1 + 1, 0, none⟩)]) rfl trivial (enters_of Try.func31 (by kernel_rfl) rfl)
    (each_stops Fence.wide 4 trivial rfl (by omega) (w1.heap.size + 1 + 1) s hs _ (by simp) bS.cell) keepsText_t keepsText_b (Below.refl _ _) (fun _ => rfl)
    (fun pre W => (∃ v, Boxed W w1.heap.size 30 v ∧ W.ownsRow w.heap.size 5 1 v (outL pre).length ((outL pre).map u8v) ∧ ∃ g cap, v = .slice (some ⟨g, 0, none⟩) (outL pre).length cap) ∧ Boxed W (w1.heap.size + 1 + 1) 9 (.string s) ∧ Boxed W w.heap.size 23 (.func (.func 32) #[] #[.pointer (some pa)]) ∧ Boxed W (w1.heap.size + 1) 3 (.int .i64 (endN pre)) ∧ Below w.heap.size w W)
    (fun _ _ _ => False)
    (OwnFrom.and (Own.from (holdsRow_own w.heap.size w1.heap.size 30 5 1 (fun pre => (outL pre).length) (fun pre => (outL pre).map u8v) (fun pre v => ∃ g cap, v = .slice (some ⟨g, 0, none⟩) (outL pre).length cap)) _) (OwnFrom.and (Own.from (boxed_own _ _ _) _) (OwnFrom.and (Own.from (boxed_own _ _ _) _) (OwnFrom.and (Own.from (boxed_own _ _ (fun pre => .int .i64 (endN pre))) _) (ownFrom_below (Nat.le_refl _) (by simp; omega))))))
    (fun _ _ _ _ _ hs _ _ => hs)
    ⟨⟨_, (bO.alloc _).alloc _, ((hown0.alloc _).alloc _).alloc _, _, _, rfl⟩, bS, ((bF.alloc _).alloc _).alloc _, bE.alloc _, hB0⟩
    (fun x => { tmps := #[.string s, .func (.func 32) #[] #[.pointer (some pa)], undef, .pointer (some ⟨w.heap.size, 0, none⟩), .string ⟨#[]⟩, .pointer (some ⟨w1.heap.size, 0, none⟩), .pointer (some ⟨w1.heap.size + 1, 0, none⟩), .int .u8 (x.toNat : Int), .string s, .int .i64 s.size, .slice (some ⟨w.heap.size + 1, 0, none⟩) 0 s.size, .string s, .func (.func 31) #[] #[.pointer (some ⟨w1.heap.size + 1 + 1, 0, none⟩)], .int .u8 (x.toNat : Int), undef, undef, undef, undef, undef, undef, undef, undef, undef, undef, undef, undef, undef, undef, undef, undef, undef, undef, undef, undef, undef, undef], defers := [] }) ?assign ?body ?done ?stop
  case assign =>
    intro l x W K hK
    gi_wp2
    exact hK
  case body =>
    rintro l pre x W ⟨⟨v, hv, hrow, g, cap, rfl⟩, hS, hF, hE, hB⟩ hlt
    have hc := hv.cell
    have hcF := hF.cell
    have qa' := (hB.cell la).trans qa
    have hpl := outL_length pre
    have hb2 : (outL pre).length + 1 ≤ maxLen := by unfold maxLen at hs ⊢; omega
    have hb3 : ((outL pre).length + 1) * 1 ≤ 140737488355328 := by omega
    clear hpl
    have hbr := Lib.hid (lowish_int x)
    cases hlo : lowish x
    · have hgo : decide ((x.toNat : Int) ≤ 32) = false := hbr.out.trans hlo
      gi_wp2_with (first | (refine ⟨trivial, ?_⟩; gi_at_call 32; refine (CallsIn.inRound l (callsIn_wide.2 (upto1_any _ 32 _ _ (by first | exact qa' | exact qa2)))).mono ?_; rintro e w' ⟨rfl, rfl⟩) | (gi_at_builtin; refine wpListIn_append_own _ rfl _ _ 30 rfl w.heap.size 5 i0 (.int .u8 0) 1 1 Try.underlying30 hi hz0 hz1 hz2 rfl (by decide) _ _ _ rfl (hrow.alloc _) ⟨W.heap.size, 0, none⟩ 1 1 [.int .u8 (x.toNat : Int)] rfl rfl (cell_one_new _ _ _) (by simp [Value.oneCell']) hb2 hb3 (by have := hB.size; simp; omega) ?_; intro v' w2 hown' hgrow _; obtain ⟨g', cap', rfl⟩ := ownsRow_succ hown'; obtain ⟨hv1, hv2, hr2, hk2, hbe⟩ := hv.appended (by decide) hrow hB.size hsz hown' hgrow; have hc1 := hv1.cell; have hf1 := hv1.frozen; have hS2 := ((hS.alloc _).kept hgrow (hS.not_row (by decide) hrow)).other (B' := w1.heap.size) (by omega) (.slice (some ⟨g', 0, none⟩) ((outL pre).length + 1) cap'); have hF2 := ((hF.alloc _).kept hgrow (hF.not_row (by decide) hrow)).other (B' := w1.heap.size) (by omega) (.slice (some ⟨g', 0, none⟩) ((outL pre).length + 1) cap'); have hE2 := ((hE.alloc _).kept hgrow (hE.not_row (by decide) hrow)).other (B' := w1.heap.size) (by omega) (.slice (some ⟨g', 0, none⟩) ((outL pre).length + 1) cap'); have hcF2 := hF2.cell; have hcE2 := hE2.cell; have hfE2 := hE2.frozen; have hc2 := hv2.cell; have qa2 := (hbe.cell la).trans qa'))
      exact ⟨(hk2.trans (KeepsOthers.setCell _ _ _)).from _, fun _ => (hS2.other (by omega) _).cell, ⟨_, hv2.other (by omega) _, by rw [outL_add _ _ (.inl hlo)]; simpa [u8v] using hr2.kept (grownBy_setCell' _ _ _) (.inr (hE2.not_row (by decide) hr2).symm), g', cap', by rw [outL_add _ _ (.inl hlo)]; simp⟩, hS2.other (by omega) _, hF2.other (by omega) _, by rw [endN_no _ _ hlo]; exact hE2.set _, hB.trans (hbe.setCell (p := ⟨w1.heap.size + 1, 0, none⟩) (by show w.heap.size ≤ w1.heap.size + 1; omega) _)⟩
    · have hgo : decide ((x.toNat : Int) ≤ 32) = true := hbr.out.trans hlo
      by_cases h0 : outL pre = []
      · have eO := Lib.hid ((outL_skip pre x hlo h0).trans h0.symm)
        have eE := Lib.hid (endN_skip pre x hlo h0)
        have ht : (((outL pre).length : Int) == 0) = true := by rw [h0]; rfl
        clear h0
        gi_wp2_with (first | (refine ⟨trivial, ?_⟩; gi_at_call 32; refine (CallsIn.inRound l (callsIn_wide.2 (upto1_any _ 32 _ _ (by first | exact qa' | exact qa2)))).mono ?_; rintro e w' ⟨rfl, rfl⟩) | (gi_at_builtin; refine wpListIn_append_own _ rfl _ _ 30 rfl w.heap.size 5 i0 (.int .u8 0) 1 1 Try.underlying30 hi hz0 hz1 hz2 rfl (by decide) _ _ _ rfl (hrow.alloc _) ⟨W.heap.size, 0, none⟩ 1 1 [.int .u8 (x.toNat : Int)] rfl rfl (cell_one_new _ _ _) (by simp [Value.oneCell']) hb2 hb3 (by have := hB.size; simp; omega) ?_; intro v' w2 hown' hgrow _; obtain ⟨g', cap', rfl⟩ := ownsRow_succ hown'; obtain ⟨hv1, hv2, hr2, hk2, hbe⟩ := hv.appended (by decide) hrow hB.size hsz hown' hgrow; have hc1 := hv1.cell; have hf1 := hv1.frozen; have hS2 := ((hS.alloc _).kept hgrow (hS.not_row (by decide) hrow)).other (B' := w1.heap.size) (by omega) (.slice (some ⟨g', 0, none⟩) ((outL pre).length + 1) cap'); have hF2 := ((hF.alloc _).kept hgrow (hF.not_row (by decide) hrow)).other (B' := w1.heap.size) (by omega) (.slice (some ⟨g', 0, none⟩) ((outL pre).length + 1) cap'); have hE2 := ((hE.alloc _).kept hgrow (hE.not_row (by decide) hrow)).other (B' := w1.heap.size) (by omega) (.slice (some ⟨g', 0, none⟩) ((outL pre).length + 1) cap'); have hcF2 := hF2.cell; have hcE2 := hE2.cell; have hfE2 := hE2.frozen; have hc2 := hv2.cell; have qa2 := (hbe.cell la).trans qa'))
        exact ⟨KeepsFrom.refl _ _, fun h => h, ⟨_, hv, by rw [eO.out]; exact hrow, g, cap, by rw [eO.out]⟩, hS, hF, by rw [eE.out]; exact hE, hB⟩
      · have eO := Lib.hid (outL_add pre x (.inr h0))
        have eE := Lib.hid (endN_ws pre x hlo h0)
        have ht : (((outL pre).length : Int) == 0) = false := by
          rw [beq_eq_false_iff_ne]
          intro h
          exact h0 (List.length_eq_zero_iff.1 (by omega))
        clear h0
        gi_wp2_with (first | (refine ⟨trivial, ?_⟩; gi_at_call 32; refine (CallsIn.inRound l (callsIn_wide.2 (upto1_any _ 32 _ _ (by first | exact qa' | exact qa2)))).mono ?_; rintro e w' ⟨rfl, rfl⟩) | (gi_at_builtin; refine wpListIn_append_own _ rfl _ _ 30 rfl w.heap.size 5 i0 (.int .u8 0) 1 1 Try.underlying30 hi hz0 hz1 hz2 rfl (by decide) _ _ _ rfl (hrow.alloc _) ⟨W.heap.size, 0, none⟩ 1 1 [.int .u8 (x.toNat : Int)] rfl rfl (cell_one_new _ _ _) (by simp [Value.oneCell']) hb2 hb3 (by have := hB.size; simp; omega) ?_; intro v' w2 hown' hgrow _; obtain ⟨g', cap', rfl⟩ := ownsRow_succ hown'; obtain ⟨hv1, hv2, hr2, hk2, hbe⟩ := hv.appended (by decide) hrow hB.size hsz hown' hgrow; have hc1 := hv1.cell; have hf1 := hv1.frozen; have hS2 := ((hS.alloc _).kept hgrow (hS.not_row (by decide) hrow)).other (B' := w1.heap.size) (by omega) (.slice (some ⟨g', 0, none⟩) ((outL pre).length + 1) cap'); have hF2 := ((hF.alloc _).kept hgrow (hF.not_row (by decide) hrow)).other (B' := w1.heap.size) (by omega) (.slice (some ⟨g', 0, none⟩) ((outL pre).length + 1) cap'); have hE2 := ((hE.alloc _).kept hgrow (hE.not_row (by decide) hrow)).other (B' := w1.heap.size) (by omega) (.slice (some ⟨g', 0, none⟩) ((outL pre).length + 1) cap'); have hcF2 := hF2.cell; have hcE2 := hE2.cell; have hfE2 := hE2.frozen; have hc2 := hv2.cell; have qa2 := (hbe.cell la).trans qa'))
        exact ⟨hk2.from _, fun _ => hS2.cell, ⟨_, hv2, by rw [eO.out]; simpa [u8v] using hr2, g', cap', by rw [eO.out]; simp⟩, hS2, hF2, by rw [eE.out]; exact hE2, hB.trans hbe⟩
  case done =>
    rintro D ys W hD rfl ⟨⟨v, hv, hrow, g, cap, rfl⟩, hS, hF, hE, hB⟩ hK
    have hc := hv.cell
    have hcE := hE.cell
    have hle := endN_le s.data.toList
    have hcap : (outL s.data.toList).length ≤ cap ∧ cap ≤ maxLen := by
      rcases hrow.2 with ⟨e, _⟩ | ⟨_, _, _, e, _, _, h1, h2, _⟩
      · cases e
      · cases e; exact ⟨h1, h2⟩
    obtain ⟨hcap1, hcap2⟩ := hcap
    unfold maxLen at hcap2
    have hown2 := ownsRow_take hrow hle
    rw [← List.map_take, ← trim_take] at hown2
    have hcv := conv_owned hown2
    gi_wp2
    refine ⟨by simp, .inl ⟨_, _, rfl, run_takeDeferred hK, ?_⟩⟩
    exact ⟨_, results_tmp rfl _ _ _, rfl, hB.trans (belowK_b (w := w) (Nat.le_refl _) W D _ _ (by simp at hD; omega) hK rfl rfl)⟩
  case stop =>
    rintro D c pre W _ _ h _
    exact h.elim

theorem cutEnds_calls (s : ByteArray) (hs : s.size ≤ maxLen) (hb47 : s.size ≤ 140737488355328) (pa : Addr) (w : World) (qa : w.cell? pa = some (.int .u8 32)) :
    Calls Try.prog 27 #[.string s, .func (.func 32) #[] #[.pointer (some pa)]] w fun e W' => e = .returned (.string ⟨(trim s.data.toList).toArray⟩) ∧ Below w.heap.size w W' :=
  callsIn_wide.1 (cutEnds_in s hs hb47 pa w qa)

end Go.Proofs.Ytmhoooenolackaa

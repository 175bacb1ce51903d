/-
  cutAll(s, goes): the text without the bytes that go, here 9, 10 and 13.
-/
import Derived.Test.YtmhoooenolackaaEach
namespace Go.Proofs.Ytmhoooenolackaa
open Go.RowKit Go.Shelf
set_option linter.unusedSimpArgs false
set_option linter.unusedVariables false
attribute [local go_sem] Oper.semAt_some

theorem Try.info5' : (Try.prog.info? 5).map (fun i => (i.zero, i.size, i.bytes)) = some (some (.int .u8 0), 1, 1) := by kernel_rfl

theorem breakB_int (x : UInt8) : ((x.toNat : Int) == 9 || (x.toNat : Int) == 10 || (x.toNat : Int) == 13) = breakB x := by
  unfold breakB
  rw [Bool.eq_iff_iff]
  simp
  omega
/-- What stays. -/
def stays (l : List UInt8) : List UInt8 := l.filter fun c => !breakB c
theorem stays_snoc_no (l : List UInt8) (c : UInt8) (h : breakB c = true) : stays (l ++ [c]) = stays l := by simp [stays, h]
theorem stays_snoc_yes (l : List UInt8) (c : UInt8) (h : breakB c = false) : stays (l ++ [c]) = stays l ++ [c] := by simp [stays, h]
theorem stays_length (l : List UInt8) : (stays l).length ≤ l.length := List.length_filter_le _ _

set_option maxRecDepth 100000 in
set_option maxHeartbeats 2000000 in
theorem cutAll_in (s : ByteArray) (hs : s.size ≤ maxLen) (hb47 : s.size ≤ 140737488355328) (pa pb pd : Addr) (w : World) (qa : w.cell? pa = some (.int .u8 9)) (qb : w.cell? pb = some (.int .u8 10)) (qd : w.cell? pd = some (.int .u8 13)) :
    CallsIn Fence.wide 5 Try.prog 29 #[.string s, .func (.func 33) #[] #[.pointer (some pa), .pointer (some pb), .pointer (some pd)]] w fun e W' => e = .returned (.string ⟨(stays s.data.toList).toArray⟩) ∧ Below w.heap.size w W' := by
  obtain ⟨i0, hi, hz0, hz1, hz2⟩ := info_parts Try.info5'
  have la := World.block_lt_of_cell? _ _ qa
  have lb := World.block_lt_of_cell? _ _ qb
  have ld := World.block_lt_of_cell? _ _ qd
  refine callsIn_of_wp_marks Try.func29 rfl trivial ?_ rfl
  simp only [Try.ntmps29, List.size_toArray, List.length_cons, List.length_nil, Nat.reduceAdd, Nat.reduceSub, Array.replicate_succ, Array.replicate_zero, List.push_toArray, List.append_toArray, List.nil_append, List.cons_append]
  gi_wp2_with (first | (gi_at_make; refine wpListIn_make_own _ rfl _ _ 30 rfl w.heap.size 5 i0 (.int .u8 0) 1 Try.underlying30 hi hz0 hz1 _ _ _ s.size rfl rfl rfl (by rw [hz2]; omega) hs (by simp) ?_; intro w1 hown0 hg0) | (refine ⟨trivial, ?_⟩; gi_at_call 26; refine (each_in Fence.wide _ trivial rfl _ _).mono ?_; rintro e w' ⟨rfl, rfl⟩))
  rw [World.size_alloc] at hown0
  have bF := (Boxed.new w 23 (.func (.func 33) #[] #[.pointer (some pa), .pointer (some pb), .pointer (some pd)])).kept hg0 (by simp)
  have bO := Boxed.new w1 30 (.slice (some ⟨w.heap.size + 1, 0, none⟩) 0 s.size)
  have bS := Boxed.new (w1.alloc (.cells #[.slice (some ⟨w.heap.size + 1, 0, none⟩) 0 s.size] 30)) 9 (.string s)
  rw [World.size_alloc] at bS
  have hB1 : Below w.heap.size w w1 := ((Below.refl _ w).alloc (Nat.le_refl _) _).grown hg0 (by simp) (fun j e => by cases e)
  have hsz := hB1.size
  have hlt0 := bF.lt
  have hB0 : Below w.heap.size w ((w1.alloc (.cells #[.slice (some ⟨w.heap.size + 1, 0, none⟩) 0 s.size] 30)).alloc (.cells #[.string s] 9)) := (hB1.alloc hsz _).alloc (by simp; omega) _
  refine wpIn_rangeFunc_ownG rfl (by omega) (gf := 31) (lb := #[.pointer (some ⟨w1.heap.size + 1, 0, none⟩)]) rfl trivial (enters_of Try.func31 (by kernel_rfl) rfl)
    (each_stops Fence.wide 4 trivial rfl (by omega) (w1.heap.size + 1) s hs _ (by simp) bS.cell) keepsText_t keepsText_b (Below.refl _ _) (fun _ => rfl)
    (fun pre W => (∃ v, Boxed W w1.heap.size 30 v ∧ W.ownsRow w.heap.size 5 1 v (stays pre).length ((stays pre).map u8v) ∧ True) ∧ Boxed W (w1.heap.size + 1) 9 (.string s) ∧ Boxed W w.heap.size 23 (.func (.func 33) #[] #[.pointer (some pa), .pointer (some pb), .pointer (some pd)]) ∧ Below w.heap.size w W)
    (fun _ _ _ => False)
    (OwnFrom.and (Own.from (holdsRow_own w.heap.size w1.heap.size 30 5 1 (fun pre => (stays pre).length) (fun pre => (stays pre).map u8v) (fun _ _ => True)) _) (OwnFrom.and (Own.from (boxed_own _ _ _) _) (OwnFrom.and (Own.from (boxed_own _ _ _) _) (ownFrom_below (Nat.le_refl _) (by simp; omega)))))
    (fun _ _ _ _ _ hs _ _ => hs)
    ⟨⟨_, bO.alloc _, (hown0.alloc _).alloc _, trivial⟩, bS, (bF.alloc _).alloc _, hB0⟩
    (fun x => { tmps := #[.string s, .func (.func 33) #[] #[.pointer (some pa), .pointer (some pb), .pointer (some pd)], undef, .pointer (some ⟨w.heap.size, 0, none⟩), .string ⟨#[]⟩, .pointer (some ⟨w1.heap.size, 0, none⟩), .int .u8 (x.toNat : Int), .string s, .int .i64 s.size, .slice (some ⟨w.heap.size + 1, 0, none⟩) 0 s.size, .string s, .func (.func 31) #[] #[.pointer (some ⟨w1.heap.size + 1, 0, none⟩)], .int .u8 (x.toNat : Int), undef, undef, undef, undef, undef, undef, undef, undef, undef, undef], defers := [] }) ?assign ?body ?done ?stop
  case assign =>
    intro l x W K hK
    gi_wp2
    exact hK
  case body =>
    rintro l pre x W ⟨⟨v, hv, hrow, _⟩, hS, hF, hB⟩ hlt
    have hc := hv.cell
    have hcF := hF.cell
    have qa' := (hB.cell la).trans qa
    have qb' := (hB.cell lb).trans qb
    have qd' := (hB.cell ld).trans qd
    have hpl := stays_length pre
    have hb2 : (stays pre).length + 1 ≤ maxLen := by unfold maxLen at hs ⊢; omega
    have hb3 : ((stays pre).length + 1) * 1 ≤ 140737488355328 := by omega
    clear hpl
    have hbr := Lib.hid (show ((x.toNat : Int) == 9 || (x.toNat : Int) == 10 || (x.toNat : Int) == 13) = breakB x from breakB_int x)
    cases hbk : breakB x
    · have hgo : ((x.toNat : Int) == 9 || (x.toNat : Int) == 10 || (x.toNat : Int) == 13) = false := hbr.out.trans hbk
      gi_wp2_with (first | (refine ⟨trivial, ?_⟩; gi_at_call 33; refine (CallsIn.inRound l (callsIn_wide.2 (oneof1_any _ _ _ _ _ _ _ _ qa' qb' qd'))).mono ?_; rintro e w' ⟨rfl, rfl⟩) | (gi_at_builtin; refine wpListIn_append_own _ rfl _ _ 30 rfl w.heap.size 5 i0 (.int .u8 0) 1 1 Try.underlying30 hi hz0 hz1 hz2 rfl (by decide) _ _ _ rfl (hrow.alloc _) ⟨W.heap.size, 0, none⟩ 1 1 [.int .u8 (x.toNat : Int)] rfl rfl (cell_one_new _ _ _) (by simp [Value.oneCell']) hb2 hb3 (by have := hB.size; simp; omega) ?_; intro v' w2 hown' hgrow _; obtain ⟨g', cap', rfl⟩ := ownsRow_succ hown'; obtain ⟨hv1, hv2, hr2, hk2, hbe⟩ := hv.appended (by decide) hrow hB.size hsz hown' hgrow; have hc1 := hv1.cell; have hf1 := hv1.frozen; have hS2 := ((hS.alloc _).kept hgrow (hS.not_row (by decide) hrow)).other (B' := w1.heap.size) (by omega) (.slice (some ⟨g', 0, none⟩) ((stays pre).length + 1) cap'); have hF2 := ((hF.alloc _).kept hgrow (hF.not_row (by decide) hrow)).other (B' := w1.heap.size) (by omega) (.slice (some ⟨g', 0, none⟩) ((stays pre).length + 1) cap')))
      exact ⟨hk2.from _, fun _ => hS2.cell, ⟨_, hv2, by rw [stays_snoc_yes _ _ hbk]; simpa [u8v] using hr2, trivial⟩, hS2, hF2, hB.trans hbe⟩
    · have hgo : ((x.toNat : Int) == 9 || (x.toNat : Int) == 10 || (x.toNat : Int) == 13) = true := hbr.out.trans hbk
      gi_wp2_with (first | (refine ⟨trivial, ?_⟩; gi_at_call 33; refine (CallsIn.inRound l (callsIn_wide.2 (oneof1_any _ _ _ _ _ _ _ _ qa' qb' qd'))).mono ?_; rintro e w' ⟨rfl, rfl⟩) | (gi_at_builtin; refine wpListIn_append_own _ rfl _ _ 30 rfl w.heap.size 5 i0 (.int .u8 0) 1 1 Try.underlying30 hi hz0 hz1 hz2 rfl (by decide) _ _ _ rfl (hrow.alloc _) ⟨W.heap.size, 0, none⟩ 1 1 [.int .u8 (x.toNat : Int)] rfl rfl (cell_one_new _ _ _) (by simp [Value.oneCell']) hb2 hb3 (by have := hB.size; simp; omega) ?_; intro v' w2 hown' hgrow _; obtain ⟨g', cap', rfl⟩ := ownsRow_succ hown'; obtain ⟨hv1, hv2, hr2, hk2, hbe⟩ := hv.appended (by decide) hrow hB.size hsz hown' hgrow; have hc1 := hv1.cell; have hf1 := hv1.frozen; have hS2 := ((hS.alloc _).kept hgrow (hS.not_row (by decide) hrow)).other (B' := w1.heap.size) (by omega) (.slice (some ⟨g', 0, none⟩) ((stays pre).length + 1) cap'); have hF2 := ((hF.alloc _).kept hgrow (hF.not_row (by decide) hrow)).other (B' := w1.heap.size) (by omega) (.slice (some ⟨g', 0, none⟩) ((stays pre).length + 1) cap')))
      exact ⟨KeepsFrom.refl _ _, fun h => h, ⟨v, hv, by rw [stays_snoc_no _ _ hbk]; exact hrow, trivial⟩, hS, hF, hB⟩
  case done =>
    rintro D ys W hD rfl ⟨⟨v, hv, hrow, _⟩, hS, hF, hB⟩ hK
    have hc := hv.cell
    have hcv := conv_owned hrow
    gi_wp2
    refine ⟨by simp, .inl ⟨_, _, rfl, run_takeDeferred hK, ?_⟩⟩
    exact ⟨_, results_tmp rfl _ _ _, rfl, hB.trans (belowK_b (w := w) (Nat.le_refl _) W D _ _ (by simp at hD; omega) hK rfl rfl)⟩
  case stop =>
    rintro D c pre W _ _ h _
    exact h.elim

theorem cutAll_calls (s : ByteArray) (hs : s.size ≤ maxLen) (hb47 : s.size ≤ 140737488355328) (pa pb pd : Addr) (w : World) (qa : w.cell? pa = some (.int .u8 9)) (qb : w.cell? pb = some (.int .u8 10)) (qd : w.cell? pd = some (.int .u8 13)) :
    Calls Try.prog 29 #[.string s, .func (.func 33) #[] #[.pointer (some pa), .pointer (some pb), .pointer (some pd)]] w fun e W' => e = .returned (.string ⟨(stays s.data.toList).toArray⟩) ∧ Below w.heap.size w W' :=
  callsIn_wide.1 (cutAll_in s hs hb47 pa pb pd w qa qb qd)

end Go.Proofs.Ytmhoooenolackaa

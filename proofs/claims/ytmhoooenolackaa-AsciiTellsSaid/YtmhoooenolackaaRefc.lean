/-
  The document's Clean.
-/
import Derived.Test.YtmhoooenolackaaRefb
namespace Go.Proofs.Ytmhoooenolackaa
open Go.RowKit
set_option linter.unusedSimpArgs false
set_option linter.unusedVariables false

theorem take_all (b : ByteArray) : b.data.toList.take b.size = b.data.toList := List.take_of_length_le (by exact Nat.le_refl _)

set_option maxRecDepth 100000 in
set_option maxHeartbeats 2000000 in
theorem refClean_in (s tb : ByteArray) (hs : s.size ≤ 600) (htz : tb.size ≤ 600) (HT : Hid ((⟨(trim s.data.toList).toArray⟩ : ByteArray) = tb)) (w : World) :
    Calls Try.prog 23 #[.string s] w fun e w' => e = .returned (.string ⟨(stays tb.data.toList).toArray⟩) ∧ Below w.heap.size w w' := by
  obtain ⟨i0, hi, hz0, hz1, hz2⟩ := info_parts Try.info5
  go_enter Try.func23, Try.ntmps23
  go_wp2_with fail
  refine (refTrim_any s hs _).mono ?_
  rintro e w' ⟨rfl, rfl⟩
  rw [HT.out]
  go_wp2_with fail
  go_loopw [4, 5] (fun v i wr => ∃ k : Nat, k ≤ tb.size ∧ i = .int .i64 k ∧ wr.ownsRow w.heap.size 5 1 v (stays (tb.data.toList.take k)).length ((stays (tb.data.toList.take k)).map u8v) ∧ Below w.heap.size w wr) (fun _ i _ => tb.size - (intOf i).toNat)
  case atStart => exact ⟨0, Nat.zero_le _, rfl, World.ownsRow_nil _ _ _ _, Below.refl _ _⟩
  case round =>
    obtain ⟨k, hk, rfl, hrow, hw⟩ := hrel
    by_cases hlt : k < tb.size
    · have t1 : (k : Int) < tb.size := by omega
      have hl1 : (stays (tb.data.toList.take k)).length ≤ k := Nat.le_trans (stays_length _) (List.length_take_le _ _)
      have hts := Lib.hid (take_snoc tb k hlt)
      cases hbk : breakB tb[k]
      · have hv := Lib.hid (show stays (tb.data.toList.take (k + 1)) = stays (tb.data.toList.take k) ++ [tb[k]] by rw [hts.out, stays_snoc_yes _ _ hbk])
        have q9 : ((tb[k].toNat : Int) != 9) = true := by simp [breakB] at hbk; rw [bne_iff_ne]; omega
        have q10 : ((tb[k].toNat : Int) != 10) = true := by simp [breakB] at hbk; rw [bne_iff_ne]; omega
        have q13 : ((tb[k].toNat : Int) != 13) = true := by simp [breakB] at hbk; rw [bne_iff_ne]; omega
        clear hbk
        go_wp2_with (at_builtin; refine wpList_append_own _ rfl _ _ 30 rfl w.heap.size 5 i0 (.int .u8 0) 1 1 Try.underlying30 hi hz0 hz1 hz2 rfl (by decide) _ _ _ rfl (hrow.alloc _) ⟨wr.heap.size, 0, none⟩ 1 1 [.int .u8 (tb[k].toNat : Int)] rfl rfl (cell_one_new _ _ _) (by simp [Value.oneCell']) (by unfold maxLen; omega) (by omega) (by have := hw.size; simp; omega) ?_; intro v' w2 hown' hgrow hnil)
        go_roundw
        case rel =>
          refine ⟨k + 1, by omega, by go_num, ?_, ?_⟩
          · rw [hv.out]; simpa [u8v] using hown'
          · exact (hw.alloc hw.size _).grown hgrow (by have := hw.size; simp; omega) (fun j e => ((hrow.lt j e).1))
        case measure => simp [intOf]; omega
      · have hv := Lib.hid (show stays (tb.data.toList.take (k + 1)) = stays (tb.data.toList.take k) by rw [hts.out, stays_snoc_no _ _ hbk])
        have h3 : ((tb[k].toNat : Int) != 9) = false ∨ (((tb[k].toNat : Int) != 9) = true ∧ ((tb[k].toNat : Int) != 10) = false) ∨ (((tb[k].toNat : Int) != 9) = true ∧ ((tb[k].toNat : Int) != 10) = true ∧ ((tb[k].toNat : Int) != 13) = false) := by
          simp [breakB] at hbk
          simp
          omega
        clear hbk
        rcases h3 with q9 | ⟨q9, q10⟩ | ⟨q9, q10, q13⟩
        all_goals
          go_wp2
          go_roundw
          case rel => exact ⟨k + 1, by omega, by go_num, by rw [hv.out]; exact hrow, hw⟩
          case measure => simp [intOf]; omega
    · obtain rfl : k = tb.size := by omega
      rw [take_all] at hrow
      have hcv := conv_owned hrow
      go_wp2
      go_ret
      exact ⟨rfl, hw⟩

theorem refClean_any (s : ByteArray) (hs : s.size ≤ 600) (w : World) :
    Calls Try.prog 23 #[.string s] w fun e w' => e = .returned (.string ⟨(clean s.data.toList).toArray⟩) ∧ Below w.heap.size w w' := by
  refine refClean_in s _ hs ?_ (Lib.hid rfl) w
  show (trim s.data.toList).length ≤ 600
  have := trim_length s.data.toList
  have e : s.data.toList.length = s.size := rfl
  omega

end Go.Proofs.Ytmhoooenolackaa

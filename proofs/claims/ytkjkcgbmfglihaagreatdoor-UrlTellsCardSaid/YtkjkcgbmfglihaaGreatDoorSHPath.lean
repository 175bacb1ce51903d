/-
  The document's functions of layer 8: Lower of longer texts, Dots, segments, Norm, Parse, May, Show.
-/
import Derived.Test.YtkjkcgbmfglihaaGreatDoorURefs
namespace Go.Proofs.YtkjkcgbmfglihaaGreatDoor.Ascii
open Go.RowKit Go.Shelf
set_option linter.unusedSimpArgs false
set_option linter.unusedVariables false
set_option maxRecDepth 100000 in
set_option maxHeartbeats 2000000 in
theorem refLower_big (s : ByteArray) (hs : s.size ≤ 30000) (w : World) :
    Calls Tryz.prog 52 #[.string s] w fun e w' => e = .returned (.string ⟨(lower s.data.toList).toArray⟩) ∧ Below w.heap.size w w' := by
  have hcv := run_bytes_of_string w 9 62 5 s Tryz.underlying9 Tryz.underlying62 Tryz.underlying5 (P := Tryz.prog)
  generalize grownCap w s.size 0 5 = cap at hcv
  go_enter Tryz.func52, Tryz.ntmps52
  go_wp2
  have hB0 : Below w.heap.size w (w.alloc (.cells (bytesRow s cap) 5 ((bytesRow s cap).size, (bytesRow s cap).size + 1))).drew := ((Below.refl _ w).alloc (Nat.le_refl _) _).drew
  have hH0 : Held (w.alloc (.cells (bytesRow s cap) 5 ((bytesRow s cap).size, (bytesRow s cap).size + 1))).drew w.heap.size (mixed s.data.toList 0) := by rw [mixed_zero]; exact held_new w s cap
  clear hcv
  have hsz : s.data.toList.length = s.size := rfl
  have HSZ := Lib.hid hsz
  clear hsz
  go_loopw [4] (fun i wr => ∃ k : Nat, k ≤ s.size ∧ i = .int .i64 k ∧ Held wr w.heap.size (mixed s.data.toList k) ∧ Below w.heap.size w wr) (fun i _ => s.size - (intOf i).toNat)
  case atStart => exact ⟨0, Nat.zero_le _, rfl, hH0, hB0⟩
  case round =>
    clear hH0 hB0
    obtain ⟨k, hk, rfl, hH, hw⟩ := hrel
    have HH := Lib.hid hH
    clear hH
    by_cases hlt : k < s.size
    · have hkl : k < s.data.toList.length := hlt
      have hml : k < (mixed s.data.toList k).length := by rw [mixed_length _ _ (Nat.le_of_lt hkl)]; exact hkl
      obtain ⟨hc0, hf⟩ := HH.out k hml
      rw [mixed_get _ _ hkl] at hc0
      have hc : wr.cell? ⟨w.heap.size, k, none⟩ = some (.int .u8 ((s[k]'hlt).toNat : Int)) := hc0
      clear hc0
      have t1 : (k : Int) < s.size := by omega
      clear hkl hml
      cases hcap : capB s[k].toNat
      · have hv := Lib.hid (mixed_keep s.data.toList k hlt (by show lowB s[k] = s[k]; unfold lowB; rw [hcap]; rfl))
        have h2 : decide (65 ≤ (s[k].toNat : Int)) = false ∨ (decide (65 ≤ (s[k].toNat : Int)) = true ∧ decide ((s[k].toNat : Int) ≤ 90) = false) := by
          simp [capB] at hcap
          simp
          omega
        clear hcap
        rcases h2 with d1 | ⟨d1, d2⟩
        all_goals
          go_wp2
          go_roundw
          case rel => exact ⟨k + 1, by omega, by go_num, by rw [← hv.out]; exact HH.out, hw⟩
          case measure => simp [intOf]; omega
      · obtain ⟨h65, h90⟩ := capB_iff hcap
        have d1 : decide (65 ≤ (s[k].toNat : Int)) = true := by simpa using h65
        have d2 : decide ((s[k].toNat : Int) ≤ 90) = true := by simpa using h90
        have hlow := Lib.hid (show ((lowB s[k]).toNat : Int) = (s[k].toNat : Int) + 32 by rw [lowB_toNat]; unfold lowI; rw [if_pos ⟨h65, h90⟩])
        clear hcap
        go_wp2
        go_roundw
        case rel =>
          refine ⟨k + 1, by omega, by go_num, ?_, hw.setCell (p := ⟨w.heap.size, k, none⟩) (Nat.le_refl _) _⟩
          have hml : k < (mixed s.data.toList k).length := by rw [mixed_length _ _ (Nat.le_of_lt hlt)]; exact hlt
          have h3 := held_set HH.out k hml (lowB s[k])
          rw [hlow.out] at h3
          have h4 := mixed_set s.data.toList k hlt
          rw [← h4]
          exact h3
        case measure => simp [intOf]; omega
    · obtain rfl : k = s.size := by omega
      have hH := HH.out
      rw [← HSZ.out, mixed_all] at hH
      have hll : (lower s.data.toList).length = s.size := List.length_map _
      have hcv := run_convert_bytes_back (P := Tryz.prog) wr 62 9 5 ⟨w.heap.size, 0, none⟩ cap (lower s.data.toList) Tryz.underlying62 Tryz.underlying5 Tryz.underlying9 (fun j hj => by
        have e : (⟨w.heap.size, 0, none⟩ : Addr).add j = ⟨w.heap.size, j, none⟩ := by unfold Addr.add; split <;> simp_all
        rw [e]; exact (hH j hj).1)
      rw [hll] at hcv
      clear hH hll
      go_wp2
      go_ret
      exact ⟨rfl, hw⟩
end Go.Proofs.YtkjkcgbmfglihaaGreatDoor.Ascii
namespace Go.Proofs.YtkjkcgbmfglihaaGreatDoor.Url
open Go.RowKit Go.Shelf
set_option linter.unusedSimpArgs false
set_option linter.unusedVariables false
set_option maxRecDepth 100000
theorem refDots_big (s : ByteArray) (hs : s.size ≤ 30000) (n : Nat) (hn : Path.dotsN s.data.toList = n) (w : World) :
    Calls Tryz.prog 97 #[.string s] w fun e w' => e = .returned (.int .i64 (n : Int)) ∧ Below w.heap.size w w' := by
  obtain ⟨L, hL⟩ : ∃ L, tb (Ascii.lower s.data.toList) = L := ⟨_, rfl⟩
  have HL := Lib.hid (fun u => show Calls Tryz.prog 52 #[.string s] u fun e w' => e = .returned (.string L) ∧ Below u.heap.size u w' from hL ▸ Ascii.refLower_big s hs u)
  have hc := Path.dots_cases s.data.toList
  have hl : Path.low s.data.toList = L.toList := by rw [Path.tl, list_tb hL]; rfl
  rw [hn, hl, dot1_iff, dot2_iff] at hc
  clear hL hl hn
  go_enter Tryz.func97, Tryz.ntmps97
  go_wp2_with fail
  refine (HL.out _).mono ?_
  rintro e u1 ⟨rfl, hB1⟩
  clear HL
  rcases hc with ⟨rfl, h⟩ | ⟨rfl, h⟩ | ⟨rfl, h, h'⟩
  · rcases h with h | h
    · have q1 : (L.toList == [46]) = true := by rw [h]; rfl
      clear h
      go_wp2
      go_ret
      exact ⟨rfl, hB1⟩
    · have q1 : (L.toList == [46]) = false := by rw [h]; rfl
      have q2 : (L.toList == [37, 50, 101]) = true := by rw [h]; rfl
      clear h
      go_wp2
      go_ret
      exact ⟨rfl, hB1⟩
  · have q1 : (L.toList == [46]) = false := by rcases h with h | h | h | h <;> rw [h] <;> rfl
    have q2 : (L.toList == [37, 50, 101]) = false := by rcases h with h | h | h | h <;> rw [h] <;> rfl
    rcases h with h | h | h | h
    · have q3 : (L.toList == [46, 46]) = true := by rw [h]; rfl
      clear h
      go_wp2
      go_ret
      exact ⟨rfl, hB1⟩
    · have q3 : (L.toList == [46, 46]) = false := by rw [h]; rfl
      have q4 : (L.toList == [46, 37, 50, 101]) = true := by rw [h]; rfl
      clear h
      go_wp2
      go_ret
      exact ⟨rfl, hB1⟩
    · have q3 : (L.toList == [46, 46]) = false := by rw [h]; rfl
      have q4 : (L.toList == [46, 37, 50, 101]) = false := by rw [h]; rfl
      have q5 : (L.toList == [37, 50, 101, 46]) = true := by rw [h]; rfl
      clear h
      go_wp2
      go_ret
      exact ⟨rfl, hB1⟩
    · have q3 : (L.toList == [46, 46]) = false := by rw [h]; rfl
      have q4 : (L.toList == [46, 37, 50, 101]) = false := by rw [h]; rfl
      have q5 : (L.toList == [37, 50, 101, 46]) = false := by rw [h]; rfl
      have q6 : (L.toList == [37, 50, 101, 37, 50, 101]) = true := by rw [h]; rfl
      clear h
      go_wp2
      go_ret
      exact ⟨rfl, hB1⟩
  · have h : ¬ (L.toList = [46] ∨ L.toList = [37, 50, 101]) := fun e => h ((dot1_iff _).2 e)
    have h' : ¬ (L.toList = [46, 46] ∨ L.toList = [46, 37, 50, 101] ∨ L.toList = [37, 50, 101, 46] ∨ L.toList = [37, 50, 101, 37, 50, 101]) := fun e => h' ((dot2_iff _).2 e)
    simp only [not_or] at h h'
    have q1 : (L.toList == [46]) = false := beq_eq_false_iff_ne.2 h.1
    have q2 : (L.toList == [37, 50, 101]) = false := beq_eq_false_iff_ne.2 h.2
    have q3 : (L.toList == [46, 46]) = false := beq_eq_false_iff_ne.2 h'.1
    have q4 : (L.toList == [46, 37, 50, 101]) = false := beq_eq_false_iff_ne.2 h'.2.1
    have q5 : (L.toList == [37, 50, 101, 46]) = false := beq_eq_false_iff_ne.2 h'.2.2.1
    have q6 : (L.toList == [37, 50, 101, 37, 50, 101]) = false := beq_eq_false_iff_ne.2 h'.2.2.2
    clear h h'
    go_wp2
    go_ret
    exact ⟨rfl, hB1⟩
def GotL (w : World) (l : List T) (e : Ending) (w' : World) : Prop := ∃ v, e = .returned v ∧ Path.Strs w' v l ∧ Path.New w.heap.size v ∧ Below w.heap.size w w'
set_option maxHeartbeats 4000000 in
theorem refSegs_any (s : ByteArray) (hs : s.size ≤ 25000) (L : List T) (hL : Path.segs s.data.toList = L) (w : World) :
    Calls Tryz.prog 88 #[.string s] w (GotL w L) := by
  obtain ⟨i0, hi, hz0, hz1, hz2⟩ := info_parts Path.infoText
  obtain ⟨S, hS⟩ : ∃ S, tb (Path.strip s.data.toList) = S := ⟨_, rfl⟩
  have hst : SegSt S L 0 0 [] := .inl ⟨Nat.zero_le _, by simp, by rw [List.drop_zero, list_tb hS, List.nil_append]; exact hL⟩
  have HST := Lib.hid hst
  clear hst hL
  have hcase : (0 < s.size ∧ ∃ h : 0 < s.size, ((s[0].toNat : Int) == 47) = true ∧ s.extract 1 s.size = S ∧ S.size ≤ 25000) ∨ (0 < s.size ∧ ∃ h : 0 < s.size, ((s[0].toNat : Int) == 47) = false ∧ S = s) ∨ (decide (0 < s.size) = false ∧ S = s) := by
    by_cases h : 0 < s.size
    · have e := Pct.drop_cons s 0 h
      rw [List.drop_zero] at e
      by_cases h47 : s[0] = 47
      · refine .inl ⟨h, h, by rw [h47]; rfl, ?_, ?_⟩
        · rw [piece_from s 1 (by omega), ← hS]
          conv => rhs; rw [e, h47, Path.strip_slash]
        · rw [size_tb hS, e, h47, Path.strip_slash, List.length_drop, size_list]; omega
      · refine .inr (.inl ⟨h, h, beq_eq_false_iff_ne.2 (fun q => h47 (UInt8.toNat_inj.1 (by simpa using (by omega : s[0].toNat = 47)))), ?_⟩)
        rw [← hS, e, Path.strip_other _ _ h47, ← e, tb_of]
    · have : s.data.toList = [] := List.length_eq_zero_iff.1 (by rw [size_list]; omega)
      exact .inr (.inr ⟨decide_eq_false h, by rw [← hS, this]; show tb [] = s; rw [← this, tb_of]⟩)
  clear hS
  rcases hcase with ⟨h0, _, q47, p1, hS1⟩ | ⟨h0, _, q47, rfl⟩ | ⟨h0, rfl⟩
  all_goals
    go_enter Tryz.func88, Tryz.ntmps88
    go_wp2
    go_loopw [3, 4, 5] (fun v f i wr => ∃ (k j : Nat) (os : List T), k ≤ j ∧ j ≤ S.size + 1 ∧ os.length ≤ j ∧ f = .int .i64 k ∧ i = .int .i64 j ∧ Hid (SegSt S L k j os) ∧ wr.ownsRow w.heap.size 9 1 v os.length (os.map Path.tx) ∧ Below w.heap.size w wr) (fun _ _ i _ => S.size + 1 - (intOf i).toNat)
    case atStart => exact ⟨0, 0, [], Nat.le_refl _, Nat.zero_le _, Nat.zero_le _, rfl, rfl, HST, World.ownsRow_nil _ _ _ _, Below.refl _ _⟩
    case round =>
      obtain ⟨k, j, os, hkj, hj, hos, rfl, rfl, HJ, hrow, hw⟩ := hrel
      by_cases hj1 : j = S.size + 1
      · have hosL : os = L := by
          rcases HJ.out with ⟨h, _⟩ | ⟨_, h⟩
          · omega
          · exact h
        have q1 : decide ((j : Int) ≤ (S.size : Int)) = false := decide_eq_false (by omega)
        have q1' : decide (j ≤ S.size) = false := decide_eq_false (by omega)
        subst hosL
        have hst := Path.owns_strs hrow
        have hnw := Path.owns_new hrow
        clear HJ hj1
        go_wp2
        go_ret
        exact ⟨_, rfl, hst, hnw, hw⟩
      · have q1 : decide ((j : Int) ≤ (S.size : Int)) = true := decide_eq_true (by omega)
        have q1' : decide (j ≤ S.size) = true := decide_eq_true (by omega)
        obtain ⟨P, hP⟩ : ∃ P, S.extract k j = P := ⟨_, rfl⟩
        have hPt := piece_mid S k j
        have hPs : P.size ≤ S.size := by rw [← hP, hPt]; exact mid_len S k j
        obtain ⟨E, hE⟩ : ∃ E, tb (Path.enc ((S.data.toList.take j).drop k)) = E := ⟨_, rfl⟩
        have CE := Lib.hid (fun u => show Calls Tryz.prog 41 #[.string P, .int .i64 3] u fun e w' => e = .returned (.string E) ∧ Below u.heap.size u w' from by
          have := Pct.refEncode_any P (by omega) 3 u
          rw [← hP, hPt, tb_list] at this
          rw [← hE, ← hP, hPt]; exact this)
        have HE := Lib.hid hE
        have HW := Lib.hid hw
        have HR := Lib.hid hrow
        by_cases hj2 : j = S.size
        · have HN := Lib.hid (seg_end (by omega) (hj2 ▸ HJ.out))
          have q2 : ((j : Int) == (S.size : Int)) = true := by rw [hj2]; simp
          have HJ2 := Lib.hid hj2
          have hj3 : j ≤ S.size := by omega
          clear HJ hE hPt hj2 hj1 hw hrow
          go_wp2_with fail
          refine (CE.out _).mono ?_
          rintro e w1 ⟨rfl, hB1⟩
          have hrow1 := Path.owns_below HR.out hB1
          have hw1 := Ascii.below2 HW.out hB1
          go_wp2_with (at_builtin; refine wpList_append_own _ rfl _ _ 25 rfl w.heap.size 9 i0 (.string ⟨#[]⟩) 1 16 Tryz.underlying25 hi hz0 hz1 hz2 rfl (by decide) _ _ _ rfl (hrow1.alloc (.cells #[.string E] 9)) ⟨w1.heap.size, 0, none⟩ 1 1 [.string E] rfl rfl (cell_one_new _ _ _) (by simp [Value.oneCell']) (by unfold maxLen; omega) (by omega) (by have := hw1.size; simp; omega) ?_; intro v' w2 hown' hgrow hnil)
          have hj2 := HJ2.out
          go_roundw
          case rel =>
            refine ⟨S.size + 1, S.size + 1, _, Nat.le_refl _, Nat.le_refl _, ?_, by rw [← hj2]; go_num, by rw [← hj2]; go_num, HN, ?_, ?_⟩
            · simp; omega
            · rw [List.map_append, List.length_append, show List.map Path.tx [Path.enc ((S.data.toList.take S.size).drop k)] = [.string E] from by rw [← HE.out, hj2]; rfl]; exact hown'
            · exact (hw1.alloc hw1.size (.cells #[.string E] 9)).grown hgrow (by have := hw1.size; simp; omega) (fun j e => ((hrow1.lt j e).1))
          case measure => simp [intOf]; omega
        · have hlt : j < S.size := by omega
          have q2 : ((j : Int) == (S.size : Int)) = false := beq_eq_false_iff_ne.2 (by omega)
          by_cases hc : S[j] = 47
          · have q3 : ((S[j].toNat : Int) == 47) = true := by rw [hc]; rfl
            have HN := Lib.hid (seg_cut hkj hlt HJ.out hc)
            clear HJ hE hPt hj1 hj2 hw hrow hc
            go_wp2_with fail
            refine (CE.out _).mono ?_
            rintro e w1 ⟨rfl, hB1⟩
            have hrow1 := Path.owns_below HR.out hB1
            have hw1 := Ascii.below2 HW.out hB1
            go_wp2_with (at_builtin; refine wpList_append_own _ rfl _ _ 25 rfl w.heap.size 9 i0 (.string ⟨#[]⟩) 1 16 Tryz.underlying25 hi hz0 hz1 hz2 rfl (by decide) _ _ _ rfl (hrow1.alloc (.cells #[.string E] 9)) ⟨w1.heap.size, 0, none⟩ 1 1 [.string E] rfl rfl (cell_one_new _ _ _) (by simp [Value.oneCell']) (by unfold maxLen; omega) (by omega) (by have := hw1.size; simp; omega) ?_; intro v' w2 hown' hgrow hnil)
            go_roundw
            case rel =>
              refine ⟨j + 1, j + 1, _, Nat.le_refl _, by omega, ?_, by go_num, by go_num, HN, ?_, ?_⟩
              · simp; omega
              · rw [List.map_append, List.length_append, show List.map Path.tx [Path.enc ((S.data.toList.take j).drop k)] = [.string E] from by rw [← HE.out]; rfl]; exact hown'
              · exact (hw1.alloc hw1.size (.cells #[.string E] 9)).grown hgrow (by have := hw1.size; simp; omega) (fun j e => ((hrow1.lt j e).1))
            case measure => simp [intOf]; omega
          · have q3 : ((S[j].toNat : Int) == 47) = false := beq_eq_false_iff_ne.2 (fun q => hc (UInt8.toNat_inj.1 (by simpa using (by omega : S[j].toNat = 47))))
            have HN := Lib.hid (seg_on hkj hlt HJ.out hc)
            clear HJ hE hPt hj1 hj2 hw hrow hc CE
            go_wp2
            go_roundw
            case rel => exact ⟨k, j + 1, os, by omega, by omega, by omega, rfl, by go_num, HN, HR.out, HW.out⟩
            case measure => simp [intOf]; omega

theorem cut_row {W : World} {B : Nat} {a : Option Addr} {n c : Nat} {l : List T} (hn : l.length = n + 1) (h : W.ownsRow B 9 1 (.slice a (n + 1) c) (n + 1) (l.map Path.tx)) : W.ownsRow B 9 1 (.slice a n c) n (l.dropLast.map Path.tx) := by
  rw [← hn] at h
  have := Path.owns_cut h
  rw [List.length_dropLast, hn, Nat.add_sub_cancel] at this
  exact this
theorem row_snoc {l : List T} {t : T} {E : ByteArray} (hE : tb t = E) : (l ++ [t]).map Path.tx = l.map Path.tx ++ [.string E] := by
  rw [List.map_append, ← hE]; rfl
set_option maxHeartbeats 8000000 in
theorem refNorm_any (v0 : Value) (L : List T) (hL : L.length ≤ 30000) (hs : ∀ t ∈ L, t.length ≤ 30000) (w : World) (h0 : Path.Strs w v0 L) :
    Calls Tryz.prog 87 #[v0] w (GotL w (Path.norm [] L)) := by
  obtain ⟨i0, hi, hz0, hz1, hz2⟩ := info_parts Path.infoText
  have HS := Lib.hid h0
  obtain ⟨a, cap, rfl, hc1, hc2, hc3, hc4⟩ := h0
  clear hc4 hc3
  have HHs := Lib.hid hs
  clear hs
  have HL := Lib.hid (Path.outP_all L)
  go_enter Tryz.func87, Tryz.ntmps87
  go_wp2
  go_loopw [3, 4] (fun v i wr => ∃ (k n : Nat) (os : List T), k ≤ L.length ∧ n ≤ k ∧ i = .int .i64 k ∧ Hid (os.length = n) ∧ Hid (Path.outP ((Path.pairs L).take k) = os) ∧ wr.ownsRow w.heap.size 9 1 v n (os.map Path.tx) ∧ Below w.heap.size w wr) (fun _ i _ => L.length - (intOf i).toNat)
  case atStart => exact ⟨0, 0, [], Nat.zero_le _, Nat.le_refl _, rfl, Lib.hid rfl, Lib.hid rfl, World.ownsRow_nil _ _ _ _, Below.refl _ _⟩
  case round =>
    obtain ⟨k, n, os, hk, hn, rfl, HO, HJ, hrow, hw⟩ := hrel
    by_cases hlt : k < L.length
    · have HW := Lib.hid hw
      have HR := Lib.hid hrow
      obtain ⟨a1, c1, hv, _, _, _, h4⟩ := HS.out.later hw
      injection hv with e1 e2 e3
      subst e1; subst e3
      obtain ⟨b, off, rfl, hcell⟩ := h4 (by intro e; rw [e] at hlt; simp at hlt)
      have g0 := hcell k hlt
      have hts := HHs.out _ (List.getElem_mem hlt)
      have hkc : k < cap := by omega
      unfold maxLen at hc2
      obtain ⟨t, ht⟩ : ∃ t : T, L[k] = t := ⟨_, rfl⟩
      obtain ⟨E, hE⟩ : ∃ E, tb t = E := ⟨_, rfl⟩
      obtain ⟨lst, hl⟩ : ∃ b, decide (k + 1 = L.length) = b := ⟨_, rfl⟩
      have hst : Path.outP ((Path.pairs L).take (k + 1)) = Path.step os lst t := by rw [Path.pairs_snoc L k hlt, Path.outP_snoc, HJ.out, ht, hl]
      have HT := Lib.hid hst
      rw [ht] at g0 hts
      have g : wr.cell? ⟨b, off + k, none⟩ = some (.string E) := by rw [g0, ← hE]; rfl
      clear g0
      have hEs : E.size ≤ 30000 := by rw [size_tb hE]; exact hts
      have q5 : ((k : Int) == (L.length : Int) - 1) = lst := by
        rw [← hl, Bool.eq_iff_iff, beq_iff_eq, decide_eq_true_eq]; omega
      have HE := Lib.hid hE
      have hd0 := Path.dots_cases t
      have CD : ∀ (d : Nat) (z : Int), Path.dotsN t = d → (d : Int) = z → Hid (∀ u, Calls Tryz.prog 97 #[.string E] u fun e w' => e = .returned (.int .i64 z) ∧ Below u.heap.size u w') := fun d z h hz => Lib.hid (fun u => by rw [← hz]; exact refDots_big E hEs d (by rw [list_tb hE]; exact h) u)
      obtain ⟨a', c', rfl, k1, k2, k3⟩ := Path.owns_shape hrow
      unfold maxLen at k2
      have K3 := Lib.hid k3
      clear k3 hst hE ht hl h4 hcell hts HJ hw hrow
      rcases hd0 with ⟨hd, _⟩ | ⟨hd, _⟩ | ⟨hd, _⟩
      · have C := CD 1 1 hd rfl
        have hx := Path.step_one os lst t hd
        have HX := Lib.hid hx
        clear CD hd hx
        cases lst
        · go_wp2_with fail
          refine (C.out _).mono ?_
          rintro e w1 ⟨rfl, hB1⟩
          have hrow1 := Path.owns_below HR.out hB1
          have hw1 := Ascii.below2 HW.out hB1
          have g1 : w1.cell? ⟨b, off + k, none⟩ = some (.string E) := (hB1.cell (World.block_lt_of_cell? _ _ g)).trans g
          clear g
          go_wp2
          go_roundw
          case rel => exact ⟨k + 1, n, os, by omega, by omega, by go_num, HO, Lib.hid (by rw [HT.out, HX.out]; rfl), hrow1, hw1⟩
          case measure => simp [intOf]; omega
        · go_wp2_with fail
          refine (C.out _).mono ?_
          rintro e w1 ⟨rfl, hB1⟩
          have hrow1 := Path.owns_below HR.out hB1
          have hw1 := Ascii.below2 HW.out hB1
          have g1 : w1.cell? ⟨b, off + k, none⟩ = some (.string E) := (hB1.cell (World.block_lt_of_cell? _ _ g)).trans g
          clear g
          go_wp2_with (at_builtin; refine wpList_append_own _ rfl _ _ 25 rfl w.heap.size 9 i0 (.string ⟨#[]⟩) 1 16 Tryz.underlying25 hi hz0 hz1 hz2 rfl (by decide) _ _ _ rfl (hrow1.alloc (.cells #[.string ⟨#[]⟩] 9)) ⟨w1.heap.size, 0, none⟩ 1 1 [.string ⟨#[]⟩] rfl rfl (cell_one_new _ _ _) (by simp [Value.oneCell']) (by unfold maxLen; omega) (by omega) (by have := hw1.size; simp; omega) ?_; intro v' w2 hown' hgrow hnil)
          have HG := Lib.hid ((hw1.alloc hw1.size (.cells #[.string ⟨#[]⟩] 9)).grown hgrow (by have := hw1.size; simp; omega) (fun j e => ((hrow1.lt j e).1)))
          go_roundw
          case rel => exact ⟨k + 1, n + 1, os ++ [[]], by omega, by omega, by go_num, Lib.hid (by rw [List.length_append, HO.out]; rfl), Lib.hid (by rw [HT.out, HX.out]; rfl), by rw [row_snoc (E := ⟨#[]⟩) rfl]; exact hown', HG.out⟩
          case measure => simp [intOf]; omega
      · have C := CD 2 2 hd rfl
        have hx := Path.step_two os lst t hd
        have HX := Lib.hid hx
        clear CD hd hx
        rcases Nat.eq_zero_or_pos n with hn0 | hn0
        · have hos : os = [] := List.length_eq_zero_iff.1 (by rw [HO.out, hn0])
          subst hn0
          have HOS := Lib.hid hos
          clear hos
          have q7 : decide (0 < (0 : Nat)) = false := rfl
          cases lst
          · go_wp2_with fail
            refine (C.out _).mono ?_
            rintro e w1 ⟨rfl, hB1⟩
            have hrow1 := Path.owns_below HR.out hB1
            have hw1 := Ascii.below2 HW.out hB1
            have g1 : w1.cell? ⟨b, off + k, none⟩ = some (.string E) := (hB1.cell (World.block_lt_of_cell? _ _ g)).trans g
            clear g
            go_wp2
            go_roundw
            case rel => exact ⟨k + 1, 0, os, by omega, by omega, by go_num, HO, Lib.hid (by rw [HT.out, HX.out, HOS.out]; rfl), hrow1, hw1⟩
            case measure => simp [intOf]; omega
          · go_wp2_with fail
            refine (C.out _).mono ?_
            rintro e w1 ⟨rfl, hB1⟩
            have hrow1 := Path.owns_below HR.out hB1
            have hw1 := Ascii.below2 HW.out hB1
            have g1 : w1.cell? ⟨b, off + k, none⟩ = some (.string E) := (hB1.cell (World.block_lt_of_cell? _ _ g)).trans g
            clear g
            go_wp2_with (at_builtin; refine wpList_append_own _ rfl _ _ 25 rfl w.heap.size 9 i0 (.string ⟨#[]⟩) 1 16 Tryz.underlying25 hi hz0 hz1 hz2 rfl (by decide) _ _ _ rfl (hrow1.alloc (.cells #[.string ⟨#[]⟩] 9)) ⟨w1.heap.size, 0, none⟩ 1 1 [.string ⟨#[]⟩] rfl rfl (cell_one_new _ _ _) (by simp [Value.oneCell']) (by unfold maxLen; omega) (by omega) (by have := hw1.size; simp; omega) ?_; intro v' w2 hown' hgrow hnil)
            have HG := Lib.hid ((hw1.alloc hw1.size (.cells #[.string ⟨#[]⟩] 9)).grown hgrow (by have := hw1.size; simp; omega) (fun j e => ((hrow1.lt j e).1)))
            go_roundw
            case rel => exact ⟨k + 1, 0 + 1, os ++ [[]], by omega, by omega, by go_num, Lib.hid (by rw [List.length_append, HO.out]; rfl), Lib.hid (by rw [HT.out, HX.out, HOS.out]; rfl), by rw [row_snoc (E := ⟨#[]⟩) rfl]; exact hown', HG.out⟩
            case measure => simp [intOf]; omega
        · obtain ⟨p, rfl⟩ : ∃ p, n = p + 1 := ⟨n - 1, by omega⟩
          have q7 : decide (0 < p + 1) = true := decide_eq_true (by omega)
          obtain ⟨x, rfl⟩ : ∃ x, a' = some x := by cases a' with | none => exact absurd (K3.out rfl) (by omega) | some x => exact ⟨x, rfl⟩
          clear K3 hn0
          cases lst
          · go_wp2_with fail
            refine (C.out _).mono ?_
            rintro e w1 ⟨rfl, hB1⟩
            have hrow1 := Path.owns_below HR.out hB1
            have hw1 := Ascii.below2 HW.out hB1
            have g1 : w1.cell? ⟨b, off + k, none⟩ = some (.string E) := (hB1.cell (World.block_lt_of_cell? _ _ g)).trans g
            clear g
            have hrow2 := cut_row HO.out hrow1
            go_wp2
            go_roundw
            case rel => exact ⟨k + 1, p, os.dropLast, by omega, by omega, by go_num, Lib.hid (by rw [List.length_dropLast, HO.out]; rfl), Lib.hid (by rw [HT.out, HX.out]; rfl), hrow2, hw1⟩
            case measure => simp [intOf]; omega
          · go_wp2_with fail
            refine (C.out _).mono ?_
            rintro e w1 ⟨rfl, hB1⟩
            have hrow1 := Path.owns_below HR.out hB1
            have hw1 := Ascii.below2 HW.out hB1
            have g1 : w1.cell? ⟨b, off + k, none⟩ = some (.string E) := (hB1.cell (World.block_lt_of_cell? _ _ g)).trans g
            clear g
            have hrow2 := cut_row HO.out hrow1
            go_wp2_with (at_builtin; refine wpList_append_own _ rfl _ _ 25 rfl w.heap.size 9 i0 (.string ⟨#[]⟩) 1 16 Tryz.underlying25 hi hz0 hz1 hz2 rfl (by decide) _ _ _ rfl (hrow2.alloc (.cells #[.string ⟨#[]⟩] 9)) ⟨w1.heap.size, 0, none⟩ 1 1 [.string ⟨#[]⟩] rfl rfl (cell_one_new _ _ _) (by simp [Value.oneCell']) (by unfold maxLen; omega) (by omega) (by have := hw1.size; simp; omega) ?_; intro v' w2 hown' hgrow hnil)
            have HG := Lib.hid ((hw1.alloc hw1.size (.cells #[.string ⟨#[]⟩] 9)).grown hgrow (by have := hw1.size; simp; omega) (fun j e => ((hrow2.lt j e).1)))
            go_roundw
            case rel => exact ⟨k + 1, p + 1, os.dropLast ++ [[]], by omega, by omega, by go_num, Lib.hid (by rw [List.length_append, List.length_dropLast, HO.out]; rfl), Lib.hid (by rw [HT.out, HX.out]; rfl), by rw [row_snoc (E := ⟨#[]⟩) rfl]; exact hown', HG.out⟩
            case measure => simp [intOf]; omega
      · have C := CD 0 0 hd rfl
        have hx := Path.step_none os lst t hd
        have HX := Lib.hid hx
        clear CD hd hx
        go_wp2_with fail
        refine (C.out _).mono ?_
        rintro e w1 ⟨rfl, hB1⟩
        have hrow1 := Path.owns_below HR.out hB1
        have hw1 := Ascii.below2 HW.out hB1
        have g1 : w1.cell? ⟨b, off + k, none⟩ = some (.string E) := (hB1.cell (World.block_lt_of_cell? _ _ g)).trans g
        clear g
        go_wp2_with (at_builtin; refine wpList_append_own _ rfl _ _ 25 rfl w.heap.size 9 i0 (.string ⟨#[]⟩) 1 16 Tryz.underlying25 hi hz0 hz1 hz2 rfl (by decide) _ _ _ rfl (hrow1.alloc (.cells #[.string E] 9)) ⟨w1.heap.size, 0, none⟩ 1 1 [.string E] rfl rfl (cell_one_new _ _ _) (by simp [Value.oneCell']) (by unfold maxLen; omega) (by omega) (by have := hw1.size; simp; omega) ?_; intro v' w2 hown' hgrow hnil)
        have HG := Lib.hid ((hw1.alloc hw1.size (.cells #[.string E] 9)).grown hgrow (by have := hw1.size; simp; omega) (fun j e => ((hrow1.lt j e).1)))
        go_roundw
        case rel => exact ⟨k + 1, n + 1, os ++ [t], by omega, by omega, by go_num, Lib.hid (by rw [List.length_append, HO.out]; rfl), Lib.hid (by rw [HT.out, HX.out]), by rw [row_snoc HE.out]; exact hown', HG.out⟩
        case measure => simp [intOf]; omega
    · obtain rfl : k = L.length := by omega
      have e : os = Path.norm [] L := by rw [← HJ.out, ← HL.out, List.take_of_length_le (by rw [Path.pairs_len]; exact Nat.le_refl _)]
      have ho := HO.out
      rw [e] at ho
      subst ho
      rw [e] at hrow
      have hst := Path.owns_strs hrow
      have hnw := Path.owns_new hrow
      clear e HJ hrow
      go_wp2
      go_ret
      exact ⟨_, rfl, hst, hnw, hw⟩
theorem refPathParse_any (s : ByteArray) (hs : s.size ≤ 9000) (L : List T) (hL : Path.parse s.data.toList = L) (w : World) :
    Calls Tryz.prog 44 #[.string s] w (GotL w L) := by
  have h1 : (Path.segs s.data.toList).length ≤ 30000 ∧ ∀ t ∈ Path.segs s.data.toList, t.length ≤ 30000 := by
    have e1 := Path.split_len (Path.enc (Path.strip s.data.toList))
    have e2 := Path.split_sum (Path.enc (Path.strip s.data.toList))
    have e3 : (Path.enc (Path.strip s.data.toList)).length ≤ 3 * (Path.strip s.data.toList).length := Pct.encode_len 3 _
    have e4 := Path.strip_len s.data.toList
    rw [size_list] at e4
    exact ⟨by show (Path.split _).length ≤ _; omega, fun t ht => by have := e2 t ht; omega⟩
  have CS := Lib.hid (fun u => refSegs_any s (by omega) _ rfl u)
  have CN := Lib.hid (fun v u hu => refNorm_any v (Path.segs s.data.toList) h1.1 h1.2 u hu)
  have HL := Lib.hid hL
  clear hL h1
  go_enter Tryz.func44, Tryz.ntmps44
  go_wp2_with fail
  refine (CS.out _).mono ?_
  rintro e w1 ⟨v1, rfl, hst, hnw, hB1⟩
  go_wp2_with fail
  refine (CN.out v1 _ hst).mono ?_
  rintro e w2 ⟨v2, rfl, hst2, hnw2, hB2⟩
  have hfin : Path.Strs w2 v2 L ∧ Path.New w.heap.size v2 ∧ Below w.heap.size w w2 := ⟨by rw [← HL.out]; exact hst2, hnw2.mono hB1.size, Ascii.below2 hB1 hB2⟩
  have HF := Lib.hid hfin
  clear hst hnw hB1 hst2 hnw2 hB2 hfin CS CN HL
  go_wp2
  go_ret
  exact ⟨_, rfl, HF.out.1, HF.out.2.1, HF.out.2.2⟩
end Go.Proofs.YtkjkcgbmfglihaaGreatDoor.Url

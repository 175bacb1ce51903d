/-
  The document's functions of layer 8: Lower of longer texts, Dots, segments, Norm, Parse, May, Show.
  The document's functions of layer 8: Show and May of paths.
  The document's functions of layer 7: May and Show of hosts.
  The document's May of layer 9.
  The document's functions of layer 10: Bare, Open, user, Door.
  The document's Show of layer 10.
  The document's Parse of hosts.
  The document's authority.
  The document's Parse of addresses.
-/
import Derived.Deep.MidRow
import Derived.Deep.DeepCutAuto
import Derived.Test.YtkhjhiofgoampaaGreatDoorShow
namespace Go.Proofs.YtkhjhiofgoampaaGreatDoor.Url
set_option linter.unusedSimpArgs false
set_option linter.unusedVariables false
set_option maxRecDepth 100000


open Go.RowKit Go.Shelf

set_option maxRecDepth 100000
theorem refDots_big (s : ByteArray) (hs : s.size ≤ 30000) (n : Nat) (hn : Path.dotsN s.data.toList = n) (w : World) :
    Calls Tryz.prog 119 #[.string s] w fun e w' => e = .returned (.int .i64 (n : Int)) ∧ Below w.heap.size w w' := by
  obtain ⟨L, hL⟩ : ∃ L, tb (Ascii.lower s.data.toList) = L := ⟨_, rfl⟩
  have HL := Lib.hid (fun u => show Calls Tryz.prog 85 #[.string s] u fun e w' => e = .returned (.string L) ∧ Below u.heap.size u w' from hL ▸ Ascii.refLower_any s hs u)
  have hc := Path.dots_cases s.data.toList
  have hl : Path.low s.data.toList = L.toList := by rw [Path.tl, list_tb hL]; rfl
  rw [hn, hl, dot1_iff, dot2_iff] at hc
  clear hL hl hn
  go_enter Tryz.func119, Tryz.ntmps119
  go_wp2_with fail
  refine (HL.out _).mono ?_
  rintro e u1 ⟨rfl, hB1⟩
  clear HL
  rcases hc with ⟨rfl, h⟩ | ⟨rfl, h⟩ | ⟨rfl, h, h'⟩
  · rcases h with h | h
    · have q1 : (L.toList == [46]) = true := by rw [h]; rfl
      clear h
      go_wp2
      go_ret
      exact ⟨rfl, hB1⟩
    · have q1 : (L.toList == [46]) = false := by rw [h]; rfl
      have q2 : (L.toList == [37, 50, 101]) = true := by rw [h]; rfl
      clear h
      go_wp2
      go_ret
      exact ⟨rfl, hB1⟩
  · have q1 : (L.toList == [46]) = false := by rcases h with h | h | h | h <;> rw [h] <;> rfl
    have q2 : (L.toList == [37, 50, 101]) = false := by rcases h with h | h | h | h <;> rw [h] <;> rfl
    rcases h with h | h | h | h
    · have q3 : (L.toList == [46, 46]) = true := by rw [h]; rfl
      clear h
      go_wp2
      go_ret
      exact ⟨rfl, hB1⟩
    · have q3 : (L.toList == [46, 46]) = false := by rw [h]; rfl
      have q4 : (L.toList == [46, 37, 50, 101]) = true := by rw [h]; rfl
      clear h
      go_wp2
      go_ret
      exact ⟨rfl, hB1⟩
    · have q3 : (L.toList == [46, 46]) = false := by rw [h]; rfl
      have q4 : (L.toList == [46, 37, 50, 101]) = false := by rw [h]; rfl
      have q5 : (L.toList == [37, 50, 101, 46]) = true := by rw [h]; rfl
      clear h
      go_wp2
      go_ret
      exact ⟨rfl, hB1⟩
    · have q3 : (L.toList == [46, 46]) = false := by rw [h]; rfl
      have q4 : (L.toList == [46, 37, 50, 101]) = false := by rw [h]; rfl
      have q5 : (L.toList == [37, 50, 101, 46]) = false := by rw [h]; rfl
      have q6 : (L.toList == [37, 50, 101, 37, 50, 101]) = true := by rw [h]; rfl
      clear h
      go_wp2
      go_ret
      exact ⟨rfl, hB1⟩
  · have h : ¬ (L.toList = [46] ∨ L.toList = [37, 50, 101]) := fun e => h ((dot1_iff _).2 e)
    have h' : ¬ (L.toList = [46, 46] ∨ L.toList = [46, 37, 50, 101] ∨ L.toList = [37, 50, 101, 46] ∨ L.toList = [37, 50, 101, 37, 50, 101]) := fun e => h' ((dot2_iff _).2 e)
    simp only [not_or] at h h'
    have q1 : (L.toList == [46]) = false := beq_eq_false_iff_ne.2 h.1
    have q2 : (L.toList == [37, 50, 101]) = false := beq_eq_false_iff_ne.2 h.2
    have q3 : (L.toList == [46, 46]) = false := beq_eq_false_iff_ne.2 h'.1
    have q4 : (L.toList == [46, 37, 50, 101]) = false := beq_eq_false_iff_ne.2 h'.2.1
    have q5 : (L.toList == [37, 50, 101, 46]) = false := beq_eq_false_iff_ne.2 h'.2.2.1
    have q6 : (L.toList == [37, 50, 101, 37, 50, 101]) = false := beq_eq_false_iff_ne.2 h'.2.2.2
    clear h h'
    go_wp2
    go_ret
    exact ⟨rfl, hB1⟩

def GotL (w : World) (l : List T) (e : Ending) (w' : World) : Prop := ∃ v, e = .returned v ∧ Path.Strs w' v l ∧ Path.New w.heap.size v ∧ Below w.heap.size w w'

set_option maxHeartbeats 4000000 in
theorem refSegs_any (s : ByteArray) (hs : s.size ≤ 25000) (L : List T) (hL : Path.segs s.data.toList = L) (w : World) :
    Calls Tryz.prog 123 #[.string s] w (GotL w L) := by
  obtain ⟨i0, hi, hz0, hz1, hz2⟩ := info_parts Path.infoText
  obtain ⟨S, hS⟩ : ∃ S, tb (Path.strip s.data.toList) = S := ⟨_, rfl⟩
  have hst : SegSt S L 0 0 [] := .inl ⟨Nat.zero_le _, by simp, by rw [List.drop_zero, list_tb hS, List.nil_append]; exact hL⟩
  have HST := Lib.hid hst
  clear hst hL
  have hcase : (0 < s.size ∧ ∃ h : 0 < s.size, ((s[0].toNat : Int) == 47) = true ∧ s.extract 1 s.size = S ∧ S.size ≤ 25000) ∨ (0 < s.size ∧ ∃ h : 0 < s.size, ((s[0].toNat : Int) == 47) = false ∧ S = s) ∨ (decide (0 < s.size) = false ∧ S = s) := by
    by_cases h : 0 < s.size
    · have e := Pct.drop_cons s 0 h
      rw [List.drop_zero] at e
      by_cases h47 : s[0] = 47
      · refine .inl ⟨h, h, by rw [h47]; rfl, ?_, ?_⟩
        · rw [piece_from s 1 (by omega), ← hS]
          conv => rhs; rw [e, h47, Path.strip_slash]
        · rw [size_tb hS, e, h47, Path.strip_slash, List.length_drop, size_list]; omega
      · refine .inr (.inl ⟨h, h, beq_eq_false_iff_ne.2 (fun q => h47 (UInt8.toNat_inj.1 (by simpa using (by omega : s[0].toNat = 47)))), ?_⟩)
        rw [← hS, e, Path.strip_other _ _ h47, ← e, tb_of]
    · have : s.data.toList = [] := List.length_eq_zero_iff.1 (by rw [size_list]; omega)
      exact .inr (.inr ⟨decide_eq_false h, by rw [← hS, this]; show tb [] = s; rw [← this, tb_of]⟩)
  clear hS
  rcases hcase with ⟨h0, _, q47, p1, hS1⟩ | ⟨h0, _, q47, rfl⟩ | ⟨h0, rfl⟩
  all_goals
    go_enter Tryz.func123, Tryz.ntmps123
    go_wp2
    go_loopw [3, 4, 5] (fun v f i wr => ∃ (k j : Nat) (os : List T), k ≤ j ∧ j ≤ S.size + 1 ∧ os.length ≤ j ∧ f = .int .i64 k ∧ i = .int .i64 j ∧ Hid (SegSt S L k j os) ∧ wr.ownsRow w.heap.size 9 1 v os.length (os.map Path.tx) ∧ Below w.heap.size w wr) (fun _ _ i _ => S.size + 1 - (intOf i).toNat)
    case atStart => exact ⟨0, 0, [], Nat.le_refl _, Nat.zero_le _, Nat.zero_le _, rfl, rfl, HST, World.ownsRow_nil _ _ _ _, Below.refl _ _⟩
    case round =>
      obtain ⟨k, j, os, hkj, hj, hos, rfl, rfl, HJ, hrow, hw⟩ := hrel
      by_cases hj1 : j = S.size + 1
      · have hosL : os = L := by
          rcases HJ.out with ⟨h, _⟩ | ⟨_, h⟩
          · omega
          · exact h
        have q1 : decide ((j : Int) ≤ (S.size : Int)) = false := decide_eq_false (by omega)
        have q1' : decide (j ≤ S.size) = false := decide_eq_false (by omega)
        subst hosL
        have hst := Path.owns_strs hrow
        have hnw := Path.owns_new hrow
        clear HJ hj1
        go_wp2
        go_ret
        exact ⟨_, rfl, hst, hnw, hw⟩
      · have q1 : decide ((j : Int) ≤ (S.size : Int)) = true := decide_eq_true (by omega)
        have q1' : decide (j ≤ S.size) = true := decide_eq_true (by omega)
        obtain ⟨P, hP⟩ : ∃ P, S.extract k j = P := ⟨_, rfl⟩
        have hPt := piece_mid S k j
        have hPs : P.size ≤ S.size := by rw [← hP, hPt]; exact mid_len S k j
        obtain ⟨E, hE⟩ : ∃ E, tb (Path.enc ((S.data.toList.take j).drop k)) = E := ⟨_, rfl⟩
        have CE := Lib.hid (fun u => show Calls Tryz.prog 77 #[.string P, .int .i64 3] u fun e w' => e = .returned (.string E) ∧ Below u.heap.size u w' from by
          have := Pct.refEncode_any P (by omega) 3 u
          rw [← hP, hPt, tb_list] at this
          rw [← hE, ← hP, hPt]; exact this)
        have HE := Lib.hid hE
        have HW := Lib.hid hw
        have HR := Lib.hid hrow
        by_cases hj2 : j = S.size
        · have HN := Lib.hid (seg_end (by omega) (hj2 ▸ HJ.out))
          have q2 : ((j : Int) == (S.size : Int)) = true := by rw [hj2]; simp
          have HJ2 := Lib.hid hj2
          have hj3 : j ≤ S.size := by omega
          clear HJ hE hPt hj2 hj1 hw hrow
          go_wp2_with fail
          refine (CE.out _).mono ?_
          rintro e w1 ⟨rfl, hB1⟩
          have hrow1 := Path.owns_below HR.out hB1
          have hw1 := Ascii.below2 HW.out hB1
          go_wp2_with (at_builtin; refine wpList_append_own _ rfl _ _ 25 rfl w.heap.size 9 i0 (.string ⟨#[]⟩) 1 16 Tryz.underlying25 hi hz0 hz1 hz2 rfl (by decide) _ _ _ rfl (hrow1.alloc (.cells #[.string E] 9)) ⟨w1.heap.size, 0, none⟩ 1 1 [.string E] rfl rfl (cell_one_new _ _ _) (by simp [Value.oneCell']) (by unfold maxLen; omega) (by omega) (by have := hw1.size; simp; omega) ?_; intro v' w2 hown' hgrow hnil)
          have hj2 := HJ2.out
          go_roundw
          case rel =>
            refine ⟨S.size + 1, S.size + 1, _, Nat.le_refl _, Nat.le_refl _, ?_, by rw [← hj2]; go_num, by rw [← hj2]; go_num, HN, ?_, ?_⟩
            · simp; omega
            · rw [List.map_append, List.length_append, show List.map Path.tx [Path.enc ((S.data.toList.take S.size).drop k)] = [.string E] from by rw [← HE.out, hj2]; rfl]; exact hown'
            · exact (hw1.alloc hw1.size (.cells #[.string E] 9)).grown hgrow (by have := hw1.size; simp; omega) (fun j e => ((hrow1.lt j e).1))
          case measure => simp [intOf]; omega
        · have hlt : j < S.size := by omega
          have q2 : ((j : Int) == (S.size : Int)) = false := beq_eq_false_iff_ne.2 (by omega)
          by_cases hc : S[j] = 47
          · have q3 : ((S[j].toNat : Int) == 47) = true := by rw [hc]; rfl
            have HN := Lib.hid (seg_cut hkj hlt HJ.out hc)
            clear HJ hE hPt hj1 hj2 hw hrow hc
            go_wp2_with fail
            refine (CE.out _).mono ?_
            rintro e w1 ⟨rfl, hB1⟩
            have hrow1 := Path.owns_below HR.out hB1
            have hw1 := Ascii.below2 HW.out hB1
            go_wp2_with (at_builtin; refine wpList_append_own _ rfl _ _ 25 rfl w.heap.size 9 i0 (.string ⟨#[]⟩) 1 16 Tryz.underlying25 hi hz0 hz1 hz2 rfl (by decide) _ _ _ rfl (hrow1.alloc (.cells #[.string E] 9)) ⟨w1.heap.size, 0, none⟩ 1 1 [.string E] rfl rfl (cell_one_new _ _ _) (by simp [Value.oneCell']) (by unfold maxLen; omega) (by omega) (by have := hw1.size; simp; omega) ?_; intro v' w2 hown' hgrow hnil)
            go_roundw
            case rel =>
              refine ⟨j + 1, j + 1, _, Nat.le_refl _, by omega, ?_, by go_num, by go_num, HN, ?_, ?_⟩
              · simp; omega
              · rw [List.map_append, List.length_append, show List.map Path.tx [Path.enc ((S.data.toList.take j).drop k)] = [.string E] from by rw [← HE.out]; rfl]; exact hown'
              · exact (hw1.alloc hw1.size (.cells #[.string E] 9)).grown hgrow (by have := hw1.size; simp; omega) (fun j e => ((hrow1.lt j e).1))
            case measure => simp [intOf]; omega
          · have q3 : ((S[j].toNat : Int) == 47) = false := beq_eq_false_iff_ne.2 (fun q => hc (UInt8.toNat_inj.1 (by simpa using (by omega : S[j].toNat = 47))))
            have HN := Lib.hid (seg_on hkj hlt HJ.out hc)
            clear HJ hE hPt hj1 hj2 hw hrow hc CE
            go_wp2
            go_roundw
            case rel => exact ⟨k, j + 1, os, by omega, by omega, by omega, rfl, by go_num, HN, HR.out, HW.out⟩
            case measure => simp [intOf]; omega

theorem cut_row {W : World} {B : Nat} {a : Option Addr} {n c : Nat} {l : List T} (hn : l.length = n + 1) (h : W.ownsRow B 9 1 (.slice a (n + 1) c) (n + 1) (l.map Path.tx)) : W.ownsRow B 9 1 (.slice a n c) n (l.dropLast.map Path.tx) := by
  rw [← hn] at h
  have := Path.owns_cut h
  rw [List.length_dropLast, hn, Nat.add_sub_cancel] at this
  exact this

theorem row_snoc {l : List T} {t : T} {E : ByteArray} (hE : tb t = E) : (l ++ [t]).map Path.tx = l.map Path.tx ++ [.string E] := by
  rw [List.map_append, ← hE]; rfl

set_option maxHeartbeats 8000000 in
theorem refNorm_any (v0 : Value) (L : List T) (hL : L.length ≤ 30000) (hs : ∀ t ∈ L, t.length ≤ 30000) (w : World) (h0 : Path.Strs w v0 L) :
    Calls Tryz.prog 122 #[v0] w (GotL w (Path.norm [] L)) := by
  obtain ⟨i0, hi, hz0, hz1, hz2⟩ := info_parts Path.infoText
  have HS := Lib.hid h0
  obtain ⟨a, cap, rfl, hc1, hc2, hc3, hc4⟩ := h0
  clear hc4 hc3
  have HHs := Lib.hid hs
  clear hs
  have HL := Lib.hid (Path.outP_all L)
  go_enter Tryz.func122, Tryz.ntmps122
  go_wp2
  go_loopw [3, 4] (fun v i wr => ∃ (k n : Nat) (os : List T), k ≤ L.length ∧ n ≤ k ∧ i = .int .i64 k ∧ Hid (os.length = n) ∧ Hid (Path.outP ((Path.pairs L).take k) = os) ∧ wr.ownsRow w.heap.size 9 1 v n (os.map Path.tx) ∧ Below w.heap.size w wr) (fun _ i _ => L.length - (intOf i).toNat)
  case atStart => exact ⟨0, 0, [], Nat.zero_le _, Nat.le_refl _, rfl, Lib.hid rfl, Lib.hid rfl, World.ownsRow_nil _ _ _ _, Below.refl _ _⟩
  case round =>
    obtain ⟨k, n, os, hk, hn, rfl, HO, HJ, hrow, hw⟩ := hrel
    by_cases hlt : k < L.length
    · have HW := Lib.hid hw
      have HR := Lib.hid hrow
      obtain ⟨a1, c1, hv, _, _, _, h4⟩ := HS.out.later hw
      injection hv with e1 e2 e3
      subst e1; subst e3
      obtain ⟨b, off, rfl, hcell⟩ := h4 (by intro e; rw [e] at hlt; simp at hlt)
      have g0 := hcell k hlt
      have hts := HHs.out _ (List.getElem_mem hlt)
      have hkc : k < cap := by omega
      unfold maxLen at hc2
      obtain ⟨t, ht⟩ : ∃ t : T, L[k] = t := ⟨_, rfl⟩
      obtain ⟨E, hE⟩ : ∃ E, tb t = E := ⟨_, rfl⟩
      obtain ⟨lst, hl⟩ : ∃ b, decide (k + 1 = L.length) = b := ⟨_, rfl⟩
      have hst : Path.outP ((Path.pairs L).take (k + 1)) = Path.step os lst t := by rw [Path.pairs_snoc L k hlt, Path.outP_snoc, HJ.out, ht, hl]
      have HT := Lib.hid hst
      rw [ht] at g0 hts
      have g : wr.cell? ⟨b, off + k, none⟩ = some (.string E) := by rw [g0, ← hE]; rfl
      clear g0
      have hEs : E.size ≤ 30000 := by rw [size_tb hE]; exact hts
      have q5 : ((k : Int) == (L.length : Int) - 1) = lst := by
        rw [← hl, Bool.eq_iff_iff, beq_iff_eq, decide_eq_true_eq]; omega
      have HE := Lib.hid hE
      have hd0 := Path.dots_cases t
      have CD : ∀ (d : Nat) (z : Int), Path.dotsN t = d → (d : Int) = z → Hid (∀ u, Calls Tryz.prog 119 #[.string E] u fun e w' => e = .returned (.int .i64 z) ∧ Below u.heap.size u w') := fun d z h hz => Lib.hid (fun u => by rw [← hz]; exact refDots_big E hEs d (by rw [list_tb hE]; exact h) u)
      obtain ⟨a', c', rfl, k1, k2, k3⟩ := Path.owns_shape hrow
      unfold maxLen at k2
      have K3 := Lib.hid k3
      clear k3 hst hE ht hl h4 hcell hts HJ hw hrow
      rcases hd0 with ⟨hd, _⟩ | ⟨hd, _⟩ | ⟨hd, _⟩
      · have C := CD 1 1 hd rfl
        have hx := Path.step_one os lst t hd
        have HX := Lib.hid hx
        clear CD hd hx
        cases lst
        · go_wp2_with fail
          refine (C.out _).mono ?_
          rintro e w1 ⟨rfl, hB1⟩
          have hrow1 := Path.owns_below HR.out hB1
          have hw1 := Ascii.below2 HW.out hB1
          have g1 : w1.cell? ⟨b, off + k, none⟩ = some (.string E) := (hB1.cell (World.block_lt_of_cell? _ _ g)).trans g
          clear g
          go_wp2
          go_roundw
          case rel => exact ⟨k + 1, n, os, by omega, by omega, by go_num, HO, Lib.hid (by rw [HT.out, HX.out]; rfl), hrow1, hw1⟩
          case measure => simp [intOf]; omega
        · go_wp2_with fail
          refine (C.out _).mono ?_
          rintro e w1 ⟨rfl, hB1⟩
          have hrow1 := Path.owns_below HR.out hB1
          have hw1 := Ascii.below2 HW.out hB1
          have g1 : w1.cell? ⟨b, off + k, none⟩ = some (.string E) := (hB1.cell (World.block_lt_of_cell? _ _ g)).trans g
          clear g
          go_wp2_with (at_builtin; refine wpList_append_own _ rfl _ _ 25 rfl w.heap.size 9 i0 (.string ⟨#[]⟩) 1 16 Tryz.underlying25 hi hz0 hz1 hz2 rfl (by decide) _ _ _ rfl (hrow1.alloc (.cells #[.string ⟨#[]⟩] 9)) ⟨w1.heap.size, 0, none⟩ 1 1 [.string ⟨#[]⟩] rfl rfl (cell_one_new _ _ _) (by simp [Value.oneCell']) (by unfold maxLen; omega) (by omega) (by have := hw1.size; simp; omega) ?_; intro v' w2 hown' hgrow hnil)
          have HG := Lib.hid ((hw1.alloc hw1.size (.cells #[.string ⟨#[]⟩] 9)).grown hgrow (by have := hw1.size; simp; omega) (fun j e => ((hrow1.lt j e).1)))
          go_roundw
          case rel => exact ⟨k + 1, n + 1, os ++ [[]], by omega, by omega, by go_num, Lib.hid (by rw [List.length_append, HO.out]; rfl), Lib.hid (by rw [HT.out, HX.out]; rfl), by rw [row_snoc (E := ⟨#[]⟩) rfl]; exact hown', HG.out⟩
          case measure => simp [intOf]; omega
      · have C := CD 2 2 hd rfl
        have hx := Path.step_two os lst t hd
        have HX := Lib.hid hx
        clear CD hd hx
        rcases Nat.eq_zero_or_pos n with hn0 | hn0
        · have hos : os = [] := List.length_eq_zero_iff.1 (by rw [HO.out, hn0])
          subst hn0
          have HOS := Lib.hid hos
          clear hos
          have q7 : decide (0 < (0 : Nat)) = false := rfl
          cases lst
          · go_wp2_with fail
            refine (C.out _).mono ?_
            rintro e w1 ⟨rfl, hB1⟩
            have hrow1 := Path.owns_below HR.out hB1
            have hw1 := Ascii.below2 HW.out hB1
            have g1 : w1.cell? ⟨b, off + k, none⟩ = some (.string E) := (hB1.cell (World.block_lt_of_cell? _ _ g)).trans g
            clear g
            go_wp2
            go_roundw
            case rel => exact ⟨k + 1, 0, os, by omega, by omega, by go_num, HO, Lib.hid (by rw [HT.out, HX.out, HOS.out]; rfl), hrow1, hw1⟩
            case measure => simp [intOf]; omega
          · go_wp2_with fail
            refine (C.out _).mono ?_
            rintro e w1 ⟨rfl, hB1⟩
            have hrow1 := Path.owns_below HR.out hB1
            have hw1 := Ascii.below2 HW.out hB1
            have g1 : w1.cell? ⟨b, off + k, none⟩ = some (.string E) := (hB1.cell (World.block_lt_of_cell? _ _ g)).trans g
            clear g
            go_wp2_with (at_builtin; refine wpList_append_own _ rfl _ _ 25 rfl w.heap.size 9 i0 (.string ⟨#[]⟩) 1 16 Tryz.underlying25 hi hz0 hz1 hz2 rfl (by decide) _ _ _ rfl (hrow1.alloc (.cells #[.string ⟨#[]⟩] 9)) ⟨w1.heap.size, 0, none⟩ 1 1 [.string ⟨#[]⟩] rfl rfl (cell_one_new _ _ _) (by simp [Value.oneCell']) (by unfold maxLen; omega) (by omega) (by have := hw1.size; simp; omega) ?_; intro v' w2 hown' hgrow hnil)
            have HG := Lib.hid ((hw1.alloc hw1.size (.cells #[.string ⟨#[]⟩] 9)).grown hgrow (by have := hw1.size; simp; omega) (fun j e => ((hrow1.lt j e).1)))
            go_roundw
            case rel => exact ⟨k + 1, 0 + 1, os ++ [[]], by omega, by omega, by go_num, Lib.hid (by rw [List.length_append, HO.out]; rfl), Lib.hid (by rw [HT.out, HX.out, HOS.out]; rfl), by rw [row_snoc (E := ⟨#[]⟩) rfl]; exact hown', HG.out⟩
            case measure => simp [intOf]; omega
        · obtain ⟨p, rfl⟩ : ∃ p, n = p + 1 := ⟨n - 1, by omega⟩
          have q7 : decide (0 < p + 1) = true := decide_eq_true (by omega)
          obtain ⟨x, rfl⟩ : ∃ x, a' = some x := by cases a' with | none => exact absurd (K3.out rfl) (by omega) | some x => exact ⟨x, rfl⟩
          clear K3 hn0
          cases lst
          · go_wp2_with fail
            refine (C.out _).mono ?_
            rintro e w1 ⟨rfl, hB1⟩
            have hrow1 := Path.owns_below HR.out hB1
            have hw1 := Ascii.below2 HW.out hB1
            have g1 : w1.cell? ⟨b, off + k, none⟩ = some (.string E) := (hB1.cell (World.block_lt_of_cell? _ _ g)).trans g
            clear g
            have hrow2 := cut_row HO.out hrow1
            go_wp2
            go_roundw
            case rel => exact ⟨k + 1, p, os.dropLast, by omega, by omega, by go_num, Lib.hid (by rw [List.length_dropLast, HO.out]; rfl), Lib.hid (by rw [HT.out, HX.out]; rfl), hrow2, hw1⟩
            case measure => simp [intOf]; omega
          · go_wp2_with fail
            refine (C.out _).mono ?_
            rintro e w1 ⟨rfl, hB1⟩
            have hrow1 := Path.owns_below HR.out hB1
            have hw1 := Ascii.below2 HW.out hB1
            have g1 : w1.cell? ⟨b, off + k, none⟩ = some (.string E) := (hB1.cell (World.block_lt_of_cell? _ _ g)).trans g
            clear g
            have hrow2 := cut_row HO.out hrow1
            go_wp2_with (at_builtin; refine wpList_append_own _ rfl _ _ 25 rfl w.heap.size 9 i0 (.string ⟨#[]⟩) 1 16 Tryz.underlying25 hi hz0 hz1 hz2 rfl (by decide) _ _ _ rfl (hrow2.alloc (.cells #[.string ⟨#[]⟩] 9)) ⟨w1.heap.size, 0, none⟩ 1 1 [.string ⟨#[]⟩] rfl rfl (cell_one_new _ _ _) (by simp [Value.oneCell']) (by unfold maxLen; omega) (by omega) (by have := hw1.size; simp; omega) ?_; intro v' w2 hown' hgrow hnil)
            have HG := Lib.hid ((hw1.alloc hw1.size (.cells #[.string ⟨#[]⟩] 9)).grown hgrow (by have := hw1.size; simp; omega) (fun j e => ((hrow2.lt j e).1)))
            go_roundw
            case rel => exact ⟨k + 1, p + 1, os.dropLast ++ [[]], by omega, by omega, by go_num, Lib.hid (by rw [List.length_append, List.length_dropLast, HO.out]; rfl), Lib.hid (by rw [HT.out, HX.out]; rfl), by rw [row_snoc (E := ⟨#[]⟩) rfl]; exact hown', HG.out⟩
            case measure => simp [intOf]; omega
      · have C := CD 0 0 hd rfl
        have hx := Path.step_none os lst t hd
        have HX := Lib.hid hx
        clear CD hd hx
        go_wp2_with fail
        refine (C.out _).mono ?_
        rintro e w1 ⟨rfl, hB1⟩
        have hrow1 := Path.owns_below HR.out hB1
        have hw1 := Ascii.below2 HW.out hB1
        have g1 : w1.cell? ⟨b, off + k, none⟩ = some (.string E) := (hB1.cell (World.block_lt_of_cell? _ _ g)).trans g
        clear g
        go_wp2_with (at_builtin; refine wpList_append_own _ rfl _ _ 25 rfl w.heap.size 9 i0 (.string ⟨#[]⟩) 1 16 Tryz.underlying25 hi hz0 hz1 hz2 rfl (by decide) _ _ _ rfl (hrow1.alloc (.cells #[.string E] 9)) ⟨w1.heap.size, 0, none⟩ 1 1 [.string E] rfl rfl (cell_one_new _ _ _) (by simp [Value.oneCell']) (by unfold maxLen; omega) (by omega) (by have := hw1.size; simp; omega) ?_; intro v' w2 hown' hgrow hnil)
        have HG := Lib.hid ((hw1.alloc hw1.size (.cells #[.string E] 9)).grown hgrow (by have := hw1.size; simp; omega) (fun j e => ((hrow1.lt j e).1)))
        go_roundw
        case rel => exact ⟨k + 1, n + 1, os ++ [t], by omega, by omega, by go_num, Lib.hid (by rw [List.length_append, HO.out]; rfl), Lib.hid (by rw [HT.out, HX.out]), by rw [row_snoc HE.out]; exact hown', HG.out⟩
        case measure => simp [intOf]; omega
    · obtain rfl : k = L.length := by omega
      have e : os = Path.norm [] L := by rw [← HJ.out, ← HL.out, List.take_of_length_le (by rw [Path.pairs_len]; exact Nat.le_refl _)]
      have ho := HO.out
      rw [e] at ho
      subst ho
      rw [e] at hrow
      have hst := Path.owns_strs hrow
      have hnw := Path.owns_new hrow
      clear e HJ hrow
      go_wp2
      go_ret
      exact ⟨_, rfl, hst, hnw, hw⟩

theorem refPathParse_any (s : ByteArray) (hs : s.size ≤ 9000) (L : List T) (hL : Path.parse s.data.toList = L) (w : World) :
    Calls Tryz.prog 79 #[.string s] w (GotL w L) := by
  have h1 : (Path.segs s.data.toList).length ≤ 30000 ∧ ∀ t ∈ Path.segs s.data.toList, t.length ≤ 30000 := by
    have e1 := Path.split_len (Path.enc (Path.strip s.data.toList))
    have e2 := Path.split_sum (Path.enc (Path.strip s.data.toList))
    have e3 : (Path.enc (Path.strip s.data.toList)).length ≤ 3 * (Path.strip s.data.toList).length := Pct.encode_len 3 _
    have e4 := Path.strip_len s.data.toList
    rw [size_list] at e4
    exact ⟨by show (Path.split _).length ≤ _; omega, fun t ht => by have := e2 t ht; omega⟩
  have CS := Lib.hid (fun u => refSegs_any s (by omega) _ rfl u)
  have CN := Lib.hid (fun v u hu => refNorm_any v (Path.segs s.data.toList) h1.1 h1.2 u hu)
  have HL := Lib.hid hL
  clear hL h1
  go_enter Tryz.func79, Tryz.ntmps79
  go_wp2_with fail
  refine (CS.out _).mono ?_
  rintro e w1 ⟨v1, rfl, hst, hnw, hB1⟩
  go_wp2_with fail
  refine (CN.out v1 _ hst).mono ?_
  rintro e w2 ⟨v2, rfl, hst2, hnw2, hB2⟩
  have hfin : Path.Strs w2 v2 L ∧ Path.New w.heap.size v2 ∧ Below w.heap.size w w2 := ⟨by rw [← HL.out]; exact hst2, hnw2.mono hB1.size, Ascii.below2 hB1 hB2⟩
  have HF := Lib.hid hfin
  clear hst hnw hB1 hst2 hnw2 hB2 hfin CS CN HL
  go_wp2
  go_ret
  exact ⟨_, rfl, HF.out.1, HF.out.2.1, HF.out.2.2⟩



set_option maxRecDepth 100000

open Host (H mayH showH)
set_option maxHeartbeats 8000000 in
theorem refPathMay_any (v0 : Value) (L : List T) (hL : L.length ≤ 30000) (hs : ∀ t ∈ L, t.length ≤ 30000) (b : Bool) (hb : Path.mayP L = b) (w : World) (h0 : Path.Strs w v0 L) :
    Calls Tryz.prog 74 #[v0] w fun e w' => e = .returned (.bool b) ∧ Below w.heap.size w w' := by
  have HS := Lib.hid h0
  obtain ⟨a, cap, rfl, hc1, hc2, hc3, hc4⟩ := h0
  have HHs := Lib.hid hs
  have HB := Lib.hid (show ((L.drop 0).all Path.okT && !L.isEmpty) = b from hb)
  clear hc4 hc3 hs hb
  go_enter Tryz.func74, Tryz.ntmps74
  go_wp2
  go_loopw [3] (fun i wr => ∃ k : Nat, k ≤ L.length ∧ i = .int .i64 k ∧ Hid (((L.drop k).all Path.okT && !L.isEmpty) = b) ∧ Below w.heap.size w wr) (fun i _ => L.length - (intOf i).toNat)
  case atStart => exact ⟨0, Nat.zero_le _, rfl, HB, Below.refl _ _⟩
  case round =>
    obtain ⟨k, hk, rfl, HJ, hw⟩ := hrel
    by_cases hlt : k < L.length
    · have HW := Lib.hid hw
      obtain ⟨a1, c1, hv, _, _, _, h4⟩ := HS.out.later hw
      injection hv with e1 e2 e3
      subst e1; subst e3
      obtain ⟨b0, off, rfl, hcell⟩ := h4 (by intro e; rw [e] at hlt; simp at hlt)
      have g0 := hcell k hlt
      have hts := HHs.out _ (List.getElem_mem hlt)
      have hkc : k < cap := by omega
      unfold maxLen at hc2
      obtain ⟨t, ht⟩ : ∃ t : T, L[k] = t := ⟨_, rfl⟩
      obtain ⟨E, hE⟩ : ∃ E, tb t = E := ⟨_, rfl⟩
      have hdr : L.drop k = t :: L.drop (k + 1) := by rw [← ht]; exact List.drop_eq_getElem_cons hlt
      have HD := Lib.hid (show (Path.okT t && ((L.drop (k + 1)).all Path.okT && !L.isEmpty)) = b from by
        rw [← HJ.out, hdr, List.all_cons, Bool.and_assoc])
      rw [ht] at g0 hts
      have g : wr.cell? ⟨b0, off + k, none⟩ = some (.string E) := by rw [g0, ← hE]; rfl
      have hEs : E.size ≤ 30000 := by rw [size_tb hE]; exact hts
      obtain ⟨r, hr⟩ : ∃ r, Pct.readyB 3 t = r := ⟨_, rfl⟩
      obtain ⟨d, hd⟩ : ∃ d, Path.dotsN t = d := ⟨_, rfl⟩
      have CR := Lib.hid (fun u => refReady_at E (by omega) 3 r (by rw [list_tb hE]; exact hr) u)
      have CD := Lib.hid (fun u => refDots_big E hEs d (by rw [list_tb hE]; exact hd) u)
      have HO := Lib.hid (show Path.okT t = (r && (!t.contains 47 && decide (d = 0))) from by
        unfold Path.okT; rw [hr, hd]; rfl)
      have HE := Lib.hid hE
      clear h4 hcell g0 hts ht hE hdr hr hd hw HJ
      go_wp2_with fail
      refine (CR.out _).mono ?_
      rintro e w1 ⟨rfl, rfl⟩
      clear CR
      cases r
      · have hb : b = false := by rw [← HD.out, HO.out]; rfl
        subst hb
        clear HD HO
        go_wp2
        go_ret
        exact ⟨rfl, HW.out⟩
      go_wp2_with fail
      refine (CD.out _).mono ?_
      rintro e w1 ⟨rfl, hB1⟩
      have hw1 := Ascii.below2 HW.out hB1
      have HW1 := Lib.hid hw1
      have g1 : w1.cell? ⟨b0, off + k, none⟩ = some (.string E) := (hB1.cell (World.block_lt_of_cell? _ _ g)).trans g
      clear CD g hB1 hw1
      by_cases hd0 : d = 0
      case neg =>
        have hb : b = false := by rw [← HD.out, HO.out, decide_eq_false hd0]; simp
        have q0 : decide (0 < d) = true := decide_eq_true (by omega)
        subst hb
        clear HD HO hd0
        go_wp2
        go_ret
        exact ⟨rfl, HW1.out⟩
      have q0 : decide (0 < d) = false := decide_eq_false (by omega)
      have HN := Lib.hid (show ((!(E.data.toList.drop 0).contains 47) && ((L.drop (k + 1)).all Path.okT && !L.isEmpty)) = b from by
        rw [← HD.out, HO.out, decide_eq_true hd0, List.drop_zero, list_tb HE.out]; simp)
      clear HD HO hd0
      go_wp2
      clear q0
      go_loop [5] (fun i => ∃ j : Nat, j ≤ E.size ∧ i = .int .i64 j ∧ Hid (((!(E.data.toList.drop j).contains 47) && ((L.drop (k + 1)).all Path.okT && !L.isEmpty)) = b)) (fun i => E.size - (intOf i).toNat)
      case atStart => exact ⟨0, Nat.zero_le _, rfl, HN⟩
      case round =>
        obtain ⟨j, hj, rfl, HM⟩ := hrel
        by_cases hjl : j < E.size
        · have e := Pct.drop_cons E j hjl
          by_cases h47 : E[j] = 47
          · have q1 : ((E[j].toNat : Int) == 47) = true := by rw [h47]; rfl
            have hb : b = false := by rw [← HM.out, e, h47]; simp
            subst hb
            clear HM e h47
            go_wp2
            go_ret
            exact ⟨rfl, HW1.out⟩
          · have q1 : ((E[j].toNat : Int) == 47) = false := beq_eq_false_iff_ne.2 (fun q => h47 (UInt8.toNat_inj.1 (by simpa using (by omega : E[j].toNat = 47))))
            have HM2 := Lib.hid (show ((!(E.data.toList.drop (j + 1)).contains 47) && ((L.drop (k + 1)).all Path.okT && !L.isEmpty)) = b from by
              rw [← HM.out, e, List.contains_cons, beq_eq_false_iff_ne.2 (Ne.symm h47), Bool.false_or])
            clear HM e h47
            go_wp2
            go_round
            case rel => exact ⟨j + 1, by omega, by go_num, HM2⟩
            case measure => simp [intOf]; omega
        · obtain rfl : j = E.size := by omega
          have HJ := Lib.hid (show ((L.drop (k + 1)).all Path.okT && !L.isEmpty) = b from by
            have e : E.data.toList.drop E.size = [] := List.drop_of_length_le (Nat.le_refl _)
            rw [← HM.out, e]; simp)
          clear HM HN
          go_wp2
          go_roundw
          case rel => exact ⟨k + 1, by omega, by go_num, HJ, HW1.out⟩
          case measure => simp [intOf]; omega
    · obtain rfl : k = L.length := by omega
      have e : decide (0 < L.length) = b := by
        rw [← HJ.out, List.drop_of_length_le (Nat.le_refl _)]
        cases L with
        | nil => rfl
        | cons a r => simp
      clear HJ
      go_wp2
      go_ret
      exact ⟨by first | rfl | rw [e], hw⟩



set_option maxRecDepth 100000

open Host (H mayH showH HostAt)

open Six (arr zero8)

theorem may_form (k : Int) (s : ByteArray) (n : Int) (p : List Int) : mayH ⟨k, s, n, p⟩ = (if k = 1 then Host.domB s.data.toList && ((n == 0) && decide (p = zero8)) else if k = 2 then s.toList.isEmpty && (decide (0 ≤ n) && (decide (n ≤ 4294967295) && decide (p = zero8))) else if k = 3 then s.toList.isEmpty && ((n == 0) && Six.mayP p) else false) := by
  have he : (s.toList == (⟨#[]⟩ : ByteArray).toList) = s.toList.isEmpty := by
    rw [Path.tl, Path.tl]
    cases s.data.toList <;> rfl
  unfold mayH Host.sameH Four.fitsB
  by_cases h1 : k = 1
  · subst h1
    simp only [if_true, beq_self_eq_true, Bool.true_and]
    cases Host.domB s.data.toList <;> cases (n == 0) <;> cases decide (p = zero8) <;> rfl
  · rw [if_neg h1, if_neg h1]
    by_cases h2 : k = 2
    · subst h2
      simp only [if_true, beq_self_eq_true, Bool.true_and, he]
      cases s.toList.isEmpty <;> cases decide (0 ≤ n) <;> cases decide (n ≤ 4294967295) <;> cases decide (p = zero8) <;> rfl
    · rw [if_neg h2, if_neg h2]
      by_cases h3 : k = 3
      · subst h3
        simp only [if_true, beq_self_eq_true, Bool.true_and, he, decide_true, Bool.and_true]
        cases s.toList.isEmpty <;> cases (n == 0) <;> cases Six.mayP p <;> rfl
      · rw [if_neg h3, if_neg h3]

set_option maxHeartbeats 8000000 in
theorem refHostMay_any (h : H) (h8 : h.p.length = 8) (hs : h.s.size ≤ 1000) (b : Bool) (hb : mayH h = b) (w : World) :
    Calls Tryz.prog 73 #[.agg h.cells] w fun e w' => e = .returned (.bool b) ∧ Below w.heap.size w w' := by
  have HX := Lib.hid (show Below w.heap.size w (w.alloc (.cells h.cells 24)) from (Below.refl _ w).alloc (Nat.le_refl _) _)
  have HR0 := Lib.hid (HostAt.new w h)
  obtain ⟨k, s, n, p⟩ := h
  have H8 := Lib.hid (show (H.mk k s n p).p.length = 8 from h8)
  rw [may_form] at hb
  obtain ⟨D, hD⟩ : ∃ D, Host.domB s.data.toList = D := ⟨_, rfl⟩
  obtain ⟨M, hM⟩ : ∃ D, Six.mayP p = D := ⟨_, rfl⟩
  obtain ⟨Z, hZ⟩ : ∃ D, decide (p = zero8) = D := ⟨_, rfl⟩
  obtain ⟨N0, hN0⟩ : ∃ D, (n == 0) = D := ⟨_, rfl⟩
  obtain ⟨G1, hG1⟩ : ∃ D, decide (0 ≤ n) = D := ⟨_, rfl⟩
  obtain ⟨G2, hG2⟩ : ∃ D, decide (n ≤ 4294967295) = D := ⟨_, rfl⟩
  obtain ⟨E, hE⟩ : ∃ D, s.toList.isEmpty = D := ⟨_, rfl⟩
  rw [hD, hM, hZ, hN0, hG1, hG2, hE] at hb
  have CN := Lib.hid (fun u => Show.refName_any s (by have : s.size ≤ 1000 := hs; omega) D hD u)
  have CM := Lib.hid (fun u => Six.refMay_any p h8 M hM u)
  have heq : ∀ v, (Op.equalIn 10000 22 (.agg (arr p)) (.agg #[.int .i64 0, .int .i64 0, .int .i64 0, .int .i64 0, .int .i64 0, .int .i64 0, .int .i64 0, .int .i64 0])).run Tryz.prog v = .ok Z v := fun v => Six.eq22 p zero8 h8 rfl Z hZ v
  have HEQ := Lib.hid heq
  have HN0 := Lib.hid hN0
  have HG1 := Lib.hid hG1
  have HG2 := Lib.hid hG2
  have HE := Lib.hid hE
  have HB := Lib.hid hb
  clear heq hD hM hZ hN0 hG1 hG2 hE h8 hs hb
  have c1 := HR0.out.cell 1
  rw [show (H.cells ⟨k, s, n, p⟩)[1]? = some (.string s) from rfl] at c1
  go_enter Tryz.func73, Tryz.ntmps73
  go_wp2_with fail
  generalize w.alloc (.cells (H.cells ⟨k, s, n, p⟩) 24) = X0 at HX HR0 c1 ⊢
  refine (CN.out _).mono ?_
  rintro e X ⟨rfl, rfl⟩
  clear c1 CN
  have hsix := HR0.out.six H8.out
  go_wp2_with ((with_reducible refine Host.wp_load_at (o := ⟨some 9, .load 22 (.tmp 8), _, _, _, _⟩) ?_ 22 (.tmp 8) ?_ ⟨w.heap.size, 3, none⟩ ?_ (.agg (arr p)) hsix ?_); (· rfl); (· rfl); (· rfl); simp only [Act.put, List.setIfInBounds_toArray, List.set_cons_zero, List.set_cons_succ])
  refine (CM.out _).mono ?_
  rintro e X1 ⟨rfl, hB⟩
  have HR1 := Lib.hid (HR0.out.later hB)
  have HB1 := Lib.hid hB
  clear hB CM hsix HR0
  have c0 := HR1.out.cell 0
  rw [show (H.cells ⟨k, s, n, p⟩)[0]? = some (.int .i64 k) from rfl] at c0
  have c1 := HR1.out.cell 1
  rw [show (H.cells ⟨k, s, n, p⟩)[1]? = some (.string s) from rfl] at c1
  have c2 := HR1.out.cell 2
  rw [show (H.cells ⟨k, s, n, p⟩)[2]? = some (.int .i64 n) from rfl] at c2
  have hsix := HR1.out.six H8.out
  have heq := HEQ.out
  have hN0 := HN0.out
  have hG1 := HG1.out
  have hG2 := HG2.out
  have hE := HE.out
  have hb := HB.out
  by_cases h1 : k = 1
  · subst h1
    rw [if_pos rfl] at hb
    subst hb
    clear HEQ HN0 HG1 HG2 HE HB hG1 hG2 hE
    cases D <;> cases N0 <;> cases Z
    all_goals
      go_wp2_with ((with_reducible refine Host.wp_load_at (o := ⟨some 23, .load 22 (.tmp 22), _, _, _, _⟩) ?_ 22 (.tmp 22) ?_ ⟨w.heap.size, 3, none⟩ ?_ (.agg (arr p)) hsix ?_); (· rfl); (· rfl); (· rfl); simp only [Act.put, List.setIfInBounds_toArray, List.set_cons_zero, List.set_cons_succ])
      go_ret
      exact ⟨rfl, HX.out.trans (HB1.out.mono HX.out.size)⟩
  rw [if_neg h1] at hb
  have k1 : (k == 1) = false := beq_eq_false_iff_ne.2 h1
  by_cases h2 : k = 2
  · subst h2
    rw [if_pos rfl] at hb
    subst hb
    clear HEQ HN0 HG1 HG2 HE HB hN0 h1
    cases E <;> cases G1 <;> cases G2 <;> cases Z
    all_goals
      go_wp2_with ((with_reducible refine Host.wp_load_at (o := ⟨some 44, .load 22 (.tmp 43), _, _, _, _⟩) ?_ 22 (.tmp 43) ?_ ⟨w.heap.size, 3, none⟩ ?_ (.agg (arr p)) hsix ?_); (· rfl); (· rfl); (· rfl); simp only [Act.put, List.setIfInBounds_toArray, List.set_cons_zero, List.set_cons_succ])
      go_ret
      exact ⟨rfl, HX.out.trans (HB1.out.mono HX.out.size)⟩
  rw [if_neg h2] at hb
  have k2 : (k == 2) = false := beq_eq_false_iff_ne.2 h2
  by_cases h3 : k = 3
  · subst h3
    rw [if_pos rfl] at hb
    subst hb
    clear HEQ HN0 HG1 HG2 HE HB hG1 hG2 h1 h2 heq
    cases E <;> cases N0 <;> cases M
    all_goals
      go_wp2
      go_ret
      exact ⟨rfl, HX.out.trans (HB1.out.mono HX.out.size)⟩
  rw [if_neg h3] at hb
  have k3 : (k == 3) = false := beq_eq_false_iff_ne.2 h3
  subst hb
  clear HEQ HN0 HG1 HG2 HE HB hG1 hG2 h1 h2 h3 heq hN0 hE
  go_wp2
  go_ret
  exact ⟨rfl, HX.out.trans (HB1.out.mono HX.out.size)⟩



set_option maxRecDepth 100000

open Host (H mayH)

theorem q_opq {W : World} {g : Nat} {u : U} {pv : Value} (a : UrlAt W g u pv) (h8 : u.h.p.length = 8) : Q9 W g 16 (tb u.opq) := fun v hv => load9 (((a.later hv).cell 16).trans (cU_at u pv h8).2.2.2.2.2.2.1)

theorem find_has (c : UInt8) (Q : ByteArray) : (!Q.data.toList.contains c) = (((findN c Q.data.toList 0 : Nat) : Int) == (Q.size : Int)) := by
  rw [find_bef]
  by_cases h : c ∈ Q.data.toList
  · have h1 := (bef_lt c Q.data.toList).2 h
    rw [size_list] at h1
    rw [has_yes h]
    symm
    exact beq_eq_false_iff_ne.2 (by omega)
  · have h1 := (bef_full c Q.data.toList).2 h
    rw [size_list] at h1
    rw [has_no h, h1]; simp

theorem op_web {s : T} (h : opB s = true) : webI s = 0 := by
  unfold opB at h
  simp only [Bool.or_eq_true, beq_iff_eq] at h
  rcases h with h | h | h <;> rw [h] <;> decide

set_option maxHeartbeats 16000000 in
theorem refMay_any (u : U) (pv : Value) (hf : Fit u) (hp : ∀ t ∈ u.path, t.length ≤ 30000) (b : Bool) (hb : mayU u = b) (w : World) (hs : Path.Strs w pv u.path) :
    Calls Tryz.prog 32 #[.agg (cU u pv)] w fun e w' => e = .returned (.bool b) ∧ Below w.heap.size w w' := by
  have HX := Lib.hid (show Below w.heap.size w (w.alloc (.cells (cU u pv) 27)) from (Below.refl w.heap.size w).alloc (Nat.le_refl _) _)
  have HU0 := Lib.hid (UrlAt.new w u pv)
  have HS0 := Lib.hid (hs.later HX.out)
  have h8 := hf.h8
  obtain ⟨T, hT⟩ : ∃ b, tailB u = b := ⟨_, rfl⟩
  obtain ⟨z, hz⟩ : ∃ z, webI u.sch = z := ⟨_, rfl⟩
  obtain ⟨O, hO⟩ : ∃ z, opB u.sch = z := ⟨_, rfl⟩
  obtain ⟨N, hN⟩ : ∃ z, tb u.sch = z := ⟨_, rfl⟩
  obtain ⟨Q, hQ⟩ : ∃ z, tb u.opq = z := ⟨_, rfl⟩
  obtain ⟨A, hA⟩ : ∃ z, tb u.usr = z := ⟨_, rfl⟩
  obtain ⟨B, hB⟩ : ∃ z, tb u.pas = z := ⟨_, rfl⟩
  obtain ⟨R, hR⟩ : ∃ b, Pct.readyB 1 u.opq = b := ⟨_, rfl⟩
  obtain ⟨f, hfd⟩ : ∃ b, findN 63 Q.data.toList 0 = b := ⟨_, rfl⟩
  obtain ⟨g, hgd⟩ : ∃ b, findN 35 Q.data.toList 0 = b := ⟨_, rfl⟩
  obtain ⟨bH, hbH⟩ : ∃ b, Host.sameH u.h Host.none0 = b := ⟨_, rfl⟩
  obtain ⟨bM, hbM⟩ : ∃ b, mayH u.h = b := ⟨_, rfl⟩
  obtain ⟨bU, hbU⟩ : ∃ b, Pct.readyB 4 u.usr = b := ⟨_, rfl⟩
  obtain ⟨bS, hbS⟩ : ∃ b, Pct.readyB 4 u.pas = b := ⟨_, rfl⟩
  obtain ⟨bP, hbP⟩ : ∃ b, Path.mayP u.path = b := ⟨_, rfl⟩
  have HOZ := Lib.hid (show O = true → z = 0 from fun h => by rw [← hz]; exact op_web (hO.trans h))
  have CT := Lib.hid (fun x => refTails_any u pv hf T hT x)
  have CW := Lib.hid (fun x => refWeb_any N z (by rw [list_tb hN]; exact hz) x)
  have CO := Lib.hid (fun x => refOpq_any N O (by rw [list_tb hN]; exact hO) x)
  have CR := Lib.hid (fun x => refReady_at Q (by rw [size_tb hQ]; exact hf.opq) 1 R (by rw [list_tb hQ]; exact hR) x)
  have CF := Lib.hid (fun x => refFind_any Q (by rw [size_tb hQ]; exact hf.opq) 63 0 (Nat.zero_le _) f hfd x)
  have CG := Lib.hid (fun x => refFind_any Q (by rw [size_tb hQ]; exact hf.opq) 35 0 (Nat.zero_le _) g hgd x)
  have CH := Lib.hid (fun x => refHostMay_any u.h h8 hf.hs bM hbM x)
  have CU := Lib.hid (fun x => refReady_at A (by rw [size_tb hA]; exact hf.usr) 4 bU (by rw [list_tb hA]; exact hbU) x)
  have CV := Lib.hid (fun x => refReady_at B (by rw [size_tb hB]; exact hf.pas) 4 bS (by rw [list_tb hB]; exact hbS) x)
  have CP := Lib.hid (fun x hx => refPathMay_any pv u.path (by have := hf.pn; omega) hp bP hbP x hx)
  have HEQ := Lib.hid (show ∀ v, (Op.equalIn 10000 24 (.agg u.h.cells) (.agg #[.int .i64 0, .string ⟨#[]⟩, .int .i64 0, .int .i64 0, .int .i64 0, .int .i64 0, .int .i64 0, .int .i64 0, .int .i64 0, .int .i64 0, .int .i64 0])).run Tryz.prog v = .ok bH v from fun v => Host.eq24 u.h Host.none0 h8 rfl bH hbH v)
  obtain ⟨F63, h63⟩ : ∃ b, ((f : Int) == (Q.size : Int)) = b := ⟨_, rfl⟩
  obtain ⟨F35, h35⟩ : ∃ b, ((g : Int) == (Q.size : Int)) = b := ⟨_, rfl⟩
  have e63 : (!u.opq.contains 63) = F63 := by rw [← h63, ← hfd, ← list_tb hQ]; exact find_has 63 Q
  have e35 : (!u.opq.contains 35) = F35 := by rw [← h35, ← hgd, ← list_tb hQ]; exact find_has 35 Q
  obtain ⟨P1, hP1⟩ : ∃ b, (u.port == -1) = b := ⟨_, rfl⟩
  obtain ⟨eU, heU⟩ : ∃ b, A.toList.isEmpty = b := ⟨_, rfl⟩
  obtain ⟨eS, heS⟩ : ∃ b, B.toList.isEmpty = b := ⟨_, rfl⟩
  obtain ⟨eQ, heQ⟩ : ∃ b, Q.toList.isEmpty = b := ⟨_, rfl⟩
  obtain ⟨eL, heL⟩ : ∃ b, ((u.path.length : Int) == 0) = b := ⟨_, rfl⟩
  obtain ⟨g1, hg1⟩ : ∃ b, decide (-1 ≤ u.port) = b := ⟨_, rfl⟩
  obtain ⟨g2, hg2⟩ : ∃ b, decide (u.port ≤ 65535) = b := ⟨_, rfl⟩
  obtain ⟨g3, hg3⟩ : ∃ b, (u.port != z) = b := ⟨_, rfl⟩
  have HMO := Lib.hid (show mayOpq u = (R && (F63 && (F35 && (P1 && (bH && (eU && (eS && eL))))))) from by
    unfold mayOpq
    rw [hR, e63, e35, hbH, ← hP1, ← heU, ← heS, ← heL, Path.tl, Path.tl, list_tb hA, list_tb hB]
    have a1 : decide (u.port = -1) = (u.port == -1) := by rw [Bool.eq_iff_iff]; simp
    have a2 : u.path.isEmpty = ((u.path.length : Int) == 0) := by
      cases u.path with
      | nil => rfl
      | cons a r => simp; omega
    rw [a1, a2]
    cases R <;> cases F63 <;> cases F35 <;> rfl)
  have HMW := Lib.hid (show mayWeb u = (bM && (bU && (bS && (bP && (eQ && (g1 && (g2 && g3))))))) from by
    unfold mayWeb mayPort
    rw [hbM, hbU, hbS, hbP, ← heQ, hg1, hg2, hz, ← hg3, Path.tl, list_tb hQ]
    have a1 : (!decide (u.port = z)) = (u.port != z) := by rw [Bool.eq_iff_iff]; simp
    rw [a1])
  have HMU := Lib.hid (show (T && (if z = 0 then O && mayOpq u else mayWeb u)) = b from by rw [← hb]; unfold mayU; rw [hT, hz, hO])
  obtain ⟨a, cap, rfl, hc1, hc2, hc3, hc4⟩ := hs
  clear hc3 hc4 e63 e35
  have H8 := Lib.hid h8
  have c0 := HU0.out.cell 0
  rw [(cU_at u _ h8).1, hN] at c0
  have KQ := Lib.hid hQ
  have KA := Lib.hid hA
  have KB := Lib.hid hB
  have KN := Lib.hid hN
  have K63 := Lib.hid h63
  have K35 := Lib.hid h35
  have KP1 := Lib.hid hP1
  have KeU := Lib.hid heU
  have KeS := Lib.hid heS
  have KeQ := Lib.hid heQ
  have KeL := Lib.hid heL
  have Kg1 := Lib.hid hg1
  have Kg2 := Lib.hid hg2
  have Kg3 := Lib.hid hg3
  clear hT hz hO hN hQ hA hB hR hfd hgd hbH hbM hbU hbS hbP h63 h35 hP1 heU heS heQ heL hg1 hg2 hg3 hb h8 hf hp
  have hu := HU0.out
  go_enter Tryz.func32, Tryz.ntmps32
  go_wp2_with ((with_reducible refine wp_load27 (o := ⟨some 11, .load 27 (.tmp 1), _, _, _, _⟩) ?_ (.tmp 1) ?_ w.heap.size ?_ u (.slice a u.path.length cap) H8.out hu ?_); (· rfl); (· rfl); (· rfl); simp only [Act.put, List.setIfInBounds_toArray, List.set_cons_zero, List.set_cons_succ])
  clear hu
  generalize w.alloc (.cells (cU u (.slice a u.path.length cap)) 27) = X0 at HX HU0 HS0 c0 ⊢
  refine (CT.out _).mono ?_
  rintro e X1 ⟨rfl, hB⟩
  clear c0
  have HB1 := Lib.hid (hB)
  have HU1 := Lib.hid (HU0.out.later hB)
  have HS1 := Lib.hid (HS0.out.later hB)
  clear HU0 HS0
  clear hB CT
  have c0 := HU1.out.cell 0
  rw [(cU_at u _ H8.out).1, KN.out] at c0
  go_wp2_with fail
  refine (CW.out _).mono ?_
  rintro e X ⟨rfl, rfl⟩
  go_wp2_with fail
  refine (CO.out _).mono ?_
  rintro e X ⟨rfl, rfl⟩
  clear CW CO c0
  cases T
  · have e : false = b := HMU.out
    subst e
    clear HMU
    go_wp2
    go_ret
    exact ⟨rfl, HX.out.trans (HB1.out.mono HX.out.size)⟩
  by_cases z0 : z = 0
  · have q0 : (z == 0) = true := by rw [z0]; rfl
    have hm := HMU.out
    rw [if_pos z0, Bool.true_and, HMO.out] at hm
    clear HOZ z0 HMU HMO HMW CH CU CV CP Kg1 Kg2 Kg3 KeQ
    cases O
    · have e : false = b := hm
      subst e
      clear hm
      go_wp2
      go_ret
      exact ⟨rfl, HX.out.trans (HB1.out.mono HX.out.size)⟩
    · rw [Bool.true_and] at hm
      have HM := Lib.hid hm
      clear hm
      have c16 := HU1.out.cell 16
      rw [(cU_at u _ H8.out).2.2.2.2.2.2.1, KQ.out] at c16
      go_wp2_with fail
      refine (CR.out _).mono ?_
      rintro e X ⟨rfl, rfl⟩
      clear CR
      go_wp2_with fail
      clear c16 q0
      have LQ := Lib.hid (show Q9 X1 w.heap.size 16 Q from by have := q_opq HU1.out H8.out; rwa [KQ.out] at this)
      have LA := Lib.hid (show Q9 X1 w.heap.size 1 A from by have := q_usr HU1.out H8.out; rwa [KA.out] at this)
      have LB := Lib.hid (show Q9 X1 w.heap.size 2 B from by have := q_pas HU1.out H8.out; rwa [KB.out] at this)
      have LP := Lib.hid (q_prt HU1.out H8.out)
      have LH := Lib.hid (q_host HU1.out H8.out)
      have LL := Lib.hid (q_pth HU1.out H8.out)
      have heq := HEQ.out
      have h63 := K63.out
      have h35 := K35.out
      have hP1 := KP1.out
      have heU := KeU.out
      have heS := KeS.out
      have heL := KeL.out
      clear K63 K35 KP1 KeU KeS KeL HEQ KQ KA KB KN
      cases R
      · refine Ascii.wp_region_quiet_below (by kernel_rfl) (by kernel_rfl) ?_
        iterate 3 (go_big_quiet_step ((intro _; rfl)))
        (first | go_big_quiet_skip | ((go_big_quiet_want; (with_reducible refine Host.quiet_load (o := ⟨some 36, .load 9 (.tmp 35), _, _, _, _⟩) 9 (.tmp 35) ?_ _ ?_ _ LQ.out ?_); (· rfl); (· rfl)); go_big_quiet_on; simp only [Act.put, List.setIfInBounds_toArray, List.set_cons_succ, List.set_cons_zero]))
        go_big_quiet_step ((intro hu; go_at_call 72; exact (CF.out _).mono fun e u' h => ⟨h.1, h.2 ▸ hu⟩))
        iterate 1 (go_big_quiet_step ((intro _; rfl)))
        (first | go_big_quiet_skip | ((go_big_quiet_want; (with_reducible refine Host.quiet_load (o := ⟨some 39, .load 9 (.tmp 38), _, _, _, _⟩) 9 (.tmp 38) ?_ _ ?_ _ LQ.out ?_); (· rfl); (· rfl)); go_big_quiet_on; simp only [Act.put, List.setIfInBounds_toArray, List.set_cons_succ, List.set_cons_zero]))
        iterate 5 (go_big_quiet_step ((intro _; rfl)))
        (first | go_big_quiet_skip | ((go_big_quiet_want; (with_reducible refine Host.quiet_load (o := ⟨some 45, .load 9 (.tmp 44), _, _, _, _⟩) 9 (.tmp 44) ?_ _ ?_ _ LQ.out ?_); (· rfl); (· rfl)); go_big_quiet_on; simp only [Act.put, List.setIfInBounds_toArray, List.set_cons_succ, List.set_cons_zero]))
        go_big_quiet_step ((intro hu; go_at_call 72; exact (CG.out _).mono fun e u' h => ⟨h.1, h.2 ▸ hu⟩))
        iterate 1 (go_big_quiet_step ((intro _; rfl)))
        (first | go_big_quiet_skip | ((go_big_quiet_want; (with_reducible refine Host.quiet_load (o := ⟨some 48, .load 9 (.tmp 47), _, _, _, _⟩) 9 (.tmp 47) ?_ _ ?_ _ LQ.out ?_); (· rfl); (· rfl)); go_big_quiet_on; simp only [Act.put, List.setIfInBounds_toArray, List.set_cons_succ, List.set_cons_zero]))
        iterate 5 (go_big_quiet_step ((intro _; rfl)))
        (first | go_big_quiet_skip | ((go_big_quiet_want; (with_reducible refine Host.quiet_load (o := ⟨some 54, .load 3 (.tmp 53), _, _, _, _⟩) 3 (.tmp 53) ?_ _ ?_ _ LP.out ?_); (· rfl); (· rfl)); go_big_quiet_on; simp only [Act.put, List.setIfInBounds_toArray, List.set_cons_succ, List.set_cons_zero]))
        iterate 4 (go_big_quiet_step ((intro _; rfl)))
        (first | go_big_quiet_skip | ((go_big_quiet_want; (with_reducible refine Host.quiet_load (o := ⟨some 59, .load 24 (.tmp 58), _, _, _, _⟩) 24 (.tmp 58) ?_ _ ?_ _ LH.out ?_); (· rfl); (· rfl)); go_big_quiet_on; simp only [Act.put, List.setIfInBounds_toArray, List.set_cons_succ, List.set_cons_zero]))
        iterate 5 (go_big_quiet_step ((intro _; rfl)))
        (first | go_big_quiet_skip | ((go_big_quiet_want; (with_reducible refine Host.quiet_load (o := ⟨some 65, .load 9 (.tmp 64), _, _, _, _⟩) 9 (.tmp 64) ?_ _ ?_ _ LA.out ?_); (· rfl); (· rfl)); go_big_quiet_on; simp only [Act.put, List.setIfInBounds_toArray, List.set_cons_succ, List.set_cons_zero]))
        iterate 4 (go_big_quiet_step ((intro _; rfl)))
        (first | go_big_quiet_skip | ((go_big_quiet_want; (with_reducible refine Host.quiet_load (o := ⟨some 70, .load 9 (.tmp 69), _, _, _, _⟩) 9 (.tmp 69) ?_ _ ?_ _ LB.out ?_); (· rfl); (· rfl)); go_big_quiet_on; simp only [Act.put, List.setIfInBounds_toArray, List.set_cons_succ, List.set_cons_zero]))
        iterate 4 (go_big_quiet_step ((intro _; rfl)))
        (first | go_big_quiet_skip | ((go_big_quiet_want; (with_reducible refine Host.quiet_load (o := ⟨some 75, .load 25 (.tmp 74), _, _, _, _⟩) 25 (.tmp 74) ?_ _ ?_ _ LL.out ?_); (· rfl); (· rfl)); go_big_quiet_on; simp only [Act.put, List.setIfInBounds_toArray, List.set_cons_succ, List.set_cons_zero]))
        repeat (go_big_quiet_step ((intro _; rfl)))
        refine wpQuiet_nil ?_
        intro y hy
        go_wp2
        go_ret
        exact ⟨by rw [← HM.out]; rfl, HX.out.trans ((below_trans HB1.out hy).mono HX.out.size)⟩
      cases F63
      · refine Ascii.wp_region_quiet_below (by kernel_rfl) (by kernel_rfl) ?_
        iterate 3 (go_big_quiet_step ((intro _; rfl)))
        (first | go_big_quiet_skip | ((go_big_quiet_want; (with_reducible refine Host.quiet_load (o := ⟨some 36, .load 9 (.tmp 35), _, _, _, _⟩) 9 (.tmp 35) ?_ _ ?_ _ LQ.out ?_); (· rfl); (· rfl)); go_big_quiet_on; simp only [Act.put, List.setIfInBounds_toArray, List.set_cons_succ, List.set_cons_zero]))
        go_big_quiet_step ((intro hu; go_at_call 72; exact (CF.out _).mono fun e u' h => ⟨h.1, h.2 ▸ hu⟩))
        iterate 1 (go_big_quiet_step ((intro _; rfl)))
        (first | go_big_quiet_skip | ((go_big_quiet_want; (with_reducible refine Host.quiet_load (o := ⟨some 39, .load 9 (.tmp 38), _, _, _, _⟩) 9 (.tmp 38) ?_ _ ?_ _ LQ.out ?_); (· rfl); (· rfl)); go_big_quiet_on; simp only [Act.put, List.setIfInBounds_toArray, List.set_cons_succ, List.set_cons_zero]))
        iterate 5 (go_big_quiet_step ((intro _; rfl)))
        (first | go_big_quiet_skip | ((go_big_quiet_want; (with_reducible refine Host.quiet_load (o := ⟨some 45, .load 9 (.tmp 44), _, _, _, _⟩) 9 (.tmp 44) ?_ _ ?_ _ LQ.out ?_); (· rfl); (· rfl)); go_big_quiet_on; simp only [Act.put, List.setIfInBounds_toArray, List.set_cons_succ, List.set_cons_zero]))
        go_big_quiet_step ((intro hu; go_at_call 72; exact (CG.out _).mono fun e u' h => ⟨h.1, h.2 ▸ hu⟩))
        iterate 1 (go_big_quiet_step ((intro _; rfl)))
        (first | go_big_quiet_skip | ((go_big_quiet_want; (with_reducible refine Host.quiet_load (o := ⟨some 48, .load 9 (.tmp 47), _, _, _, _⟩) 9 (.tmp 47) ?_ _ ?_ _ LQ.out ?_); (· rfl); (· rfl)); go_big_quiet_on; simp only [Act.put, List.setIfInBounds_toArray, List.set_cons_succ, List.set_cons_zero]))
        iterate 5 (go_big_quiet_step ((intro _; rfl)))
        (first | go_big_quiet_skip | ((go_big_quiet_want; (with_reducible refine Host.quiet_load (o := ⟨some 54, .load 3 (.tmp 53), _, _, _, _⟩) 3 (.tmp 53) ?_ _ ?_ _ LP.out ?_); (· rfl); (· rfl)); go_big_quiet_on; simp only [Act.put, List.setIfInBounds_toArray, List.set_cons_succ, List.set_cons_zero]))
        iterate 4 (go_big_quiet_step ((intro _; rfl)))
        (first | go_big_quiet_skip | ((go_big_quiet_want; (with_reducible refine Host.quiet_load (o := ⟨some 59, .load 24 (.tmp 58), _, _, _, _⟩) 24 (.tmp 58) ?_ _ ?_ _ LH.out ?_); (· rfl); (· rfl)); go_big_quiet_on; simp only [Act.put, List.setIfInBounds_toArray, List.set_cons_succ, List.set_cons_zero]))
        iterate 5 (go_big_quiet_step ((intro _; rfl)))
        (first | go_big_quiet_skip | ((go_big_quiet_want; (with_reducible refine Host.quiet_load (o := ⟨some 65, .load 9 (.tmp 64), _, _, _, _⟩) 9 (.tmp 64) ?_ _ ?_ _ LA.out ?_); (· rfl); (· rfl)); go_big_quiet_on; simp only [Act.put, List.setIfInBounds_toArray, List.set_cons_succ, List.set_cons_zero]))
        iterate 4 (go_big_quiet_step ((intro _; rfl)))
        (first | go_big_quiet_skip | ((go_big_quiet_want; (with_reducible refine Host.quiet_load (o := ⟨some 70, .load 9 (.tmp 69), _, _, _, _⟩) 9 (.tmp 69) ?_ _ ?_ _ LB.out ?_); (· rfl); (· rfl)); go_big_quiet_on; simp only [Act.put, List.setIfInBounds_toArray, List.set_cons_succ, List.set_cons_zero]))
        iterate 4 (go_big_quiet_step ((intro _; rfl)))
        (first | go_big_quiet_skip | ((go_big_quiet_want; (with_reducible refine Host.quiet_load (o := ⟨some 75, .load 25 (.tmp 74), _, _, _, _⟩) 25 (.tmp 74) ?_ _ ?_ _ LL.out ?_); (· rfl); (· rfl)); go_big_quiet_on; simp only [Act.put, List.setIfInBounds_toArray, List.set_cons_succ, List.set_cons_zero]))
        repeat (go_big_quiet_step ((intro _; rfl)))
        refine wpQuiet_nil ?_
        intro y hy
        go_wp2
        go_ret
        exact ⟨by rw [← HM.out]; rfl, HX.out.trans ((below_trans HB1.out hy).mono HX.out.size)⟩
      cases F35
      · refine Ascii.wp_region_quiet_below (by kernel_rfl) (by kernel_rfl) ?_
        iterate 3 (go_big_quiet_step ((intro _; rfl)))
        (first | go_big_quiet_skip | ((go_big_quiet_want; (with_reducible refine Host.quiet_load (o := ⟨some 36, .load 9 (.tmp 35), _, _, _, _⟩) 9 (.tmp 35) ?_ _ ?_ _ LQ.out ?_); (· rfl); (· rfl)); go_big_quiet_on; simp only [Act.put, List.setIfInBounds_toArray, List.set_cons_succ, List.set_cons_zero]))
        go_big_quiet_step ((intro hu; go_at_call 72; exact (CF.out _).mono fun e u' h => ⟨h.1, h.2 ▸ hu⟩))
        iterate 1 (go_big_quiet_step ((intro _; rfl)))
        (first | go_big_quiet_skip | ((go_big_quiet_want; (with_reducible refine Host.quiet_load (o := ⟨some 39, .load 9 (.tmp 38), _, _, _, _⟩) 9 (.tmp 38) ?_ _ ?_ _ LQ.out ?_); (· rfl); (· rfl)); go_big_quiet_on; simp only [Act.put, List.setIfInBounds_toArray, List.set_cons_succ, List.set_cons_zero]))
        iterate 5 (go_big_quiet_step ((intro _; rfl)))
        (first | go_big_quiet_skip | ((go_big_quiet_want; (with_reducible refine Host.quiet_load (o := ⟨some 45, .load 9 (.tmp 44), _, _, _, _⟩) 9 (.tmp 44) ?_ _ ?_ _ LQ.out ?_); (· rfl); (· rfl)); go_big_quiet_on; simp only [Act.put, List.setIfInBounds_toArray, List.set_cons_succ, List.set_cons_zero]))
        go_big_quiet_step ((intro hu; go_at_call 72; exact (CG.out _).mono fun e u' h => ⟨h.1, h.2 ▸ hu⟩))
        iterate 1 (go_big_quiet_step ((intro _; rfl)))
        (first | go_big_quiet_skip | ((go_big_quiet_want; (with_reducible refine Host.quiet_load (o := ⟨some 48, .load 9 (.tmp 47), _, _, _, _⟩) 9 (.tmp 47) ?_ _ ?_ _ LQ.out ?_); (· rfl); (· rfl)); go_big_quiet_on; simp only [Act.put, List.setIfInBounds_toArray, List.set_cons_succ, List.set_cons_zero]))
        iterate 5 (go_big_quiet_step ((intro _; rfl)))
        (first | go_big_quiet_skip | ((go_big_quiet_want; (with_reducible refine Host.quiet_load (o := ⟨some 54, .load 3 (.tmp 53), _, _, _, _⟩) 3 (.tmp 53) ?_ _ ?_ _ LP.out ?_); (· rfl); (· rfl)); go_big_quiet_on; simp only [Act.put, List.setIfInBounds_toArray, List.set_cons_succ, List.set_cons_zero]))
        iterate 4 (go_big_quiet_step ((intro _; rfl)))
        (first | go_big_quiet_skip | ((go_big_quiet_want; (with_reducible refine Host.quiet_load (o := ⟨some 59, .load 24 (.tmp 58), _, _, _, _⟩) 24 (.tmp 58) ?_ _ ?_ _ LH.out ?_); (· rfl); (· rfl)); go_big_quiet_on; simp only [Act.put, List.setIfInBounds_toArray, List.set_cons_succ, List.set_cons_zero]))
        iterate 5 (go_big_quiet_step ((intro _; rfl)))
        (first | go_big_quiet_skip | ((go_big_quiet_want; (with_reducible refine Host.quiet_load (o := ⟨some 65, .load 9 (.tmp 64), _, _, _, _⟩) 9 (.tmp 64) ?_ _ ?_ _ LA.out ?_); (· rfl); (· rfl)); go_big_quiet_on; simp only [Act.put, List.setIfInBounds_toArray, List.set_cons_succ, List.set_cons_zero]))
        iterate 4 (go_big_quiet_step ((intro _; rfl)))
        (first | go_big_quiet_skip | ((go_big_quiet_want; (with_reducible refine Host.quiet_load (o := ⟨some 70, .load 9 (.tmp 69), _, _, _, _⟩) 9 (.tmp 69) ?_ _ ?_ _ LB.out ?_); (· rfl); (· rfl)); go_big_quiet_on; simp only [Act.put, List.setIfInBounds_toArray, List.set_cons_succ, List.set_cons_zero]))
        iterate 4 (go_big_quiet_step ((intro _; rfl)))
        (first | go_big_quiet_skip | ((go_big_quiet_want; (with_reducible refine Host.quiet_load (o := ⟨some 75, .load 25 (.tmp 74), _, _, _, _⟩) 25 (.tmp 74) ?_ _ ?_ _ LL.out ?_); (· rfl); (· rfl)); go_big_quiet_on; simp only [Act.put, List.setIfInBounds_toArray, List.set_cons_succ, List.set_cons_zero]))
        repeat (go_big_quiet_step ((intro _; rfl)))
        refine wpQuiet_nil ?_
        intro y hy
        go_wp2
        go_ret
        exact ⟨by rw [← HM.out]; rfl, HX.out.trans ((below_trans HB1.out hy).mono HX.out.size)⟩
      cases P1
      · refine Ascii.wp_region_quiet_below (by kernel_rfl) (by kernel_rfl) ?_
        iterate 3 (go_big_quiet_step ((intro _; rfl)))
        (first | go_big_quiet_skip | ((go_big_quiet_want; (with_reducible refine Host.quiet_load (o := ⟨some 36, .load 9 (.tmp 35), _, _, _, _⟩) 9 (.tmp 35) ?_ _ ?_ _ LQ.out ?_); (· rfl); (· rfl)); go_big_quiet_on; simp only [Act.put, List.setIfInBounds_toArray, List.set_cons_succ, List.set_cons_zero]))
        go_big_quiet_step ((intro hu; go_at_call 72; exact (CF.out _).mono fun e u' h => ⟨h.1, h.2 ▸ hu⟩))
        iterate 1 (go_big_quiet_step ((intro _; rfl)))
        (first | go_big_quiet_skip | ((go_big_quiet_want; (with_reducible refine Host.quiet_load (o := ⟨some 39, .load 9 (.tmp 38), _, _, _, _⟩) 9 (.tmp 38) ?_ _ ?_ _ LQ.out ?_); (· rfl); (· rfl)); go_big_quiet_on; simp only [Act.put, List.setIfInBounds_toArray, List.set_cons_succ, List.set_cons_zero]))
        iterate 5 (go_big_quiet_step ((intro _; rfl)))
        (first | go_big_quiet_skip | ((go_big_quiet_want; (with_reducible refine Host.quiet_load (o := ⟨some 45, .load 9 (.tmp 44), _, _, _, _⟩) 9 (.tmp 44) ?_ _ ?_ _ LQ.out ?_); (· rfl); (· rfl)); go_big_quiet_on; simp only [Act.put, List.setIfInBounds_toArray, List.set_cons_succ, List.set_cons_zero]))
        go_big_quiet_step ((intro hu; go_at_call 72; exact (CG.out _).mono fun e u' h => ⟨h.1, h.2 ▸ hu⟩))
        iterate 1 (go_big_quiet_step ((intro _; rfl)))
        (first | go_big_quiet_skip | ((go_big_quiet_want; (with_reducible refine Host.quiet_load (o := ⟨some 48, .load 9 (.tmp 47), _, _, _, _⟩) 9 (.tmp 47) ?_ _ ?_ _ LQ.out ?_); (· rfl); (· rfl)); go_big_quiet_on; simp only [Act.put, List.setIfInBounds_toArray, List.set_cons_succ, List.set_cons_zero]))
        iterate 5 (go_big_quiet_step ((intro _; rfl)))
        (first | go_big_quiet_skip | ((go_big_quiet_want; (with_reducible refine Host.quiet_load (o := ⟨some 54, .load 3 (.tmp 53), _, _, _, _⟩) 3 (.tmp 53) ?_ _ ?_ _ LP.out ?_); (· rfl); (· rfl)); go_big_quiet_on; simp only [Act.put, List.setIfInBounds_toArray, List.set_cons_succ, List.set_cons_zero]))
        iterate 4 (go_big_quiet_step ((intro _; rfl)))
        (first | go_big_quiet_skip | ((go_big_quiet_want; (with_reducible refine Host.quiet_load (o := ⟨some 59, .load 24 (.tmp 58), _, _, _, _⟩) 24 (.tmp 58) ?_ _ ?_ _ LH.out ?_); (· rfl); (· rfl)); go_big_quiet_on; simp only [Act.put, List.setIfInBounds_toArray, List.set_cons_succ, List.set_cons_zero]))
        iterate 5 (go_big_quiet_step ((intro _; rfl)))
        (first | go_big_quiet_skip | ((go_big_quiet_want; (with_reducible refine Host.quiet_load (o := ⟨some 65, .load 9 (.tmp 64), _, _, _, _⟩) 9 (.tmp 64) ?_ _ ?_ _ LA.out ?_); (· rfl); (· rfl)); go_big_quiet_on; simp only [Act.put, List.setIfInBounds_toArray, List.set_cons_succ, List.set_cons_zero]))
        iterate 4 (go_big_quiet_step ((intro _; rfl)))
        (first | go_big_quiet_skip | ((go_big_quiet_want; (with_reducible refine Host.quiet_load (o := ⟨some 70, .load 9 (.tmp 69), _, _, _, _⟩) 9 (.tmp 69) ?_ _ ?_ _ LB.out ?_); (· rfl); (· rfl)); go_big_quiet_on; simp only [Act.put, List.setIfInBounds_toArray, List.set_cons_succ, List.set_cons_zero]))
        iterate 4 (go_big_quiet_step ((intro _; rfl)))
        (first | go_big_quiet_skip | ((go_big_quiet_want; (with_reducible refine Host.quiet_load (o := ⟨some 75, .load 25 (.tmp 74), _, _, _, _⟩) 25 (.tmp 74) ?_ _ ?_ _ LL.out ?_); (· rfl); (· rfl)); go_big_quiet_on; simp only [Act.put, List.setIfInBounds_toArray, List.set_cons_succ, List.set_cons_zero]))
        repeat (go_big_quiet_step ((intro _; rfl)))
        refine wpQuiet_nil ?_
        intro y hy
        go_wp2
        go_ret
        exact ⟨by rw [← HM.out]; rfl, HX.out.trans ((below_trans HB1.out hy).mono HX.out.size)⟩
      cases bH
      · refine Ascii.wp_region_quiet_below (by kernel_rfl) (by kernel_rfl) ?_
        iterate 3 (go_big_quiet_step ((intro _; rfl)))
        (first | go_big_quiet_skip | ((go_big_quiet_want; (with_reducible refine Host.quiet_load (o := ⟨some 36, .load 9 (.tmp 35), _, _, _, _⟩) 9 (.tmp 35) ?_ _ ?_ _ LQ.out ?_); (· rfl); (· rfl)); go_big_quiet_on; simp only [Act.put, List.setIfInBounds_toArray, List.set_cons_succ, List.set_cons_zero]))
        go_big_quiet_step ((intro hu; go_at_call 72; exact (CF.out _).mono fun e u' h => ⟨h.1, h.2 ▸ hu⟩))
        iterate 1 (go_big_quiet_step ((intro _; rfl)))
        (first | go_big_quiet_skip | ((go_big_quiet_want; (with_reducible refine Host.quiet_load (o := ⟨some 39, .load 9 (.tmp 38), _, _, _, _⟩) 9 (.tmp 38) ?_ _ ?_ _ LQ.out ?_); (· rfl); (· rfl)); go_big_quiet_on; simp only [Act.put, List.setIfInBounds_toArray, List.set_cons_succ, List.set_cons_zero]))
        iterate 5 (go_big_quiet_step ((intro _; rfl)))
        (first | go_big_quiet_skip | ((go_big_quiet_want; (with_reducible refine Host.quiet_load (o := ⟨some 45, .load 9 (.tmp 44), _, _, _, _⟩) 9 (.tmp 44) ?_ _ ?_ _ LQ.out ?_); (· rfl); (· rfl)); go_big_quiet_on; simp only [Act.put, List.setIfInBounds_toArray, List.set_cons_succ, List.set_cons_zero]))
        go_big_quiet_step ((intro hu; go_at_call 72; exact (CG.out _).mono fun e u' h => ⟨h.1, h.2 ▸ hu⟩))
        iterate 1 (go_big_quiet_step ((intro _; rfl)))
        (first | go_big_quiet_skip | ((go_big_quiet_want; (with_reducible refine Host.quiet_load (o := ⟨some 48, .load 9 (.tmp 47), _, _, _, _⟩) 9 (.tmp 47) ?_ _ ?_ _ LQ.out ?_); (· rfl); (· rfl)); go_big_quiet_on; simp only [Act.put, List.setIfInBounds_toArray, List.set_cons_succ, List.set_cons_zero]))
        iterate 5 (go_big_quiet_step ((intro _; rfl)))
        (first | go_big_quiet_skip | ((go_big_quiet_want; (with_reducible refine Host.quiet_load (o := ⟨some 54, .load 3 (.tmp 53), _, _, _, _⟩) 3 (.tmp 53) ?_ _ ?_ _ LP.out ?_); (· rfl); (· rfl)); go_big_quiet_on; simp only [Act.put, List.setIfInBounds_toArray, List.set_cons_succ, List.set_cons_zero]))
        iterate 4 (go_big_quiet_step ((intro _; rfl)))
        (first | go_big_quiet_skip | ((go_big_quiet_want; (with_reducible refine Host.quiet_load (o := ⟨some 59, .load 24 (.tmp 58), _, _, _, _⟩) 24 (.tmp 58) ?_ _ ?_ _ LH.out ?_); (· rfl); (· rfl)); go_big_quiet_on; simp only [Act.put, List.setIfInBounds_toArray, List.set_cons_succ, List.set_cons_zero]))
        iterate 5 (go_big_quiet_step ((intro _; rfl)))
        (first | go_big_quiet_skip | ((go_big_quiet_want; (with_reducible refine Host.quiet_load (o := ⟨some 65, .load 9 (.tmp 64), _, _, _, _⟩) 9 (.tmp 64) ?_ _ ?_ _ LA.out ?_); (· rfl); (· rfl)); go_big_quiet_on; simp only [Act.put, List.setIfInBounds_toArray, List.set_cons_succ, List.set_cons_zero]))
        iterate 4 (go_big_quiet_step ((intro _; rfl)))
        (first | go_big_quiet_skip | ((go_big_quiet_want; (with_reducible refine Host.quiet_load (o := ⟨some 70, .load 9 (.tmp 69), _, _, _, _⟩) 9 (.tmp 69) ?_ _ ?_ _ LB.out ?_); (· rfl); (· rfl)); go_big_quiet_on; simp only [Act.put, List.setIfInBounds_toArray, List.set_cons_succ, List.set_cons_zero]))
        iterate 4 (go_big_quiet_step ((intro _; rfl)))
        (first | go_big_quiet_skip | ((go_big_quiet_want; (with_reducible refine Host.quiet_load (o := ⟨some 75, .load 25 (.tmp 74), _, _, _, _⟩) 25 (.tmp 74) ?_ _ ?_ _ LL.out ?_); (· rfl); (· rfl)); go_big_quiet_on; simp only [Act.put, List.setIfInBounds_toArray, List.set_cons_succ, List.set_cons_zero]))
        repeat (go_big_quiet_step ((intro _; rfl)))
        refine wpQuiet_nil ?_
        intro y hy
        go_wp2
        go_ret
        exact ⟨by rw [← HM.out]; rfl, HX.out.trans ((below_trans HB1.out hy).mono HX.out.size)⟩
      cases eU
      · refine Ascii.wp_region_quiet_below (by kernel_rfl) (by kernel_rfl) ?_
        iterate 3 (go_big_quiet_step ((intro _; rfl)))
        (first | go_big_quiet_skip | ((go_big_quiet_want; (with_reducible refine Host.quiet_load (o := ⟨some 36, .load 9 (.tmp 35), _, _, _, _⟩) 9 (.tmp 35) ?_ _ ?_ _ LQ.out ?_); (· rfl); (· rfl)); go_big_quiet_on; simp only [Act.put, List.setIfInBounds_toArray, List.set_cons_succ, List.set_cons_zero]))
        go_big_quiet_step ((intro hu; go_at_call 72; exact (CF.out _).mono fun e u' h => ⟨h.1, h.2 ▸ hu⟩))
        iterate 1 (go_big_quiet_step ((intro _; rfl)))
        (first | go_big_quiet_skip | ((go_big_quiet_want; (with_reducible refine Host.quiet_load (o := ⟨some 39, .load 9 (.tmp 38), _, _, _, _⟩) 9 (.tmp 38) ?_ _ ?_ _ LQ.out ?_); (· rfl); (· rfl)); go_big_quiet_on; simp only [Act.put, List.setIfInBounds_toArray, List.set_cons_succ, List.set_cons_zero]))
        iterate 5 (go_big_quiet_step ((intro _; rfl)))
        (first | go_big_quiet_skip | ((go_big_quiet_want; (with_reducible refine Host.quiet_load (o := ⟨some 45, .load 9 (.tmp 44), _, _, _, _⟩) 9 (.tmp 44) ?_ _ ?_ _ LQ.out ?_); (· rfl); (· rfl)); go_big_quiet_on; simp only [Act.put, List.setIfInBounds_toArray, List.set_cons_succ, List.set_cons_zero]))
        go_big_quiet_step ((intro hu; go_at_call 72; exact (CG.out _).mono fun e u' h => ⟨h.1, h.2 ▸ hu⟩))
        iterate 1 (go_big_quiet_step ((intro _; rfl)))
        (first | go_big_quiet_skip | ((go_big_quiet_want; (with_reducible refine Host.quiet_load (o := ⟨some 48, .load 9 (.tmp 47), _, _, _, _⟩) 9 (.tmp 47) ?_ _ ?_ _ LQ.out ?_); (· rfl); (· rfl)); go_big_quiet_on; simp only [Act.put, List.setIfInBounds_toArray, List.set_cons_succ, List.set_cons_zero]))
        iterate 5 (go_big_quiet_step ((intro _; rfl)))
        (first | go_big_quiet_skip | ((go_big_quiet_want; (with_reducible refine Host.quiet_load (o := ⟨some 54, .load 3 (.tmp 53), _, _, _, _⟩) 3 (.tmp 53) ?_ _ ?_ _ LP.out ?_); (· rfl); (· rfl)); go_big_quiet_on; simp only [Act.put, List.setIfInBounds_toArray, List.set_cons_succ, List.set_cons_zero]))
        iterate 4 (go_big_quiet_step ((intro _; rfl)))
        (first | go_big_quiet_skip | ((go_big_quiet_want; (with_reducible refine Host.quiet_load (o := ⟨some 59, .load 24 (.tmp 58), _, _, _, _⟩) 24 (.tmp 58) ?_ _ ?_ _ LH.out ?_); (· rfl); (· rfl)); go_big_quiet_on; simp only [Act.put, List.setIfInBounds_toArray, List.set_cons_succ, List.set_cons_zero]))
        iterate 5 (go_big_quiet_step ((intro _; rfl)))
        (first | go_big_quiet_skip | ((go_big_quiet_want; (with_reducible refine Host.quiet_load (o := ⟨some 65, .load 9 (.tmp 64), _, _, _, _⟩) 9 (.tmp 64) ?_ _ ?_ _ LA.out ?_); (· rfl); (· rfl)); go_big_quiet_on; simp only [Act.put, List.setIfInBounds_toArray, List.set_cons_succ, List.set_cons_zero]))
        iterate 4 (go_big_quiet_step ((intro _; rfl)))
        (first | go_big_quiet_skip | ((go_big_quiet_want; (with_reducible refine Host.quiet_load (o := ⟨some 70, .load 9 (.tmp 69), _, _, _, _⟩) 9 (.tmp 69) ?_ _ ?_ _ LB.out ?_); (· rfl); (· rfl)); go_big_quiet_on; simp only [Act.put, List.setIfInBounds_toArray, List.set_cons_succ, List.set_cons_zero]))
        iterate 4 (go_big_quiet_step ((intro _; rfl)))
        (first | go_big_quiet_skip | ((go_big_quiet_want; (with_reducible refine Host.quiet_load (o := ⟨some 75, .load 25 (.tmp 74), _, _, _, _⟩) 25 (.tmp 74) ?_ _ ?_ _ LL.out ?_); (· rfl); (· rfl)); go_big_quiet_on; simp only [Act.put, List.setIfInBounds_toArray, List.set_cons_succ, List.set_cons_zero]))
        repeat (go_big_quiet_step ((intro _; rfl)))
        refine wpQuiet_nil ?_
        intro y hy
        go_wp2
        go_ret
        exact ⟨by rw [← HM.out]; rfl, HX.out.trans ((below_trans HB1.out hy).mono HX.out.size)⟩
      cases eS
      · refine Ascii.wp_region_quiet_below (by kernel_rfl) (by kernel_rfl) ?_
        iterate 3 (go_big_quiet_step ((intro _; rfl)))
        (first | go_big_quiet_skip | ((go_big_quiet_want; (with_reducible refine Host.quiet_load (o := ⟨some 36, .load 9 (.tmp 35), _, _, _, _⟩) 9 (.tmp 35) ?_ _ ?_ _ LQ.out ?_); (· rfl); (· rfl)); go_big_quiet_on; simp only [Act.put, List.setIfInBounds_toArray, List.set_cons_succ, List.set_cons_zero]))
        go_big_quiet_step ((intro hu; go_at_call 72; exact (CF.out _).mono fun e u' h => ⟨h.1, h.2 ▸ hu⟩))
        iterate 1 (go_big_quiet_step ((intro _; rfl)))
        (first | go_big_quiet_skip | ((go_big_quiet_want; (with_reducible refine Host.quiet_load (o := ⟨some 39, .load 9 (.tmp 38), _, _, _, _⟩) 9 (.tmp 38) ?_ _ ?_ _ LQ.out ?_); (· rfl); (· rfl)); go_big_quiet_on; simp only [Act.put, List.setIfInBounds_toArray, List.set_cons_succ, List.set_cons_zero]))
        iterate 5 (go_big_quiet_step ((intro _; rfl)))
        (first | go_big_quiet_skip | ((go_big_quiet_want; (with_reducible refine Host.quiet_load (o := ⟨some 45, .load 9 (.tmp 44), _, _, _, _⟩) 9 (.tmp 44) ?_ _ ?_ _ LQ.out ?_); (· rfl); (· rfl)); go_big_quiet_on; simp only [Act.put, List.setIfInBounds_toArray, List.set_cons_succ, List.set_cons_zero]))
        go_big_quiet_step ((intro hu; go_at_call 72; exact (CG.out _).mono fun e u' h => ⟨h.1, h.2 ▸ hu⟩))
        iterate 1 (go_big_quiet_step ((intro _; rfl)))
        (first | go_big_quiet_skip | ((go_big_quiet_want; (with_reducible refine Host.quiet_load (o := ⟨some 48, .load 9 (.tmp 47), _, _, _, _⟩) 9 (.tmp 47) ?_ _ ?_ _ LQ.out ?_); (· rfl); (· rfl)); go_big_quiet_on; simp only [Act.put, List.setIfInBounds_toArray, List.set_cons_succ, List.set_cons_zero]))
        iterate 5 (go_big_quiet_step ((intro _; rfl)))
        (first | go_big_quiet_skip | ((go_big_quiet_want; (with_reducible refine Host.quiet_load (o := ⟨some 54, .load 3 (.tmp 53), _, _, _, _⟩) 3 (.tmp 53) ?_ _ ?_ _ LP.out ?_); (· rfl); (· rfl)); go_big_quiet_on; simp only [Act.put, List.setIfInBounds_toArray, List.set_cons_succ, List.set_cons_zero]))
        iterate 4 (go_big_quiet_step ((intro _; rfl)))
        (first | go_big_quiet_skip | ((go_big_quiet_want; (with_reducible refine Host.quiet_load (o := ⟨some 59, .load 24 (.tmp 58), _, _, _, _⟩) 24 (.tmp 58) ?_ _ ?_ _ LH.out ?_); (· rfl); (· rfl)); go_big_quiet_on; simp only [Act.put, List.setIfInBounds_toArray, List.set_cons_succ, List.set_cons_zero]))
        iterate 5 (go_big_quiet_step ((intro _; rfl)))
        (first | go_big_quiet_skip | ((go_big_quiet_want; (with_reducible refine Host.quiet_load (o := ⟨some 65, .load 9 (.tmp 64), _, _, _, _⟩) 9 (.tmp 64) ?_ _ ?_ _ LA.out ?_); (· rfl); (· rfl)); go_big_quiet_on; simp only [Act.put, List.setIfInBounds_toArray, List.set_cons_succ, List.set_cons_zero]))
        iterate 4 (go_big_quiet_step ((intro _; rfl)))
        (first | go_big_quiet_skip | ((go_big_quiet_want; (with_reducible refine Host.quiet_load (o := ⟨some 70, .load 9 (.tmp 69), _, _, _, _⟩) 9 (.tmp 69) ?_ _ ?_ _ LB.out ?_); (· rfl); (· rfl)); go_big_quiet_on; simp only [Act.put, List.setIfInBounds_toArray, List.set_cons_succ, List.set_cons_zero]))
        iterate 4 (go_big_quiet_step ((intro _; rfl)))
        (first | go_big_quiet_skip | ((go_big_quiet_want; (with_reducible refine Host.quiet_load (o := ⟨some 75, .load 25 (.tmp 74), _, _, _, _⟩) 25 (.tmp 74) ?_ _ ?_ _ LL.out ?_); (· rfl); (· rfl)); go_big_quiet_on; simp only [Act.put, List.setIfInBounds_toArray, List.set_cons_succ, List.set_cons_zero]))
        repeat (go_big_quiet_step ((intro _; rfl)))
        refine wpQuiet_nil ?_
        intro y hy
        go_wp2
        go_ret
        exact ⟨by rw [← HM.out]; rfl, HX.out.trans ((below_trans HB1.out hy).mono HX.out.size)⟩
      cases eL
      · refine Ascii.wp_region_quiet_below (by kernel_rfl) (by kernel_rfl) ?_
        iterate 3 (go_big_quiet_step ((intro _; rfl)))
        (first | go_big_quiet_skip | ((go_big_quiet_want; (with_reducible refine Host.quiet_load (o := ⟨some 36, .load 9 (.tmp 35), _, _, _, _⟩) 9 (.tmp 35) ?_ _ ?_ _ LQ.out ?_); (· rfl); (· rfl)); go_big_quiet_on; simp only [Act.put, List.setIfInBounds_toArray, List.set_cons_succ, List.set_cons_zero]))
        go_big_quiet_step ((intro hu; go_at_call 72; exact (CF.out _).mono fun e u' h => ⟨h.1, h.2 ▸ hu⟩))
        iterate 1 (go_big_quiet_step ((intro _; rfl)))
        (first | go_big_quiet_skip | ((go_big_quiet_want; (with_reducible refine Host.quiet_load (o := ⟨some 39, .load 9 (.tmp 38), _, _, _, _⟩) 9 (.tmp 38) ?_ _ ?_ _ LQ.out ?_); (· rfl); (· rfl)); go_big_quiet_on; simp only [Act.put, List.setIfInBounds_toArray, List.set_cons_succ, List.set_cons_zero]))
        iterate 5 (go_big_quiet_step ((intro _; rfl)))
        (first | go_big_quiet_skip | ((go_big_quiet_want; (with_reducible refine Host.quiet_load (o := ⟨some 45, .load 9 (.tmp 44), _, _, _, _⟩) 9 (.tmp 44) ?_ _ ?_ _ LQ.out ?_); (· rfl); (· rfl)); go_big_quiet_on; simp only [Act.put, List.setIfInBounds_toArray, List.set_cons_succ, List.set_cons_zero]))
        go_big_quiet_step ((intro hu; go_at_call 72; exact (CG.out _).mono fun e u' h => ⟨h.1, h.2 ▸ hu⟩))
        iterate 1 (go_big_quiet_step ((intro _; rfl)))
        (first | go_big_quiet_skip | ((go_big_quiet_want; (with_reducible refine Host.quiet_load (o := ⟨some 48, .load 9 (.tmp 47), _, _, _, _⟩) 9 (.tmp 47) ?_ _ ?_ _ LQ.out ?_); (· rfl); (· rfl)); go_big_quiet_on; simp only [Act.put, List.setIfInBounds_toArray, List.set_cons_succ, List.set_cons_zero]))
        iterate 5 (go_big_quiet_step ((intro _; rfl)))
        (first | go_big_quiet_skip | ((go_big_quiet_want; (with_reducible refine Host.quiet_load (o := ⟨some 54, .load 3 (.tmp 53), _, _, _, _⟩) 3 (.tmp 53) ?_ _ ?_ _ LP.out ?_); (· rfl); (· rfl)); go_big_quiet_on; simp only [Act.put, List.setIfInBounds_toArray, List.set_cons_succ, List.set_cons_zero]))
        iterate 4 (go_big_quiet_step ((intro _; rfl)))
        (first | go_big_quiet_skip | ((go_big_quiet_want; (with_reducible refine Host.quiet_load (o := ⟨some 59, .load 24 (.tmp 58), _, _, _, _⟩) 24 (.tmp 58) ?_ _ ?_ _ LH.out ?_); (· rfl); (· rfl)); go_big_quiet_on; simp only [Act.put, List.setIfInBounds_toArray, List.set_cons_succ, List.set_cons_zero]))
        iterate 5 (go_big_quiet_step ((intro _; rfl)))
        (first | go_big_quiet_skip | ((go_big_quiet_want; (with_reducible refine Host.quiet_load (o := ⟨some 65, .load 9 (.tmp 64), _, _, _, _⟩) 9 (.tmp 64) ?_ _ ?_ _ LA.out ?_); (· rfl); (· rfl)); go_big_quiet_on; simp only [Act.put, List.setIfInBounds_toArray, List.set_cons_succ, List.set_cons_zero]))
        iterate 4 (go_big_quiet_step ((intro _; rfl)))
        (first | go_big_quiet_skip | ((go_big_quiet_want; (with_reducible refine Host.quiet_load (o := ⟨some 70, .load 9 (.tmp 69), _, _, _, _⟩) 9 (.tmp 69) ?_ _ ?_ _ LB.out ?_); (· rfl); (· rfl)); go_big_quiet_on; simp only [Act.put, List.setIfInBounds_toArray, List.set_cons_succ, List.set_cons_zero]))
        iterate 4 (go_big_quiet_step ((intro _; rfl)))
        (first | go_big_quiet_skip | ((go_big_quiet_want; (with_reducible refine Host.quiet_load (o := ⟨some 75, .load 25 (.tmp 74), _, _, _, _⟩) 25 (.tmp 74) ?_ _ ?_ _ LL.out ?_); (· rfl); (· rfl)); go_big_quiet_on; simp only [Act.put, List.setIfInBounds_toArray, List.set_cons_succ, List.set_cons_zero]))
        repeat (go_big_quiet_step ((intro _; rfl)))
        refine wpQuiet_nil ?_
        intro y hy
        go_wp2
        go_ret
        exact ⟨by rw [← HM.out]; rfl, HX.out.trans ((below_trans HB1.out hy).mono HX.out.size)⟩
      refine Ascii.wp_region_quiet_below (by kernel_rfl) (by kernel_rfl) ?_
      iterate 3 (go_big_quiet_step ((intro _; rfl)))
      (first | go_big_quiet_skip | ((go_big_quiet_want; (with_reducible refine Host.quiet_load (o := ⟨some 36, .load 9 (.tmp 35), _, _, _, _⟩) 9 (.tmp 35) ?_ _ ?_ _ LQ.out ?_); (· rfl); (· rfl)); go_big_quiet_on; simp only [Act.put, List.setIfInBounds_toArray, List.set_cons_succ, List.set_cons_zero]))
      go_big_quiet_step ((intro hu; go_at_call 72; exact (CF.out _).mono fun e u' h => ⟨h.1, h.2 ▸ hu⟩))
      iterate 1 (go_big_quiet_step ((intro _; rfl)))
      (first | go_big_quiet_skip | ((go_big_quiet_want; (with_reducible refine Host.quiet_load (o := ⟨some 39, .load 9 (.tmp 38), _, _, _, _⟩) 9 (.tmp 38) ?_ _ ?_ _ LQ.out ?_); (· rfl); (· rfl)); go_big_quiet_on; simp only [Act.put, List.setIfInBounds_toArray, List.set_cons_succ, List.set_cons_zero]))
      iterate 5 (go_big_quiet_step ((intro _; rfl)))
      (first | go_big_quiet_skip | ((go_big_quiet_want; (with_reducible refine Host.quiet_load (o := ⟨some 45, .load 9 (.tmp 44), _, _, _, _⟩) 9 (.tmp 44) ?_ _ ?_ _ LQ.out ?_); (· rfl); (· rfl)); go_big_quiet_on; simp only [Act.put, List.setIfInBounds_toArray, List.set_cons_succ, List.set_cons_zero]))
      go_big_quiet_step ((intro hu; go_at_call 72; exact (CG.out _).mono fun e u' h => ⟨h.1, h.2 ▸ hu⟩))
      iterate 1 (go_big_quiet_step ((intro _; rfl)))
      (first | go_big_quiet_skip | ((go_big_quiet_want; (with_reducible refine Host.quiet_load (o := ⟨some 48, .load 9 (.tmp 47), _, _, _, _⟩) 9 (.tmp 47) ?_ _ ?_ _ LQ.out ?_); (· rfl); (· rfl)); go_big_quiet_on; simp only [Act.put, List.setIfInBounds_toArray, List.set_cons_succ, List.set_cons_zero]))
      iterate 5 (go_big_quiet_step ((intro _; rfl)))
      (first | go_big_quiet_skip | ((go_big_quiet_want; (with_reducible refine Host.quiet_load (o := ⟨some 54, .load 3 (.tmp 53), _, _, _, _⟩) 3 (.tmp 53) ?_ _ ?_ _ LP.out ?_); (· rfl); (· rfl)); go_big_quiet_on; simp only [Act.put, List.setIfInBounds_toArray, List.set_cons_succ, List.set_cons_zero]))
      iterate 4 (go_big_quiet_step ((intro _; rfl)))
      (first | go_big_quiet_skip | ((go_big_quiet_want; (with_reducible refine Host.quiet_load (o := ⟨some 59, .load 24 (.tmp 58), _, _, _, _⟩) 24 (.tmp 58) ?_ _ ?_ _ LH.out ?_); (· rfl); (· rfl)); go_big_quiet_on; simp only [Act.put, List.setIfInBounds_toArray, List.set_cons_succ, List.set_cons_zero]))
      iterate 5 (go_big_quiet_step ((intro _; rfl)))
      (first | go_big_quiet_skip | ((go_big_quiet_want; (with_reducible refine Host.quiet_load (o := ⟨some 65, .load 9 (.tmp 64), _, _, _, _⟩) 9 (.tmp 64) ?_ _ ?_ _ LA.out ?_); (· rfl); (· rfl)); go_big_quiet_on; simp only [Act.put, List.setIfInBounds_toArray, List.set_cons_succ, List.set_cons_zero]))
      iterate 4 (go_big_quiet_step ((intro _; rfl)))
      (first | go_big_quiet_skip | ((go_big_quiet_want; (with_reducible refine Host.quiet_load (o := ⟨some 70, .load 9 (.tmp 69), _, _, _, _⟩) 9 (.tmp 69) ?_ _ ?_ _ LB.out ?_); (· rfl); (· rfl)); go_big_quiet_on; simp only [Act.put, List.setIfInBounds_toArray, List.set_cons_succ, List.set_cons_zero]))
      iterate 4 (go_big_quiet_step ((intro _; rfl)))
      (first | go_big_quiet_skip | ((go_big_quiet_want; (with_reducible refine Host.quiet_load (o := ⟨some 75, .load 25 (.tmp 74), _, _, _, _⟩) 25 (.tmp 74) ?_ _ ?_ _ LL.out ?_); (· rfl); (· rfl)); go_big_quiet_on; simp only [Act.put, List.setIfInBounds_toArray, List.set_cons_succ, List.set_cons_zero]))
      repeat (go_big_quiet_step ((intro _; rfl)))
      refine wpQuiet_nil ?_
      intro y hy
      go_wp2
      go_ret
      exact ⟨by rw [← HM.out]; rfl, HX.out.trans ((below_trans HB1.out hy).mono HX.out.size)⟩
  have q0 : (z == 0) = false := beq_eq_false_iff_ne.2 z0
  have hO : O = false := by cases O with | false => rfl | true => exact absurd (HOZ.out rfl) z0
  subst hO
  have hm := HMU.out
  rw [if_neg z0, Bool.true_and, HMW.out] at hm
  have HM := Lib.hid hm
  clear HOZ z0 HMU HMO HMW hm CR CF CG HEQ K63 K35 KP1 KeU KeS KeL
  have hh := HU1.out
  go_wp2_with ((with_reducible refine wp_load24u (o := ⟨some 80, .load 24 (.tmp 79), _, _, _, _⟩) ?_ (.tmp 79) ?_ w.heap.size ?_ u (.slice a u.path.length cap) H8.out hh ?_); (· rfl); (· rfl); (· rfl); simp only [Act.put, List.setIfInBounds_toArray, List.set_cons_zero, List.set_cons_succ])
  clear hh
  refine (CH.out _).mono ?_
  rintro e X2 ⟨rfl, hB⟩
  have HB2 := Lib.hid (below_trans HB1.out hB)
  have HU2 := Lib.hid (HU1.out.later hB)
  have HS2 := Lib.hid (HS1.out.later hB)
  clear HB1 HU1 HS1
  clear hB CH
  have c1 := HU2.out.cell 1
  rw [(cU_at u _ H8.out).2.1, KA.out] at c1
  have c2 := HU2.out.cell 2
  rw [(cU_at u _ H8.out).2.2.1, KB.out] at c2
  have c15 := HU2.out.cell 15
  rw [(cU_at u _ H8.out).2.2.2.2.2.1] at c15
  go_wp2_with fail
  refine (CU.out _).mono ?_
  rintro e X ⟨rfl, rfl⟩
  go_wp2_with fail
  refine (CV.out _).mono ?_
  rintro e X ⟨rfl, rfl⟩
  go_wp2_with fail
  clear c1 c2 c15 q0
  refine (CP.out _ HS2.out).mono ?_
  rintro e X3 ⟨rfl, hB⟩
  have HB3 := Lib.hid (below_trans HB2.out hB)
  have HU3 := Lib.hid (HU2.out.later hB)
  have HS3 := Lib.hid (HS2.out.later hB)
  clear HB2 HU2 HS2
  clear hB CP CU CV
  have c16 := HU3.out.cell 16
  rw [(cU_at u _ H8.out).2.2.2.2.2.2.1, KQ.out] at c16
  have c14 := HU3.out.cell 14
  rw [(cU_at u _ H8.out).2.2.2.2.1] at c14
  have heQ := KeQ.out
  have hg1 := Kg1.out
  have hg2 := Kg2.out
  have hg3 := Kg3.out
  clear KeQ Kg1 Kg2 Kg3 KQ KA KB KN
  cases bM
  · go_wp2
    go_ret
    exact ⟨by rw [← HM.out]; rfl, HX.out.trans (HB3.out.mono HX.out.size)⟩
  cases bU
  · go_wp2
    go_ret
    exact ⟨by rw [← HM.out]; rfl, HX.out.trans (HB3.out.mono HX.out.size)⟩
  cases bS
  · go_wp2
    go_ret
    exact ⟨by rw [← HM.out]; rfl, HX.out.trans (HB3.out.mono HX.out.size)⟩
  cases bP
  · go_wp2
    go_ret
    exact ⟨by rw [← HM.out]; rfl, HX.out.trans (HB3.out.mono HX.out.size)⟩
  cases eQ
  · go_wp2
    go_ret
    exact ⟨by rw [← HM.out]; rfl, HX.out.trans (HB3.out.mono HX.out.size)⟩
  cases g1
  · go_wp2
    go_ret
    exact ⟨by rw [← HM.out]; rfl, HX.out.trans (HB3.out.mono HX.out.size)⟩
  cases g2
  · go_wp2
    go_ret
    exact ⟨by rw [← HM.out]; rfl, HX.out.trans (HB3.out.mono HX.out.size)⟩
  cases g3
  · go_wp2
    go_ret
    exact ⟨by rw [← HM.out]; rfl, HX.out.trans (HB3.out.mono HX.out.size)⟩
  go_wp2
  go_ret
  exact ⟨by rw [← HM.out]; rfl, HX.out.trans (HB3.out.mono HX.out.size)⟩



set_option maxRecDepth 100000

open Go.Proofs.YtkhjhiofgoampaaGreatDoor.Show

set_option maxHeartbeats 8000000 in
theorem refBare_any (u : U) (pv : Value) (h8 : u.h.p.length = 8) (w : World) (hs : Path.Strs w pv u.path) : Calls Tryz.prog 80 #[.agg (cU u pv)] w fun e w' => e = .returned (.agg (cU (bareU u) pv)) ∧ Below w.heap.size w w' := by
  have hs1 : (w.alloc (.cells (cU u pv) 27)).heap.size = w.heap.size + 1 := Array.size_push _
  have hone := strs_one hs
  have HU := Lib.hid ((UrlAt.new w u pv).past (.cells #[.string ⟨#[]⟩, .string ⟨#[]⟩, .string ⟨#[]⟩, .int .i64 0, .string ⟨#[]⟩, .int .i64 0, .int .i64 0, .int .i64 0, .int .i64 0, .int .i64 0, .int .i64 0, .int .i64 0, .int .i64 0, .int .i64 0, .int .i64 0, .slice none 0 0, .string ⟨#[]⟩, .string ⟨#[]⟩, .string ⟨#[]⟩, .bool false, .bool false] 27))
  have hz := new_url (w.alloc (.cells (cU u pv) 27))
  rw [hs1] at hz
  have HZ := Lib.hid hz
  have HB := Lib.hid (((Below.refl w.heap.size w).alloc (Nat.le_refl _) (.cells (cU u pv) 27)).alloc (by omega) (.cells #[.string ⟨#[]⟩, .string ⟨#[]⟩, .string ⟨#[]⟩, .int .i64 0, .string ⟨#[]⟩, .int .i64 0, .int .i64 0, .int .i64 0, .int .i64 0, .int .i64 0, .int .i64 0, .int .i64 0, .int .i64 0, .int .i64 0, .int .i64 0, .slice none 0 0, .string ⟨#[]⟩, .string ⟨#[]⟩, .string ⟨#[]⟩, .bool false, .bool false] 27))
  clear hs1 hz hs
  go_enter Tryz.func80, Tryz.ntmps80
  go_upto_region 1 with fail
  generalize ((w.alloc (.cells (cU u pv) 27)).alloc (.cells #[.string ⟨#[]⟩, .string ⟨#[]⟩, .string ⟨#[]⟩, .int .i64 0, .string ⟨#[]⟩, .int .i64 0, .int .i64 0, .int .i64 0, .int .i64 0, .int .i64 0, .int .i64 0, .int .i64 0, .int .i64 0, .int .i64 0, .int .i64 0, .slice none 0 0, .string ⟨#[]⟩, .string ⟨#[]⟩, .string ⟨#[]⟩, .bool false, .bool false] 27)) = V at HU HZ HB ⊢
  have f0 := HU.out.free 18
  have g0 := HU.out.cell 18
  rw [(cU_at u pv h8).2.2.2.2.2.2.2.2.1] at g0
  have k0 := Lib.hid (show UrlAt (V.setCell ⟨w.heap.size, 18, none⟩ (.string ⟨#[]⟩)) w.heap.size _ pv from (HU.out).frg h8 [])
  have z0 : UrlAt (V.setCell ⟨w.heap.size, 18, none⟩ (.string ⟨#[]⟩)) (w.heap.size + 1) none1 (.slice none 0 0) := by
    unfold UrlAt
    rw [Below.heap_setCell _ _ _ _ (by show w.heap.size + 1 ≠ w.heap.size; omega)]
    exact HZ.out
  have b0 := below_set HB.out (Nat.le_refl w.heap.size) 18 (.string ⟨#[]⟩)
  have f1 := HU.out.free 20
  have g1 := HU.out.cell 20
  rw [(cU_at u pv h8).2.2.2.2.2.2.2.2.2.2] at g1
  have k1 := Lib.hid (show UrlAt ((V.setCell ⟨w.heap.size, 18, none⟩ (.string ⟨#[]⟩)).setCell ⟨w.heap.size, 20, none⟩ (.bool false)) w.heap.size _ pv from UrlAt.hf (k0.out) h8 false)
  have z1 : UrlAt ((V.setCell ⟨w.heap.size, 18, none⟩ (.string ⟨#[]⟩)).setCell ⟨w.heap.size, 20, none⟩ (.bool false)) (w.heap.size + 1) none1 (.slice none 0 0) := by
    unfold UrlAt
    rw [Below.heap_setCell _ _ _ _ (by show w.heap.size + 1 ≠ w.heap.size; omega)]
    exact z0
  have b1 := below_set b0 (Nat.le_refl w.heap.size) 20 (.bool false)
  have HUx := Lib.hid (show UrlAt ((V.setCell ⟨w.heap.size, 18, none⟩ (.string ⟨#[]⟩)).setCell ⟨w.heap.size, 20, none⟩ (.bool false)) w.heap.size (bareU u) pv from k1.out)
  have HZx := Lib.hid z1
  have HBx := Lib.hid b1
  have H8d : (bareU u).h.p.length = 8 := h8
  clear k0 k1 z0 b0 z1 b1 HU HZ HB
  go_wp2_with (first | ((with_reducible refine wp_load27 (o := ⟨some 5, .load 27 (.tmp 1), _, _, _, _⟩) ?_ (.tmp 1) ?_ w.heap.size ?_ (bareU u) pv H8d HUx.out ?_); (· rfl); (· rfl); (· rfl); simp only [Act.put, List.setIfInBounds_toArray, List.set_cons_zero, List.set_cons_succ]) | ((with_reducible refine wp_store27 (o := ⟨none, .store 27 (.tmp 2) (.tmp 5), _, _, _, _⟩) ?_ (.tmp 2) (.tmp 5) ?_ (w.heap.size + 1) ?_ (bareU u) pv ?_ H8d hone none1 (.slice none 0 0) rfl HZx.out ?_); (· rfl); (· rfl); (· rfl); (· rfl); simp only [Act.put, List.setIfInBounds_toArray, List.set_cons_zero, List.set_cons_succ]))
  exact bodyPost_ret (ret_url rfl (w.heap.size + 1) (bareU u) pv H8d rfl (HZx.out.row (bareU u) pv)) rfl ⟨rfl, below_row HBx.out (Nat.le_succ w.heap.size) _⟩



set_option maxRecDepth 100000



set_option maxRecDepth 100000

open Host (H mayH showH HostAt okH parH brkB inner none0)

theorem ret_hp {tmps : Array Value} {W : World} (g : Nat) (h : H) (h8 : h.p.length = 8) (b : Bool) (hp : tmps.getD 2 undef = .pointer (some ⟨g, 0, none⟩)) (hb : tmps.getD 3 undef = .bool b) (hr : HostAt W g h) :
    (results Tryz.f120 tmps).run Tryz.prog W = .ok (.tuple #[.agg h.cells, .bool b]) W := by
  have hp' : tmps[2]?.getD undef = .pointer (some ⟨g, 0, none⟩) := by simpa using hp
  have hb' : tmps[3]?.getD undef = .bool b := by simpa using hb
  simp [results, Tryz.results120, hp', hb', asAddr, hr.load h8]

theorem brk_ways (s : ByteArray) :
    (brkB s.data.toList = true ∧ ∃ (h : 1 < s.size), s[0] = 91 ∧ s[s.size - 1] = 93 ∧ s.extract 1 (s.size - 1) = tb (inner s.data.toList)) ∨
    (brkB s.data.toList = false ∧ s.size ≤ 1) ∨ (brkB s.data.toList = false ∧ ∃ (h : 1 < s.size), s[0] ≠ 91) ∨ (brkB s.data.toList = false ∧ ∃ (h : 1 < s.size), s[0] = 91 ∧ s[s.size - 1] ≠ 93) := by
  cases e : brkB s.data.toList
  · right
    by_cases h1 : 1 < s.size
    · right
      by_cases h0 : s[0] = 91
      · right
        refine ⟨rfl, h1, h0, fun hl => ?_⟩
        have : brkB s.data.toList = true := by
          rw [Host.brk_iff]
          refine ⟨(s.data.toList.drop 1).take (s.size - 2), ?_⟩
          have e1 := Pct.drop_cons s 0 (by omega)
          rw [List.drop_zero, h0] at e1
          have e4 : s.data.toList.drop s.size = [] := List.drop_of_length_le (Nat.le_refl _)
          have e3 : (s.data.toList.drop 1).drop (s.size - 2) = [93] := by
            rw [List.drop_drop, show 1 + (s.size - 2) = s.size - 1 by omega, Pct.drop_cons s (s.size - 1) (by omega), hl, show s.size - 1 + 1 = s.size by omega, e4]
          have e2 : s.data.toList.drop 1 = (s.data.toList.drop 1).take (s.size - 2) ++ [93] := by
            conv => lhs; rw [← List.take_append_drop (s.size - 2) (s.data.toList.drop 1), e3]
          rw [← e2]; exact e1
        rw [this] at e; cases e
      · exact .inl ⟨rfl, h1, h0⟩
    · exact .inl ⟨rfl, by omega⟩
  · left
    obtain ⟨x, hx⟩ := (Host.brk_iff _).1 e
    have hl : s.size = x.length + 2 := by rw [← size_list, hx]; simp
    have h1 : 1 < s.size := by omega
    refine ⟨rfl, h1, ?_, ?_, ?_⟩
    · have : s.data.toList[0]? = some 91 := by rw [hx]; rfl
      obtain ⟨_, h⟩ := List.getElem?_eq_some_iff.1 this
      exact h
    · have : s.data.toList[s.size - 1]? = some 93 := by
        rw [hx, hl, show x.length + 2 - 1 = x.length + 1 by omega, List.getElem?_cons_succ, List.getElem?_append_right (Nat.le_refl _), Nat.sub_self]; rfl
      obtain ⟨_, h⟩ := List.getElem?_eq_some_iff.1 this
      exact h
    · rw [piece_mid]
      unfold inner
      rw [size_list]

set_option maxHeartbeats 16000000 in
theorem refHostParse_any (s : ByteArray) (hs : s.size ≤ 30000) (h : H) (b : Bool) (hh : parH s.data.toList = h) (hb : okH s.data.toList = b) (w : World) :
    Calls Tryz.prog 120 #[.string s] w fun e w' => e = .returned (.tuple #[.agg h.cells, .bool b]) ∧ Below w.heap.size w w' := by
  have HX := Lib.hid (show Below w.heap.size w (w.alloc (.cells none0.cells 24)) from (Below.refl _ w).alloc (Nat.le_refl _) _)
  have HR0 := Lib.hid (HostAt.new w none0)
  have HZ0 := Lib.hid (show (#[.int .i64 0, .string ⟨#[]⟩, .int .i64 0, .int .i64 0, .int .i64 0, .int .i64 0, .int .i64 0, .int .i64 0, .int .i64 0, .int .i64 0, .int .i64 0] : Array Value) = none0.cells from rfl)
  have HH := Lib.hid hh
  have HB := Lib.hid hb
  clear hh hb
  rcases brk_ways s with ⟨hbr, h1, e0, e1, px⟩ | hno
  · have h8 : (Six.parI (inner s.data.toList)).length = 8 := Host.parI_len _
    obtain ⟨x, hx⟩ : ∃ x, tb (inner s.data.toList) = x := ⟨_, rfl⟩
    obtain ⟨p, hp⟩ : ∃ x, Six.parI (inner s.data.toList) = x := ⟨_, rfl⟩
    obtain ⟨c, hc⟩ : ∃ x, Six.parB (inner s.data.toList) = x := ⟨_, rfl⟩
    have hxs : x.size ≤ 30000 := by
      rw [size_tb hx]; unfold inner; rw [List.length_drop, List.length_take, size_list]; omega
    have CS := Lib.hid (fun u => Six.refParse_any x (by omega) p c (by rw [list_tb hx]; exact hp) (by rw [list_tb hx]; exact hc) u)
    have HC0 := Lib.hid (show c = false → b = false ∧ h = none0 from fun e => by
      have ho : okH s.data.toList = false := by unfold okH; rw [if_pos hbr, hc, e]
      exact ⟨by rw [← HB.out, ho], by rw [← HH.out]; unfold parH; rw [ho]; rfl⟩)
    have HC1 := Lib.hid (show c = true → b = true ∧ h = ⟨3, ⟨#[]⟩, 0, p⟩ from fun e => by
      have ho : okH s.data.toList = true := by unfold okH; rw [if_pos hbr, hc, e]
      exact ⟨by rw [← HB.out, ho], by rw [← HH.out]; unfold parH; rw [if_pos ho, if_pos hbr, hp]⟩)
    rw [hx] at px
    rw [hp] at h8
    have q0 : decide ((1 : Int) < (s.size : Int)) = true := decide_eq_true (by omega)
    have q1 : ((s[0].toNat : Int) == 91) = true := by rw [e0]; rfl
    have q2 : ((s[s.size - 1].toNat : Int) == 93) = true := by rw [e1]; rfl
    clear hx hp hc e0 e1 hbr HH HB hxs
    obtain ⟨a0, a1, a2, a3, a4, a5, a6, a7, rfl⟩ := eight h8
    clear h8
    go_enter Tryz.func120, Tryz.ntmps120
    go_wp2_with fail
    rw [HZ0.out]
    generalize w.alloc (.cells none0.cells 24) = W at HX HR0 ⊢
    refine (CS.out _).mono ?_
    rintro e u1 ⟨rfl, hB1⟩
    have HB1 := Lib.hid hB1
    have hBn : Below u1.heap.size u1 ((u1.alloc (.cells #[.int .i64 0, .int .i64 0, .int .i64 0, .int .i64 0, .int .i64 0, .int .i64 0, .int .i64 0, .int .i64 0] 22)).setRow u1.heap.size (arr [a0, a1, a2, a3, a4, a5, a6, a7])) := Six.below_setRow ((Below.refl _ u1).alloc (Nat.le_refl _) (.cells #[.int .i64 0, .int .i64 0, .int .i64 0, .int .i64 0, .int .i64 0, .int .i64 0, .int .i64 0, .int .i64 0] 22)) (Nat.le_refl _) _
    have hz22 : Six.RowAt (u1.alloc (.cells #[.int .i64 0, .int .i64 0, .int .i64 0, .int .i64 0, .int .i64 0, .int .i64 0, .int .i64 0, .int .i64 0] 22)) u1.heap.size zero8 := Six.RowAt.new u1 zero8
    have HR := Lib.hid (show Six.RowAt ((u1.alloc (.cells #[.int .i64 0, .int .i64 0, .int .i64 0, .int .i64 0, .int .i64 0, .int .i64 0, .int .i64 0, .int .i64 0] 22)).setRow u1.heap.size (arr [a0, a1, a2, a3, a4, a5, a6, a7])) u1.heap.size [a0, a1, a2, a3, a4, a5, a6, a7] from hz22.row [a0, a1, a2, a3, a4, a5, a6, a7])
    have HA := Lib.hid (show arr [a0, a1, a2, a3, a4, a5, a6, a7] = #[.int .i64 a0, .int .i64 a1, .int .i64 a2, .int .i64 a3, .int .i64 a4, .int .i64 a5, .int .i64 a6, .int .i64 a7] from rfl)
    have k8 : ([a0, a1, a2, a3, a4, a5, a6, a7] : List Int).length = 8 := rfl
    have z8 : zero8.length = 8 := rfl
    have HB2 := Lib.hid (below_trans hB1 hBn)
    have HR2 := Lib.hid ((HR0.out.later hB1).later hBn)
    clear hB1 hBn CS HR0 HB1 q0 q1 q2 px
    cases c
    · obtain ⟨rfl, rfl⟩ := HC0.out rfl
      clear HC0 HC1
      have HRn := Lib.hid (HR2.out.row none0)
      go_wp2_with (first
        | ((with_reducible refine Six.wp_store22 (o := ⟨none, .store 22 (.tmp 5) (.tmp 34), _, _, _, _⟩) ?_ (.tmp 5) (.tmp 34) ?_ u1.heap.size ?_ [a0, a1, a2, a3, a4, a5, a6, a7] ?_ k8 zero8 z8 hz22 ?_); (· rfl); (· rfl); (· rfl); (· rfl); simp only [Act.put, List.setIfInBounds_toArray, List.set_cons_zero, List.set_cons_succ])
        | refine Host.wp_store24 (o := ⟨none, .store 24 (.tmp 2) (.tmp 38), _, _, _, _⟩) rfl _ _ rfl w.heap.size rfl none0 rfl rfl none0 rfl HR2.out ?_)
      exact bodyPost_ret (ret_hp w.heap.size none0 rfl false rfl rfl HRn.out) rfl ⟨rfl, below_row (HX.out.trans (HB2.out.mono HX.out.size)) (Nat.le_refl _) _⟩
    · obtain ⟨rfl, rfl⟩ := HC1.out rfl
      clear HC0 HC1
      have HRn := Lib.hid (HR2.out.row ⟨3, ⟨#[]⟩, 0, [a0, a1, a2, a3, a4, a5, a6, a7]⟩)
      go_wp2_with (first
        | ((with_reducible refine Six.wp_store22 (o := ⟨none, .store 22 (.tmp 5) (.tmp 34), _, _, _, _⟩) ?_ (.tmp 5) (.tmp 34) ?_ u1.heap.size ?_ [a0, a1, a2, a3, a4, a5, a6, a7] ?_ k8 zero8 z8 hz22 ?_); (· rfl); (· rfl); (· rfl); (· rfl); simp only [Act.put, List.setIfInBounds_toArray, List.set_cons_zero, List.set_cons_succ])
        | ((with_reducible refine Six.wp_load22 (o := ⟨some 39, .load 22 (.tmp 5), _, _, _, _⟩) ?_ (.tmp 5) ?_ u1.heap.size ?_ [a0, a1, a2, a3, a4, a5, a6, a7] k8 HR.out ?_); (· rfl); (· rfl); (· rfl); simp only [Act.put, List.setIfInBounds_toArray, List.set_cons_zero, List.set_cons_succ]; rw [HA.out])
        | refine Host.wp_store24 (o := ⟨none, .store 24 (.tmp 2) (.tmp 40), _, _, _, _⟩) rfl _ _ rfl w.heap.size rfl ⟨3, ⟨#[]⟩, 0, [a0, a1, a2, a3, a4, a5, a6, a7]⟩ rfl rfl none0 rfl HR2.out ?_)
      exact bodyPost_ret (ret_hp w.heap.size ⟨3, ⟨#[]⟩, 0, [a0, a1, a2, a3, a4, a5, a6, a7]⟩ rfl true rfl rfl HRn.out) rfl ⟨rfl, below_row (HX.out.trans (HB2.out.mono HX.out.size)) (Nat.le_refl _) _⟩
  have hbr : brkB s.data.toList = false := by rcases hno with ⟨a, _⟩ | ⟨a, _⟩ | ⟨a, _⟩ <;> exact a
  obtain ⟨lk, hlk⟩ : ∃ x, Four.lookB s.data.toList = x := ⟨_, rfl⟩
  obtain ⟨n, hn⟩ : ∃ x, Four.parI s.data.toList = x := ⟨_, rfl⟩
  obtain ⟨f, hf⟩ : ∃ x, Four.parB s.data.toList = x := ⟨_, rfl⟩
  obtain ⟨Lw, hL⟩ : ∃ x, tb (Ascii.lower s.data.toList) = x := ⟨_, rfl⟩
  obtain ⟨D, hD⟩ : ∃ x, Host.domB (Ascii.lower s.data.toList) = x := ⟨_, rfl⟩
  have hLs : Lw.size ≤ 30000 := by rw [size_tb hL]; simp only [Ascii.lower, List.length_map]; rw [size_list]; exact hs
  have CK := Lib.hid (fun u => Four.refLooks_at s (by omega) lk hlk u)
  have CF := Lib.hid (fun u => Four.refParse_at s (by omega) n f hn hf u)
  have CL := Lib.hid (fun u => show Calls Tryz.prog 85 #[.string s] u fun e w' => e = .returned (.string Lw) ∧ Below u.heap.size u w' from hL ▸ Ascii.refLower_any s hs u)
  have CN := Lib.hid (fun u => Show.refName_any Lw (by omega) D (by rw [list_tb hL]; exact hD) u)
  have HF0 := Lib.hid (show lk = true → f = false → b = false ∧ h = none0 from fun k e => by
    have ho : okH s.data.toList = false := by unfold okH; rw [hbr, hlk, k, hf, e]; rfl
    exact ⟨by rw [← HB.out, ho], by rw [← HH.out]; unfold parH; rw [ho]; rfl⟩)
  have HF1 := Lib.hid (show lk = true → f = true → b = true ∧ h = ⟨2, ⟨#[]⟩, n, zero8⟩ from fun k e => by
    have ho : okH s.data.toList = true := by unfold okH; rw [hbr, hlk, k, hf, e]; rfl
    exact ⟨by rw [← HB.out, ho], by rw [← HH.out]; unfold parH; rw [if_pos ho, hbr, hlk, k, hn]; rfl⟩)
  have HD0 := Lib.hid (show lk = false → D = false → b = false ∧ h = none0 from fun k e => by
    have ho : okH s.data.toList = false := by unfold okH; rw [hbr, hlk, k, hD, e]; rfl
    exact ⟨by rw [← HB.out, ho], by rw [← HH.out]; unfold parH; rw [ho]; rfl⟩)
  have HD1 := Lib.hid (show lk = false → D = true → b = true ∧ h = ⟨1, Lw, 0, zero8⟩ from fun k e => by
    have ho : okH s.data.toList = true := by unfold okH; rw [hbr, hlk, k, hD, e]; rfl
    exact ⟨by rw [← HB.out, ho], by rw [← HH.out]; unfold parH; rw [if_pos ho, hbr, hlk, k]; rw [← hL]; rfl⟩)
  have hno : (decide ((1 : Int) < (s.size : Int)) = false ∧ decide (1 < s.size) = false) ∨ (∃ (h : 0 < s.size), decide ((1 : Int) < (s.size : Int)) = true ∧ 1 < s.size ∧ ((s[0].toNat : Int) == 91) = false) ∨ (∃ (h : 1 < s.size), decide ((1 : Int) < (s.size : Int)) = true ∧ ((s[0].toNat : Int) == 91) = true ∧ ((s[s.size - 1].toNat : Int) == 93) = false) := by
    rcases hno with ⟨_, a⟩ | ⟨_, a, c⟩ | ⟨_, a, c, d⟩
    · exact .inl ⟨decide_eq_false (by omega), decide_eq_false (by omega)⟩
    · exact .inr (.inl ⟨by omega, decide_eq_true (by omega), a, beq_eq_false_iff_ne.2 (fun q => c (UInt8.toNat_inj.1 (by simpa using (by omega : s[0].toNat = 91))))⟩)
    · exact .inr (.inr ⟨a, decide_eq_true (by omega), by rw [c]; rfl, beq_eq_false_iff_ne.2 (fun q => d (UInt8.toNat_inj.1 (by simpa using (by omega : s[s.size - 1].toNat = 93))))⟩)
  clear hbr hlk hn hf hL hD hLs HH HB
  rcases hno with ⟨q0, q0'⟩ | ⟨h0, q0, h1, q1⟩ | ⟨h1, q0, q1, q2⟩
  all_goals
    go_enter Tryz.func120, Tryz.ntmps120
    go_wp2_with fail
    rw [HZ0.out]
    generalize w.alloc (.cells none0.cells 24) = W at HX HR0 ⊢
    refine (CK.out _).mono ?_
    rintro e u1 ⟨rfl, rfl⟩
    cases lk
    · go_wp2_with fail
      refine (CL.out _).mono ?_
      rintro e u1 ⟨rfl, hB1⟩
      have HB1 := Lib.hid (HX.out.trans (hB1.mono HX.out.size))
      have HR1 := Lib.hid (HR0.out.later hB1)
      clear hB1 HR0 CL CF CK
      go_wp2_with fail
      refine (CN.out _).mono ?_
      rintro e u2 ⟨rfl, rfl⟩
      cases D
      · obtain ⟨rfl, rfl⟩ := HD0.out (by first | rfl | trivial) (by first | rfl | trivial)
        clear HD0 HD1 HF0 HF1
        have HRn := Lib.hid (HR1.out.row none0)
        go_wp2_with (refine Host.wp_store24 (o := ⟨none, .store 24 (.tmp 2) (.tmp 60), _, _, _, _⟩) rfl _ _ rfl w.heap.size rfl none0 rfl rfl none0 rfl HR1.out ?_)
        exact bodyPost_ret (ret_hp w.heap.size none0 rfl false rfl rfl HRn.out) rfl ⟨rfl, below_row HB1.out (Nat.le_refl _) _⟩
      · obtain ⟨rfl, rfl⟩ := HD1.out (by first | rfl | trivial) (by first | rfl | trivial)
        clear HD0 HD1 HF0 HF1
        have HRn := Lib.hid (HR1.out.row ⟨1, Lw, 0, zero8⟩)
        go_wp2_with (refine Host.wp_store24 (o := ⟨none, .store 24 (.tmp 2) (.tmp 62), _, _, _, _⟩) rfl _ _ rfl w.heap.size rfl ⟨1, Lw, 0, zero8⟩ rfl rfl none0 rfl HR1.out ?_)
        exact bodyPost_ret (ret_hp w.heap.size ⟨1, Lw, 0, zero8⟩ rfl true rfl rfl HRn.out) rfl ⟨rfl, below_row HB1.out (Nat.le_refl _) _⟩
    · go_wp2_with fail
      refine (CF.out _).mono ?_
      rintro e u1 ⟨rfl, hB1⟩
      have HB1 := Lib.hid (HX.out.trans (hB1.mono HX.out.size))
      have HR1 := Lib.hid (HR0.out.later hB1)
      clear hB1 HR0 CL CF CK CN
      cases f
      · obtain ⟨rfl, rfl⟩ := HF0.out (by first | rfl | trivial) (by first | rfl | trivial)
        clear HD0 HD1 HF0 HF1
        have HRn := Lib.hid (HR1.out.row none0)
        go_wp2_with (refine Host.wp_store24 (o := ⟨none, .store 24 (.tmp 2) (.tmp 51), _, _, _, _⟩) rfl _ _ rfl w.heap.size rfl none0 rfl rfl none0 rfl HR1.out ?_)
        exact bodyPost_ret (ret_hp w.heap.size none0 rfl false rfl rfl HRn.out) rfl ⟨rfl, below_row HB1.out (Nat.le_refl _) _⟩
      · obtain ⟨rfl, rfl⟩ := HF1.out (by first | rfl | trivial) (by first | rfl | trivial)
        clear HD0 HD1 HF0 HF1
        have HRn := Lib.hid (HR1.out.row ⟨2, ⟨#[]⟩, n, zero8⟩)
        go_wp2_with (refine Host.wp_store24 (o := ⟨none, .store 24 (.tmp 2) (.tmp 53), _, _, _, _⟩) rfl _ _ rfl w.heap.size rfl ⟨2, ⟨#[]⟩, n, zero8⟩ rfl rfl none0 rfl HR1.out ?_)
        exact bodyPost_ret (ret_hp w.heap.size ⟨2, ⟨#[]⟩, n, zero8⟩ rfl true rfl rfl HRn.out) rfl ⟨rfl, below_row HB1.out (Nat.le_refl _) _⟩



set_option maxRecDepth 100000

open Host (H mayH showH HostAt okH parH none0)

/-! ### a host written into an address -/
def fillV (cs : Array Value) : Nat → List Value → Array Value
  | _, [] => cs
  | o, v :: r => fillV (cs.setIfInBounds o v) (o + 1) r

theorem heap_setCells {g : Nat} {t : TypeId} {fr : Nat × Nat} : ∀ (vs : List Value) (o : Nat) (w : World) (cs : Array Value), w.heap[g]? = some (.cells cs t fr) → (w.setCells g o vs).heap[g]? = some (.cells (fillV cs o vs) t fr)
  | [], _, _, _, h => h
  | v :: r, o, w, cs, h => heap_setCells r (o + 1) _ _ (heap_set h o v)

theorem heap_setCells_other {g k : Nat} (hk : k ≠ g) : ∀ (vs : List Value) (o : Nat) (w : World), (w.setCells g o vs).heap[k]? = w.heap[k]?
  | [], _, _ => rfl
  | v :: r, o, w => (heap_setCells_other hk r (o + 1) _).trans (Below.heap_setCell _ _ _ _ hk)

theorem below_cells {B g : Nat} {a : World} (hg : B ≤ g) : ∀ (vs : List Value) (o : Nat) (w : World), Below B a w → Below B a (w.setCells g o vs)
  | [], _, _, h => h
  | v :: r, o, w, h => below_cells hg r (o + 1) _ (below_set h hg o v)

theorem UrlAt.hst {w : World} {g : Nat} {u : U} {pv : Value} (a : UrlAt w g u pv) (h8 : u.h.p.length = 8) (k : H) (k8 : k.p.length = 8) : UrlAt (w.setCells g 3 k.cells.toList) g { u with h := k } pv := by
  have := heap_setCells k.cells.toList 3 w _ a
  unfold UrlAt
  rw [this]
  obtain ⟨sch, usr, pas, ⟨k1, s, n, p⟩, port, path, opq, qry, frg, hq, hf⟩ := u
  obtain ⟨a, b, c, d, e, f, g, i, rfl⟩ := eight h8
  obtain ⟨k1, s, n, p⟩ := k
  obtain ⟨a, b, c, d, e, f, g, i, rfl⟩ := eight k8
  refine congrArg (fun c => some (Obj.cells c 27 (0, 0))) ?_
  simp [fillV, Host.H.cells, Host.cH, Six.arr, cU]

theorem url_other {w : World} {g b : Nat} {u : U} {pv : Value} (a : UrlAt w g u pv) (h : g ≠ b) (o : Nat) (v : Value) : UrlAt (w.setCell ⟨b, o, none⟩ v) g u pv := by
  unfold UrlAt
  rw [Below.heap_setCell _ _ _ _ h]
  exact a

theorem url_others {w : World} {g b : Nat} {u : U} {pv : Value} (a : UrlAt w g u pv) (h : g ≠ b) (o : Nat) (vs : List Value) : UrlAt (w.setCells b o vs) g u pv := by
  unfold UrlAt
  rw [heap_setCells_other h]
  exact a

theorem wp_store24u {ops : Array Oper} {rest : List Oper} {o : Oper} {a : Act} {w : World} {Q : Exit → Act → World → Prop} (hgd : o.guard = none) (x y : Operand) (ho : o.op = .store 24 x y) (g : Nat) (hx : a.eval x = .pointer (some ⟨g, 3, none⟩))
    (k : H) (hy : a.eval y = .agg k.cells) (k8 : k.p.length = 8) (u : U) (pv : Value) (h8 : u.h.p.length = 8) (hr : UrlAt w g u pv) (hk : wpList Tryz.prog ops Q rest (a.put o.dst undef) (w.setCells g 3 k.cells.toList)) : wpList Tryz.prog ops Q (o :: rest) a w := by
  refine wpList_store_mid hgd 24 x y ho g 3 k.cells hx hy (fun j hj => ⟨?_, hr.free _⟩) (by rw [k.size k8]; exact Host.size24) k.one hk
  rw [hr.cell]
  rw [k.size k8] at hj
  have : (cU u pv).size = 21 := cU_size u pv h8
  rw [Array.getElem?_eq_getElem (by omega)]
  rfl
/-! ### the last at sign -/

def atQ (l : T) : Nat := if (64 : UInt8) ∈ l then (lbef 64 l).length + 1 else 0

theorem atQ_hit (l : T) : atQ (l ++ [64]) = l.length + 1 := by
  unfold atQ
  rw [if_pos (by simp), lbef_at l [] (by simp)]

theorem atQ_miss (l : T) (c : UInt8) (h : c ≠ 64) : atQ (l ++ [c]) = atQ l := by
  unfold atQ
  rcases lparted 64 l with hn | ⟨a, r, rfl, hr⟩
  · rw [if_neg hn, if_neg (by simp [hn, Ne.symm h])]
  · rw [if_pos (by simp), if_pos (by simp), lbef_at a r hr, List.append_assoc, List.cons_append, lbef_at a (r ++ [c]) (by simp [hr, Ne.symm h])]

theorem atQ_ways (l : T) : (atQ l = 0 ∧ (64 : UInt8) ∉ l ∧ place l = l ∧ user l = [] ∧ pass l = []) ∨ (∃ p, atQ l = p + 1 ∧ p < l.length ∧ l.take p = lbef 64 l ∧ p = (lbef 64 l).length ∧ place l = l.drop (p + 1)) := by
  rcases lparted 64 l with hn | ⟨a, r, rfl, hr⟩
  · left
    refine ⟨by unfold atQ; rw [if_neg hn], hn, laft_no l hn, ?_, ?_⟩
    · unfold user; rw [lbef_no l hn]; rfl
    · unfold pass; rw [lbef_no l hn]; rfl
  · right
    have e := lbef_at a r hr
    refine ⟨a.length, by unfold atQ; rw [if_pos (by simp), e], by simp, by rw [e, List.take_left], by rw [e], ?_⟩
    unfold place
    rw [laft_at a r hr]
    simp

theorem take_at (s : ByteArray) (k : Nat) (h : k < s.size) : s.data.toList.take (k + 1) = s.data.toList.take k ++ [s[k]] := by
  rw [List.take_succ_eq_append_getElem (by exact h)]; rfl

theorem ret_auth {tmps : Array Value} {W : World} (g : Nat) (u : U) (pv : Value) (h8 : u.h.p.length = 8) (b : Bool) (hp : tmps.getD 4 undef = .pointer (some ⟨g, 0, none⟩)) (hb : tmps.getD 5 undef = .bool b) (hr : UrlAt W g u pv) :
    (results Tryz.f78 tmps).run Tryz.prog W = .ok (.tuple #[.agg (cU u pv), .bool b]) W := by
  have hp' : tmps[4]?.getD undef = .pointer (some ⟨g, 0, none⟩) := by simpa using hp
  have hb' : tmps[5]?.getD undef = .bool b := by simpa using hb
  simp [results, Tryz.results78, hp', hb', asAddr, hr.load h8]

/-- How the place ahead of the port begins. -/
theorem inside_ways (D : ByteArray) : (decide (0 < D.size) = false ∧ inside D.data.toList = 0) ∨ (∃ h : 0 < D.size, ((D[0].toNat : Int) == 91) = false ∧ inside D.data.toList = 0) ∨
    (∃ h : 0 < D.size, ((D[0].toNat : Int) == 91) = true ∧ (((findN 93 D.data.toList 0 : Nat) : Int) == (D.size : Int)) = true ∧ inside D.data.toList = 0) ∨
    (∃ h : 0 < D.size, ((D[0].toNat : Int) == 91) = true ∧ (((findN 93 D.data.toList 0 : Nat) : Int) == (D.size : Int)) = false ∧ inside D.data.toList = findN 93 D.data.toList 0) := by
  by_cases h0 : 0 < D.size
  · right
    have e := Pct.drop_cons D 0 h0
    rw [List.drop_zero] at e
    by_cases h91 : D[0] = 91
    · right
      have hp : Lib.hasPrefix D.data.toList [91] = true := by rw [Host.pre_iff]; exact ⟨_, by rw [e, h91]⟩
      have hh := find_has 93 D
      cases hc : D.data.toList.contains 93
      · rw [hc] at hh
        exact .inl ⟨h0, by rw [h91]; rfl, hh.symm, by unfold inside; rw [hc, Bool.and_false]; rfl⟩
      · rw [hc] at hh
        exact .inr ⟨h0, by rw [h91]; rfl, hh.symm, by unfold inside; rw [hc, hp, find_bef]; rfl⟩
    · refine .inl ⟨h0, beq_eq_false_iff_ne.2 (fun q => h91 (UInt8.toNat_inj.1 (by simpa using (by omega : D[0].toNat = 91)))), ?_⟩
      unfold inside
      cases hc : Lib.hasPrefix D.data.toList [91]
      · rfl
      · obtain ⟨r, hr⟩ := (Host.pre_iff _).1 hc
        rw [hr] at e
        exact absurd (List.cons.inj e).1.symm h91
  · left
    have : D.data.toList = [] := List.length_eq_zero_iff.1 (by rw [size_list]; omega)
    exact ⟨decide_eq_false h0, by rw [this]; rfl⟩

set_option maxHeartbeats 32000000 in
theorem refAuth_any (u : U) (pv : Value) (h8 : u.h.p.length = 8) (hu1 : u.usr = []) (hu2 : u.pas = []) (s : ByteArray) (hs : s.size ≤ 9000) (b : Bool) (hb : (okH (hname (place s.data.toList)) && portB (digs (place s.data.toList))) = b) (x : U)
    (hx : (if b then { u with usr := Pct.encode 4 (user s.data.toList), pas := Pct.encode 4 (pass s.data.toList), h := parH (hname (place s.data.toList)), port := portI u.sch (digs (place s.data.toList)) } else none1) = x) (w : World) (hst : Path.Strs w pv u.path) :
    Calls Tryz.prog 78 #[.agg (cU u pv), .string s] w fun e w' => e = .returned (.tuple #[.agg (cU x (if b then pv else .slice none 0 0)), .bool b]) ∧ Below w.heap.size w w' := by
  have hs1 : (w.alloc (.cells (cU u pv) 27)).heap.size = w.heap.size + 1 := Array.size_push _
  have hone := strs_one hst
  have HU := Lib.hid ((UrlAt.new w u pv).past (.cells #[.string ⟨#[]⟩, .string ⟨#[]⟩, .string ⟨#[]⟩, .int .i64 0, .string ⟨#[]⟩, .int .i64 0, .int .i64 0, .int .i64 0, .int .i64 0, .int .i64 0, .int .i64 0, .int .i64 0, .int .i64 0, .int .i64 0, .int .i64 0, .slice none 0 0, .string ⟨#[]⟩, .string ⟨#[]⟩, .string ⟨#[]⟩, .bool false, .bool false] 27))
  have hz := new_url (w.alloc (.cells (cU u pv) 27))
  rw [hs1] at hz
  have HZ := Lib.hid hz
  have HB := Lib.hid (((Below.refl w.heap.size w).alloc (Nat.le_refl _) (.cells (cU u pv) 27)).alloc (by omega) (.cells #[.string ⟨#[]⟩, .string ⟨#[]⟩, .string ⟨#[]⟩, .int .i64 0, .string ⟨#[]⟩, .int .i64 0, .int .i64 0, .int .i64 0, .int .i64 0, .int .i64 0, .int .i64 0, .int .i64 0, .int .i64 0, .int .i64 0, .int .i64 0, .slice none 0 0, .string ⟨#[]⟩, .string ⟨#[]⟩, .string ⟨#[]⟩, .bool false, .bool false] 27))
  clear hs1 hz hst
  obtain ⟨D, hD⟩ : ∃ x, tb (place s.data.toList) = x := ⟨_, rfl⟩
  obtain ⟨q, hq⟩ : ∃ x, atQ s.data.toList = x := ⟨_, rfl⟩
  obtain ⟨I, hI⟩ : ∃ x, inside D.data.toList = x := ⟨_, rfl⟩
  obtain ⟨f, hf⟩ : ∃ x, findN 93 D.data.toList 0 = x := ⟨_, rfl⟩
  obtain ⟨k, hk⟩ : ∃ x, findN 58 D.data.toList I = x := ⟨_, rfl⟩
  obtain ⟨Nm, hNm⟩ : ∃ x, tb (hname D.data.toList) = x := ⟨_, rfl⟩
  obtain ⟨G, hG⟩ : ∃ x, tb (digs D.data.toList) = x := ⟨_, rfl⟩
  obtain ⟨h, hh⟩ : ∃ x, parH (hname D.data.toList) = x := ⟨_, rfl⟩
  obtain ⟨b1, hb1⟩ : ∃ x, okH (hname D.data.toList) = x := ⟨_, rfl⟩
  obtain ⟨b2, hb2⟩ : ∃ x, portB (digs D.data.toList) = x := ⟨_, rfl⟩
  obtain ⟨z, hz⟩ : ∃ z, (if b2 then portI u.sch (digs D.data.toList) else 0) = z := ⟨_, rfl⟩
  obtain ⟨S, hS⟩ : ∃ x, tb u.sch = x := ⟨_, rfl⟩
  have hDl := list_tb hD
  have hD1 : D.size ≤ s.size := by rw [size_tb hD]; unfold place; exact laft_len _ _
  have hI1 : I ≤ D.size := by rw [← hI]; exact inside_le D.data.toList
  have hk1 : I ≤ k ∧ k ≤ D.size := by
    rw [← hk]
    exact ⟨Nat.le_add_right _ _, find_le 58 _ I hI1⟩
  have hkb : k = I + (bef 58 (D.data.toList.drop I)).length := hk.symm
  have pn : D.extract 0 k = Nm := by rw [piece_to D _ hk1.2, ← hNm, hname_take, hI, ← hkb]
  have hNs : Nm.size ≤ 9000 := by rw [← pn, piece_to D _ hk1.2, tb_size, List.length_take, size_list]; omega
  have hGk : (k < D.size → D.extract (k + 1) D.size = G) ∧ (k = D.size → (⟨#[]⟩ : ByteArray) = G) := by
    refine ⟨fun hlt => ?_, fun he => ?_⟩
    · rw [piece_from D _ (by omega), ← hG]
      unfold digs
      rw [hI, ← aft_drop, List.drop_drop, hkb]
      congr 2
    · rw [← hG]
      unfold digs
      rw [hI, aft_no _ ((bef_full 58 _).1 (by rw [List.length_drop, size_list]; omega))]; rfl
  have hGs : G.size ≤ 9000 := by
    rw [size_tb hG]
    unfold digs
    have := aft_len 58 (D.data.toList.drop (inside D.data.toList))
    rw [List.length_drop, size_list] at this
    omega
  have CF := Lib.hid (fun y => refFind_any D (by omega) 93 0 (Nat.zero_le _) f hf y)
  have CK := Lib.hid (fun y => refFind_any D (by omega) 58 I hI1 k hk y)
  have CH := Lib.hid (fun y => refHostParse_any Nm (by omega) h b1 (by rw [list_tb hNm]; exact hh) (by rw [list_tb hNm]; exact hb1) y)
  have CP := Lib.hid (fun y => refPort_any G S (by omega) b2 (by rw [list_tb hG]; exact hb2) z (by rw [list_tb hG, list_tb hS]; exact hz) y)
  have H8h := Lib.hid (show h.p.length = 8 by rw [← hh]; exact Host.parH_len _)
  rw [← hDl] at hb hx
  rw [hb1, hb2] at hb
  rw [hh] at hx
  have HX0 := Lib.hid (show b = false → x = none1 from fun e => by rw [← hx, e]; rfl)
  have HX1 := Lib.hid (show b = true → x = { u with usr := Pct.encode 4 (user s.data.toList), pas := Pct.encode 4 (pass s.data.toList), h := h, port := z } from fun e => by
    have e2 : b2 = true := by rw [e] at hb; cases b1 <;> cases b2 <;> first | rfl | cases hb
    rw [← hx, if_pos e, ← hz, if_pos e2])
  have HIW := Lib.hid (inside_ways D)
  rw [hf, hI] at HIW
  have pd : s.extract q s.size = D ∧ q ≤ s.size := by
    rcases atQ_ways s.data.toList with ⟨e, _, e2, _⟩ | ⟨p, e, e1, _, _, e2⟩
    · have : q = 0 := by rw [← hq, e]
      rw [this, piece_from s 0 (Nat.zero_le _), List.drop_zero, ← hD, e2]
      exact ⟨rfl, Nat.zero_le _⟩
    · rw [size_list] at e1
      have : q = p + 1 := by rw [← hq, e]
      rw [this, piece_from s _ (by omega), ← hD, e2]
      exact ⟨rfl, by omega⟩
  have HQW := Lib.hid (atQ_ways s.data.toList)
  rw [hq] at HQW
  have HQ := Lib.hid hq
  have HSs := Lib.hid hS
  have HPD := Lib.hid pd
  have HGK := Lib.hid hGk
  have HPN := Lib.hid pn
  have HHb := Lib.hid hb
  have H1 := Lib.hid hu1
  have H2 := Lib.hid hu2
  have H8 := Lib.hid h8
  clear hD hq hI hf hk hNm hG hh hb1 hb2 hz hS hDl hkb pn hGk hb hx pd hu1 hu2 h8
  go_enter Tryz.func78, Tryz.ntmps78
  go_upto_region 1 with fail
  generalize (w.alloc (.cells (cU u pv) 27)).alloc (.cells #[.string ⟨#[]⟩, .string ⟨#[]⟩, .string ⟨#[]⟩, .int .i64 0, .string ⟨#[]⟩, .int .i64 0, .int .i64 0, .int .i64 0, .int .i64 0, .int .i64 0, .int .i64 0, .int .i64 0, .int .i64 0, .int .i64 0, .int .i64 0, .slice none 0 0, .string ⟨#[]⟩, .string ⟨#[]⟩, .string ⟨#[]⟩, .bool false, .bool false] 27) = V at HU HZ HB ⊢
  go_wp2
  go_loop [6, 7] (fun v i => ∃ (j p : Nat), j ≤ s.size ∧ p ≤ j ∧ v = .int .i64 ((p : Int) - 1) ∧ i = .int .i64 j ∧ Hid (atQ (s.data.toList.take j) = p)) (fun _ i => s.size - (intOf i).toNat)
  case atStart => exact ⟨0, 0, Nat.zero_le _, Nat.le_refl _, rfl, rfl, Lib.hid rfl⟩
  case round =>
    obtain ⟨j, p, hj, hpj, rfl, rfl, HJ⟩ := hrel
    by_cases hlt : j < s.size
    · have e := take_at s j hlt
      by_cases h64 : s[j] = 64
      · have q1 : ((s[j].toNat : Int) == 64) = true := by rw [h64]; rfl
        have HN := Lib.hid (show atQ (s.data.toList.take (j + 1)) = j + 1 from by rw [e, h64, atQ_hit, List.length_take, Nat.min_eq_left (by rw [size_list]; omega)])
        clear e h64 HJ
        go_wp2
        go_round
        case rel => exact ⟨j + 1, j + 1, by omega, Nat.le_refl _, by simp, by go_num, HN⟩
        case measure => simp [intOf]; omega
      · have q1 : ((s[j].toNat : Int) == 64) = false := beq_eq_false_iff_ne.2 (fun q => h64 (UInt8.toNat_inj.1 (by simpa using (by omega : s[j].toNat = 64))))
        have HN := Lib.hid (show atQ (s.data.toList.take (j + 1)) = p from by rw [e, atQ_miss _ _ h64, HJ.out])
        clear e h64 HJ
        go_wp2
        go_round
        case rel => exact ⟨j + 1, p, by omega, by omega, rfl, by go_num, HN⟩
        case measure => simp [intOf]; omega
    · obtain rfl : j = s.size := by omega
      have hpq : p = q := by
        have := HJ.out
        rw [List.take_of_length_le (by rw [size_list]; exact Nat.le_refl _), HQ.out] at this
        exact this.symm
      subst hpq
      clear HJ
      obtain ⟨T29, h29⟩ : ∃ b, decide ((0 : Int) ≤ (p : Int) - 1) = b := ⟨_, rfl⟩
      have h29b : decide ((1 : Int) ≤ (p : Int)) = T29 := by rw [← h29]; exact decide_eq_decide.2 (by omega)
      have h29c : decide (0 < p) = T29 := by rw [← h29]; exact decide_eq_decide.2 (by omega)
      have h29d : decide (1 ≤ p) = T29 := by rw [← h29]; exact decide_eq_decide.2 (by omega)
      have HT := Lib.hid (show (T29 = true → 0 < p) ∧ (T29 = false → p = 0) from by
        rw [← h29]
        exact ⟨fun h => by have := of_decide_eq_true h; omega, fun h => by have := of_decide_eq_false h; omega⟩)
      obtain ⟨EU, hEU⟩ : ∃ x : T, Pct.encode 4 (user s.data.toList) = x := ⟨_, rfl⟩
      obtain ⟨EP, hEP⟩ : ∃ x : T, Pct.encode 4 (pass s.data.toList) = x := ⟨_, rfl⟩
      rw [hEU, hEP] at HX1
      have KEU := Lib.hid hEU
      have KEP := Lib.hid hEP
      clear hEU hEP
      go_upto_if 29 with (fail)
      clear h29 h29b h29c h29d
      go_cut [6] (fun v6 wx => v6 = .int .i64 ((p : Int) - 1) ∧ Hid (UrlAt wx w.heap.size { u with usr := EU, pas := EP } pv) ∧ Hid (UrlAt wx (w.heap.size + 1) none1 (.slice none 0 0)) ∧ Hid (Below w.heap.size w wx))
      case first =>
        cases T29
        · obtain rfl := HT.out.2 rfl
          go_wp2_with fail
          go_meet
          have hu : ({ u with usr := EU, pas := EP } : U) = u := by
            rcases HQW.out with ⟨_, _, _, e1, e2⟩ | ⟨p, e, _⟩
            · rw [← KEU.out, ← KEP.out, e1, e2]
              have a1 := H1.out
              have a2 := H2.out
              cases u
              simp only at a1 a2
              rw [a1, a2]; rfl
            · omega
          rw [hu]
          exact ⟨by first | rfl | simp, HU, HZ, HB⟩
        · have hp0 := HT.out.1 rfl
          obtain ⟨r, rfl⟩ : ∃ r, p = r + 1 := ⟨p - 1, by omega⟩
          obtain ⟨A, hA⟩ : ∃ x, tb (lbef 64 s.data.toList) = x := ⟨_, rfl⟩
          have hway : r < s.size ∧ s.data.toList.take r = lbef 64 s.data.toList ∧ r = (lbef 64 s.data.toList).length := by
            rcases HQW.out with ⟨e, _⟩ | ⟨r', e, e1, e2, e3, _⟩
            · omega
            · obtain rfl : r = r' := by omega
              exact ⟨e1, e2, e3⟩
          obtain ⟨hr1, hr2, hr3⟩ := hway
          have pA : s.extract 0 r = A := by rw [piece_to s _ (by omega), hr2, hA]
          have hAs : A.size = r := by rw [size_tb hA]; exact hr3.symm
          obtain ⟨c, hc⟩ : ∃ x, findN 58 A.data.toList 0 = x := ⟨_, rfl⟩
          have hc2 : c = (bef 58 (lbef 64 s.data.toList)).length := by rw [← hc, find_bef, list_tb hA]
          have hcr : c ≤ r := by rw [hc2]; have := bef_len 58 (lbef 64 s.data.toList); omega
          obtain ⟨X, hX⟩ : ∃ x, tb (user s.data.toList) = x := ⟨_, rfl⟩
          obtain ⟨Y, hY⟩ : ∃ x, tb (pass s.data.toList) = x := ⟨_, rfl⟩
          have hbr : s.data.toList.take c = (lbef 64 s.data.toList).take c := by rw [← hr2, List.take_take, Nat.min_eq_left hcr]
          have pX : s.extract 0 c = X := by
            rw [piece_to s _ (by omega), hbr, ← hX]
            unfold user
            rw [hc2, bef_take]
          have pY : c < r → s.extract (c + 1) r = Y := fun h => by
            rw [piece_mid, hr2, ← hY]
            unfold pass
            rw [← aft_drop, hc2]
          have pN : c = r → EP = [] := fun h => by
            rw [← KEP.out]
            unfold pass
            rw [aft_no _ ((bef_full 58 _).1 (by omega))]; rfl
          have hXs : X.size ≤ 9000 := by rw [← pX, piece_to s _ (by omega), tb_size, List.length_take, size_list]; omega
          have hYs : Y.size ≤ 9000 := by
            rw [size_tb hY]; unfold pass
            have h1 := aft_len 58 (lbef 64 s.data.toList)
            have h2 := lbef_len 64 s.data.toList
            rw [size_list] at h2
            omega
          have CA := Lib.hid (fun y => refFind_any A (by omega) 58 0 (Nat.zero_le _) c hc y)
          have CX := Lib.hid (fun y => show Calls Tryz.prog 77 #[.string X, .int .i64 4] y fun e w' => e = .returned (.string (tb EU)) ∧ Below y.heap.size y w' from by
            have := Pct.refEncode_any X (by omega) 4 y
            rw [list_tb hX, KEU.out] at this
            exact this)
          have CY := Lib.hid (fun y => show Calls Tryz.prog 77 #[.string Y, .int .i64 4] y fun e w' => e = .returned (.string (tb EP)) ∧ Below y.heap.size y w' from by
            have := Pct.refEncode_any Y (by omega) 4 y
            rw [list_tb hY, KEP.out] at this
            exact this)
          have KY := Lib.hid pY
          have KN := Lib.hid pN
          have KX := Lib.hid pX
          have KH2 := Lib.hid (show EP = [] → ({ u with usr := EU, pas := EP } : U) = { u with usr := EU } from fun e => by
            have a2 := H2.out
            cases u
            simp only at a2
            rw [a2, e])
          clear hA hr2 hr3 hc hc2 hX hY hbr pX pY pN hXs hYs hp0 hAs
          have e6 : (((r + 1 : Nat) : Int) - 1) = (r : Int) := by omega
          have E6 := Lib.hid e6
          rw [e6]
          clear e6
          go_wp2_with fail
          refine (CA.out _).mono ?_
          rintro e X1 ⟨rfl, rfl⟩
          have px := KX.out
          clear pA
          go_wp2_with fail
          refine (CX.out _).mono ?_
          rintro e X1 ⟨rfl, hB⟩
          have HU1 := Lib.hid (HU.out.later hB)
          have HZ1 := Lib.hid (HZ.out.later hB)
          have HB1 := Lib.hid (HB.out.trans (hB.mono HB.out.size))
          clear hB px CX CA HU HZ HB
          have f1 := HU1.out.free 1
          have g1 := HU1.out.cell 1
          rw [(cU_at u pv H8.out).2.1] at g1
          have HU2 := Lib.hid (Show.at_usr HU1.out H8.out EU)
          have HZ2 := Lib.hid (url_other HZ1.out (by omega : w.heap.size + 1 ≠ w.heap.size) 1 (.string (tb EU)))
          have HB2 := Lib.hid (below_set HB1.out (Nat.le_refl w.heap.size) 1 (.string (tb EU)))
          clear HU1 HZ1 HB1
          by_cases hlt : c < r
          · have py := KY.out hlt
            have q1 : decide (c < r) = true := decide_eq_true hlt
            go_wp2_with fail
            generalize X1.setCell ⟨w.heap.size, 1, none⟩ (.string (tb EU)) = X2 at HU2 HZ2 HB2 ⊢
            clear f1 g1
            refine (CY.out _).mono ?_
            rintro e X3 ⟨rfl, hB⟩
            have HU3 := Lib.hid (HU2.out.later hB)
            have HZ3 := Lib.hid (HZ2.out.later hB)
            have HB3 := Lib.hid (HB2.out.trans (hB.mono HB2.out.size))
            clear hB HU2 HZ2 HB2 py q1
            have f2 := HU3.out.free 2
            have g2 := HU3.out.cell 2
            rw [(cU_at _ pv (show ({ u with usr := EU } : U).h.p.length = 8 from H8.out)).2.2.1] at g2
            have HU4 := Lib.hid (Show.at_pas HU3.out H8.out EP)
            have HZ4 := Lib.hid (url_other HZ3.out (by omega : w.heap.size + 1 ≠ w.heap.size) 2 (.string (tb EP)))
            have HB4 := Lib.hid (below_set HB3.out (Nat.le_refl w.heap.size) 2 (.string (tb EP)))
            clear HU3 HZ3 HB3
            go_wp2_with fail
            go_meet
            exact ⟨by rw [E6.out], HU4, HZ4, HB4⟩
          · have hcr2 : c = r := by omega
            have q1 : decide (c < r) = false := decide_eq_false hlt
            have hEP := KN.out hcr2
            have hu := KH2.out hEP
            rw [← hu] at HU2
            have HU2 := Lib.hid HU2.out
            clear hlt hcr2 hEP hu
            go_wp2_with fail
            go_meet
            exact ⟨by rw [E6.out], HU2, HZ2, HB2⟩
      case rest =>
        obtain ⟨rfl, HU1, HZ1, HB1⟩ := hcut
        clear HU HZ HB HQW HT HQ
        obtain ⟨W1, hW1⟩ : ∃ W1, W1 = wc := ⟨_, rfl⟩
        subst hW1
        obtain ⟨d51, hd51⟩ := HPD.out
        have e51 : ((p : Int) - 1 + 1) = (p : Int) := by omega
        have HT60 := Lib.hid (show ∃ T60 : Bool, (T60 = false ∧ I = 0 ∧ (decide (0 < D.size) = false ∨ ∃ h : 0 < D.size, ((D[0].toNat : Int) == 91) = false)) ∨ (T60 = true ∧ ∃ h : 0 < D.size, ((D[0].toNat : Int) == 91) = true ∧ ((((f : Int) == (D.size : Int)) = true ∧ I = 0) ∨ (((f : Int) == (D.size : Int)) = false ∧ I = f))) from by
          rcases HIW.out with ⟨a, b⟩ | ⟨a, b, c⟩ | ⟨a, b, c, d⟩ | ⟨a, b, c, d⟩
          · exact ⟨false, .inl ⟨rfl, b, .inl a⟩⟩
          · exact ⟨false, .inl ⟨rfl, c, .inr ⟨a, b⟩⟩⟩
          · exact ⟨true, .inr ⟨rfl, a, b, .inl ⟨c, d⟩⟩⟩
          · exact ⟨true, .inr ⟨rfl, a, b, .inr ⟨c, d⟩⟩⟩)
        obtain ⟨T60, h60⟩ := HT60.out
        have H60 := Lib.hid h60
        clear h60 HT60 HIW HPD
        go_upto_region 14 with fail
        clear d51 e51
        go_cut [60] (fun v wx => v = .bool T60 ∧ wx = W1)
        case first =>
          rcases H60.out with ⟨rfl, _, hd | ⟨h0, h91⟩⟩ | ⟨rfl, h0, h91, _⟩
          all_goals
            clear H60
            go_wp2_with fail
            go_meet
            exact ⟨rfl, rfl⟩
        case rest =>
          obtain ⟨rfl, hw⟩ := hcut
          subst hw
          go_upto_if 60 with (fail)
          go_cut [10] (fun v wx => v = .int .i64 (I : Int) ∧ wx = wc)
          case first =>
            rcases H60.out with ⟨rfl, hI0, _⟩ | ⟨rfl, h0, h91, ⟨hf, hI0⟩ | ⟨hf, hI0⟩⟩
            · clear H60
              go_wp2_with fail
              go_meet
              exact ⟨by rw [hI0]; rfl, rfl⟩
            · clear H60
              have HI0 := Lib.hid hI0
              clear hI0
              go_wp2_with fail
              refine (CF.out _).mono ?_
              rintro e X1 ⟨rfl, rfl⟩
              go_wp2_with fail
              go_meet
              exact ⟨by rw [HI0.out]; rfl, rfl⟩
            · clear H60
              have HI0 := Lib.hid hI0
              clear hI0
              go_wp2_with fail
              refine (CF.out _).mono ?_
              rintro e X1 ⟨rfl, rfl⟩
              go_wp2_with fail
              go_meet
              exact ⟨by rw [HI0.out], rfl⟩
          case rest =>
            obtain ⟨rfl, hw⟩ := hcut
            subst hw
            clear H60 CF
            go_wp2_with fail
            refine (CK.out _).mono ?_
            rintro e X1 ⟨rfl, rfl⟩
            have pn := HPN.out
            obtain ⟨hk1a, hk1b⟩ := hk1
            go_wp2_with fail
            refine (CH.out _).mono ?_
            rintro e X2 ⟨rfl, hB⟩
            have HU2 := HU1.out.later hB
            have HZ2 := HZ1.out.later hB
            have HB2 := HB1.out.trans (hB.mono HB1.out.size)
            have hnew : HostAt (X2.alloc (.cells #[.int .i64 0, .string ⟨#[]⟩, .int .i64 0, .int .i64 0, .int .i64 0, .int .i64 0, .int .i64 0, .int .i64 0, .int .i64 0, .int .i64 0, .int .i64 0] 24)) X2.heap.size none0 := HostAt.new X2 none0
            have hrow := hnew.row h
            have hB3 : Below X2.heap.size X2 ((X2.alloc (.cells #[.int .i64 0, .string ⟨#[]⟩, .int .i64 0, .int .i64 0, .int .i64 0, .int .i64 0, .int .i64 0, .int .i64 0, .int .i64 0, .int .i64 0, .int .i64 0] 24)).setRow X2.heap.size h.cells) := below_row ((Below.refl _ X2).alloc (Nat.le_refl _) _) (Nat.le_refl _) _
            have HU3 := Lib.hid (HU2.later hB3)
            have HZ3 := Lib.hid (HZ2.later hB3)
            have HB3 := Lib.hid (HB2.trans (hB3.mono HB2.size))
            have HN3 := Lib.hid hrow
            have n8 : none0.p.length = 8 := rfl
            clear hB HU2 HZ2 HB2 hrow hB3 HU1 HZ1 HB1 CH CK pn HPN
            have c0' := HU3.out.cell 0
            rw [(cU_at _ pv (show ({ u with usr := EU, pas := EP } : U).h.p.length = 8 from H8.out)).1] at c0'
            have c0 : ((X2.alloc (.cells #[.int .i64 0, .string ⟨#[]⟩, .int .i64 0, .int .i64 0, .int .i64 0, .int .i64 0, .int .i64 0, .int .i64 0, .int .i64 0, .int .i64 0, .int .i64 0] 24)).setRow X2.heap.size h.cells).cell? ⟨w.heap.size, 0, none⟩ = some (.string S) := by rw [c0']; exact congrArg (fun y => some (Value.string y)) HSs.out
            clear c0'
            by_cases hlt : k < D.size
            case' pos =>
              have q1 : decide (k < D.size) = true := decide_eq_true hlt
              have pg := HGK.out.1 hlt
            case' neg =>
              have q1 : decide (k < D.size) = false := decide_eq_false hlt
              have hke : k = D.size := by omega
              obtain rfl := HGK.out.2 hke
              clear hke
            all_goals
              go_wp2_with ((with_reducible refine Host.wp_store24 (o := ⟨none, .store 24 (.tmp 12) (.tmp 75), _, _, _, _⟩) ?_ (.tmp 12) (.tmp 75) ?_ X2.heap.size ?_ h ?_ H8h.out none0 n8 hnew ?_); (· rfl); (· rfl); (· rfl); (· rfl); simp only [Act.put, List.setIfInBounds_toArray, List.set_cons_zero, List.set_cons_succ])
              generalize (X2.alloc (.cells #[.int .i64 0, .string ⟨#[]⟩, .int .i64 0, .int .i64 0, .int .i64 0, .int .i64 0, .int .i64 0, .int .i64 0, .int .i64 0, .int .i64 0, .int .i64 0] 24)).setRow X2.heap.size h.cells = X3 at HU3 HZ3 HB3 HN3 c0 ⊢
              generalize X2.heap.size = gn at HN3 ⊢
              clear hnew
              refine (CP.out _).mono ?_
              rintro e X4 ⟨rfl, hB⟩
              have HU4 := Lib.hid (HU3.out.later hB)
              have HZ4 := Lib.hid (HZ3.out.later hB)
              have HB4 := Lib.hid (HB3.out.trans (hB.mono HB3.out.size))
              have HN4 := Lib.hid (HN3.out.later hB)
              clear hB HU3 HZ3 HB3 HN3 c0 CP q1
              have n81 : none1.h.p.length = 8 := rfl
              have hn1 : (Value.slice none 0 0).oneCell' = true := rfl
              cases b1
              · have eb : b = false := by rw [← HHb.out]; rfl
                obtain rfl := HX0.out eb
                subst eb
                clear HX0 HX1 HHb
                go_wp2_with ((with_reducible refine wp_store27 (o := ⟨none, .store 27 (.tmp 4) (.tmp 98), _, _, _, _⟩) ?_ (.tmp 4) (.tmp 98) ?_ (w.heap.size + 1) ?_ none1 (.slice none 0 0) ?_ n81 hn1 none1 (.slice none 0 0) rfl HZ4.out ?_); (· rfl); (· rfl); (· rfl); (· rfl); simp only [Act.put, List.setIfInBounds_toArray, List.set_cons_zero, List.set_cons_succ])
                exact bodyPost_ret (ret_auth (w.heap.size + 1) none1 (.slice none 0 0) rfl false rfl rfl (HZ4.out.row none1 (.slice none 0 0))) rfl ⟨rfl, below_row HB4.out (Nat.le_succ w.heap.size) _⟩
              cases b2
              · have eb : b = false := by rw [← HHb.out]; rfl
                obtain rfl := HX0.out eb
                subst eb
                clear HX0 HX1 HHb
                go_wp2_with ((with_reducible refine wp_store27 (o := ⟨none, .store 27 (.tmp 4) (.tmp 98), _, _, _, _⟩) ?_ (.tmp 4) (.tmp 98) ?_ (w.heap.size + 1) ?_ none1 (.slice none 0 0) ?_ n81 hn1 none1 (.slice none 0 0) rfl HZ4.out ?_); (· rfl); (· rfl); (· rfl); (· rfl); simp only [Act.put, List.setIfInBounds_toArray, List.set_cons_zero, List.set_cons_succ])
                exact bodyPost_ret (ret_auth (w.heap.size + 1) none1 (.slice none 0 0) rfl false rfl rfl (HZ4.out.row none1 (.slice none 0 0))) rfl ⟨rfl, below_row HB4.out (Nat.le_succ w.heap.size) _⟩
              have eb : b = true := by rw [← HHb.out]; rfl
              obtain rfl := HX1.out eb
              subst eb
              clear HX0 HX1 HHb
              have H8u : ({ u with usr := EU, pas := EP } : U).h.p.length = 8 := H8.out
              have H8x : ({ u with usr := EU, pas := EP, h := h, port := z } : U).h.p.length = 8 := H8h.out
              have hu5 : UrlAt (X4.setCells w.heap.size 3 h.cells.toList) w.heap.size { u with usr := EU, pas := EP, h := h } pv := HU4.out.hst H8u h H8h.out
              have f14 := hu5.free 14
              have g14 := hu5.cell 14
              rw [(cU_at _ pv (show ({ u with usr := EU, pas := EP, h := h } : U).h.p.length = 8 from H8h.out)).2.2.2.2.1] at g14
              have HUx := Lib.hid (show UrlAt ((X4.setCells w.heap.size 3 h.cells.toList).setCell ⟨w.heap.size, 14, none⟩ (.int .i64 z)) w.heap.size { u with usr := EU, pas := EP, h := h, port := z } pv from hu5.prt H8h.out z)
              have HZx := Lib.hid (show UrlAt ((X4.setCells w.heap.size 3 h.cells.toList).setCell ⟨w.heap.size, 14, none⟩ (.int .i64 z)) (w.heap.size + 1) none1 (.slice none 0 0) from url_other (url_others HZ4.out (by omega) 3 h.cells.toList) (by omega) 14 (.int .i64 z))
              have HBx := Lib.hid (below_set (below_cells (Nat.le_refl w.heap.size) h.cells.toList 3 _ HB4.out) (Nat.le_refl w.heap.size) 14 (.int .i64 z))
              clear hu5
              go_wp2_with (first | ((with_reducible refine Host.wp_load24 (o := ⟨some 99, .load 24 (.tmp 12), _, _, _, _⟩) ?_ (.tmp 12) ?_ gn ?_ h H8h.out HN4.out ?_); (· rfl); (· rfl); (· rfl); simp only [Act.put, List.setIfInBounds_toArray, List.set_cons_zero, List.set_cons_succ]) | ((with_reducible refine wp_store24u (o := ⟨none, .store 24 (.tmp 100) (.tmp 99), _, _, _, _⟩) ?_ (.tmp 100) (.tmp 99) ?_ w.heap.size ?_ h ?_ H8h.out { u with usr := EU, pas := EP } pv H8u HU4.out ?_); (· rfl); (· rfl); (· rfl); (· rfl); simp only [Act.put, List.setIfInBounds_toArray, List.set_cons_zero, List.set_cons_succ]) | ((with_reducible refine wp_load27 (o := ⟨some 103, .load 27 (.tmp 2), _, _, _, _⟩) ?_ (.tmp 2) ?_ w.heap.size ?_ { u with usr := EU, pas := EP, h := h, port := z } pv H8x HUx.out ?_); (· rfl); (· rfl); (· rfl); simp only [Act.put, List.setIfInBounds_toArray, List.set_cons_zero, List.set_cons_succ]) | ((with_reducible refine wp_store27 (o := ⟨none, .store 27 (.tmp 4) (.tmp 103), _, _, _, _⟩) ?_ (.tmp 4) (.tmp 103) ?_ (w.heap.size + 1) ?_ { u with usr := EU, pas := EP, h := h, port := z } pv ?_ H8x hone none1 (.slice none 0 0) rfl HZx.out ?_); (· rfl); (· rfl); (· rfl); (· rfl); simp only [Act.put, List.setIfInBounds_toArray, List.set_cons_zero, List.set_cons_succ]))
              exact bodyPost_ret (ret_auth (w.heap.size + 1) { u with usr := EU, pas := EP, h := h, port := z } pv H8x true rfl rfl (HZx.out.row { u with usr := EU, pas := EP, h := h, port := z } pv)) rfl ⟨rfl, below_row HBx.out (Nat.le_succ w.heap.size) _⟩



set_option maxRecDepth 100000

theorem UrlAt.opqs {w : World} {g : Nat} {u : U} {pv : Value} (a : UrlAt w g u pv) (h8 : u.h.p.length = 8) (x : T) : UrlAt (w.setCell ⟨g, 16, none⟩ (.string (tb x))) g { u with opq := x } pv := by
  have := heap_set a 16 (.string (tb x))
  unfold UrlAt
  rw [this]
  obtain ⟨sch, usr, pas, ⟨k, s, n, p⟩, port, path, opq, qry, frg, hq, hf⟩ := u
  obtain ⟨a, b, c, d, e, f, g, i, rfl⟩ := eight h8
  rfl

theorem ret_rp {tmps : Array Value} {W : World} (g : Nat) (u : U) (pv : Value) (h8 : u.h.p.length = 8) (b : Bool) (hp : tmps.getD 2 undef = .pointer (some ⟨g, 0, none⟩)) (hb : tmps.getD 3 undef = .bool b) (hr : UrlAt W g u pv) :
    (results Tryz.f34 tmps).run Tryz.prog W = .ok (.tuple #[.agg (cU u pv), .bool b]) W := by
  have hp' : tmps[2]?.getD undef = .pointer (some ⟨g, 0, none⟩) := by simpa using hp
  have hb' : tmps[3]?.getD undef = .bool b := by simpa using hb
  simp [results, Tryz.results34, hp', hb', asAddr, hr.load h8]

theorem pre_ways (t : ByteArray) :
    (Lib.hasPrefix t.data.toList [47, 47] = true ∧ ∃ h : 1 < t.size, t[0] = 47 ∧ t[1] = 47) ∨ (Lib.hasPrefix t.data.toList [47, 47] = false ∧ t.size < 2) ∨
    (Lib.hasPrefix t.data.toList [47, 47] = false ∧ ∃ h : 1 < t.size, t[0] ≠ 47) ∨ (Lib.hasPrefix t.data.toList [47, 47] = false ∧ ∃ h : 1 < t.size, t[0] = 47 ∧ t[1] ≠ 47) := by
  by_cases h1 : 1 < t.size
  · have e0 := Pct.drop_cons t 0 (by omega)
    have e1 := Pct.drop_cons t 1 h1
    rw [List.drop_zero, show 0 + 1 = 1 from rfl, e1] at e0
    have hp : Lib.hasPrefix t.data.toList [47, 47] = (t[0] == 47 && t[1] == 47) := by
      rw [e0]
      unfold Lib.hasPrefix
      rw [Bool.eq_iff_iff]
      simp [List.isPrefixOf]
      exact ⟨fun ⟨a, b⟩ => ⟨a.symm, b.symm⟩, fun ⟨a, b⟩ => ⟨a.symm, b.symm⟩⟩
    rw [hp]
    by_cases h0 : t[0] = 47
    · by_cases h2 : t[1] = 47
      · exact .inl ⟨by rw [h0, h2]; rfl, h1, h0, h2⟩
      · exact .inr (.inr (.inr ⟨by rw [beq_eq_false_iff_ne.2 h2, Bool.and_false], h1, h0, h2⟩))
    · exact .inr (.inr (.inl ⟨by rw [beq_eq_false_iff_ne.2 h0, Bool.false_and], h1, h0⟩))
  · refine .inr (.inl ⟨?_, by omega⟩)
    cases e : Lib.hasPrefix t.data.toList [47, 47]
    · rfl
    · have : 2 ≤ t.data.toList.length := by
        unfold Lib.hasPrefix at e
        have := (List.isPrefixOf_iff_prefix.1 e).length_le
        simpa using this
      rw [size_list] at this
      omega

theorem new_nil (B : Nat) : Path.New B (.slice none 0 0) := fun b o s n c e => by cases e

theorem segs_top (t : T) (h : 2 ≤ t.length) : Path.parse (t.drop (2 + (bef 47 (t.drop 2)).length)) = Path.parse (47 :: segT t) := by
  unfold segT
  rcases parted 47 (t.drop 2) with hn | ⟨a, r, e, ha⟩
  · rw [bef_no _ hn, aft_no _ hn, List.drop_of_length_le (by rw [List.length_drop]; omega)]
    rfl
  · rw [← List.drop_drop, e, bef_at a r ha, aft_at a r ha, List.drop_left]

set_option maxHeartbeats 32000000 in
theorem refParse_any (s : ByteArray) (hs : s.size ≤ 400) (b : Bool) (hb : okU s.data.toList = b) (x : U) (hx : parU s.data.toList = x) (w : World) :
    Calls Tryz.prog 34 #[.string s] w (GotP w x b) := by
  have HZ := Lib.hid (new_url w)
  have HB := Lib.hid (show Below w.heap.size w (w.alloc (.cells #[.string ⟨#[]⟩, .string ⟨#[]⟩, .string ⟨#[]⟩, .int .i64 0, .string ⟨#[]⟩, .int .i64 0, .int .i64 0, .int .i64 0, .int .i64 0, .int .i64 0, .int .i64 0, .int .i64 0, .int .i64 0, .int .i64 0, .int .i64 0, .slice none 0 0, .string ⟨#[]⟩, .string ⟨#[]⟩, .string ⟨#[]⟩, .bool false, .bool false] 27)) from (Below.refl _ w).alloc (Nat.le_refl _) _)
  obtain ⟨C, hC⟩ : ∃ y, tb (Ascii.clean s.data.toList) = y := ⟨_, rfl⟩
  have hCs : C.size ≤ 400 := by rw [size_tb hC]; exact Nat.le_trans (clean_len _) hs
  unfold okU at hb
  unfold parU at hx
  rw [← list_tb hC] at hb hx
  obtain ⟨is, his⟩ : ∃ y, schB C.data.toList = y := ⟨_, rfl⟩
  obtain ⟨SC, hSC⟩ : ∃ y, schS C.data.toList = y := ⟨_, rfl⟩
  obtain ⟨RS, hRS⟩ : ∃ y, schR C.data.toList = y := ⟨_, rfl⟩
  have hRl : RS.length ≤ 400 := by
    rw [← hRS]; unfold schR
    split
    · exact Nat.le_trans (aft_len _ _) hCs
    · exact Nat.zero_le _
  obtain ⟨z, hz⟩ : ∃ y, webI SC = y := ⟨_, rfl⟩
  obtain ⟨O, hO⟩ : ∃ y, opB SC = y := ⟨_, rfl⟩
  obtain ⟨t, ht⟩ : ∃ y, tb (tA RS) = y := ⟨_, rfl⟩
  obtain ⟨q, hq⟩ : ∃ y, tb (tQ RS) = y := ⟨_, rfl⟩
  obtain ⟨f, hf⟩ : ∃ y, tb (tF RS) = y := ⟨_, rfl⟩
  obtain ⟨bq, hbq⟩ : ∃ y, tHQ RS = y := ⟨_, rfl⟩
  obtain ⟨bf, hbf⟩ : ∃ y, tHF RS = y := ⟨_, rfl⟩
  obtain ⟨Q, hQ⟩ : ∃ y, Pct.encode 2 (tQ RS) = y := ⟨_, rfl⟩
  obtain ⟨F, hF⟩ : ∃ y, Pct.encode 1 (tF RS) = y := ⟨_, rfl⟩
  obtain ⟨OE, hOE⟩ : ∃ y, Pct.encode 1 (tA RS) = y := ⟨_, rfl⟩
  have hts : t.size ≤ 400 := by rw [size_tb ht]; exact Nat.le_trans (Nat.le_trans (bef_len _ _) (bef_len _ _)) hRl
  have hqs : q.size ≤ 400 := by rw [size_tb hq]; exact Nat.le_trans (Nat.le_trans (aft_len _ _) (bef_len _ _)) hRl
  have hfs : f.size ≤ 400 := by rw [size_tb hf]; exact Nat.le_trans (aft_len _ _) hRl
  obtain ⟨A, hA⟩ : ∃ y, tb (auth t.data.toList) = y := ⟨_, rfl⟩
  obtain ⟨ba, hba⟩ : ∃ y, (okH (hname (place A.data.toList)) && portB (digs (place A.data.toList))) = y := ⟨_, rfl⟩
  obtain ⟨xa, hxa⟩ : ∃ y : U, (if ba then { (⟨SC, [], [], none0, -1, [], [], Q, F, bq, bf⟩ : U) with usr := Pct.encode 4 (user A.data.toList), pas := Pct.encode 4 (pass A.data.toList), h := parH (hname (place A.data.toList)), port := portI SC (digs (place A.data.toList)) } else none1) = y := ⟨_, rfl⟩
  obtain ⟨L, hL⟩ : ∃ y, Path.parse (47 :: segT t.data.toList) = y := ⟨_, rfl⟩
  obtain ⟨n, hn⟩ : ∃ y, findN 47 t.data.toList 2 = y := ⟨_, rfl⟩
  have hAs : A.size ≤ 400 := by rw [size_tb hA]; unfold auth; have := bef_len 47 (t.data.toList.drop 2); rw [List.length_drop, size_list] at this; omega
  have H8a := Lib.hid (show xa.h.p.length = 8 from by
    rw [← hxa]
    split
    · exact Host.parH_len _
    · rfl)
  have CC := Lib.hid (fun y => show Calls Tryz.prog 33 #[.string s] y fun e w' => e = .returned (.string C) ∧ Below y.heap.size y w' from hC ▸ Ascii.refClean_any s (by omega) y)
  have CS := Lib.hid (fun y => refScheme_any C (by omega) (tb SC) (tb RS) is (by rw [hSC]) (by rw [hRS]) his y)
  have CW := Lib.hid (fun y => refWeb_any (tb SC) z hz y)
  have CO := Lib.hid (fun y => refOpq_any (tb SC) O hO y)
  have CT := Lib.hid (fun y => refTail_any (tb RS) (by rw [tb_size]; omega) t q f bq bf ht hq hf hbq hbf y)
  have CQ := Lib.hid (fun y => show Calls Tryz.prog 77 #[.string q, .int .i64 2] y fun e w' => e = .returned (.string (tb Q)) ∧ Below y.heap.size y w' from by
    have := Pct.refEncode_any q (by omega) 2 y
    rw [list_tb hq, hQ] at this
    exact this)
  have CF := Lib.hid (fun y => show Calls Tryz.prog 77 #[.string f, .int .i64 1] y fun e w' => e = .returned (.string (tb F)) ∧ Below y.heap.size y w' from by
    have := Pct.refEncode_any f (by omega) 1 y
    rw [list_tb hf, hF] at this
    exact this)
  have CE := Lib.hid (fun y => show Calls Tryz.prog 77 #[.string t, .int .i64 1] y fun e w' => e = .returned (.string (tb OE)) ∧ Below y.heap.size y w' from by
    have := Pct.refEncode_any t (by omega) 1 y
    rw [list_tb ht, hOE] at this
    exact this)
  have CA := Lib.hid (fun y => show Calls Tryz.prog 78 #[.agg (cU ⟨SC, [], [], none0, -1, [], [], Q, F, bq, bf⟩ (.slice none 0 0)), .string A] y fun e w' => e = .returned (.tuple #[.agg (cU xa (.slice none 0 0)), .bool ba]) ∧ Below y.heap.size y w' from by
    have := refAuth_any ⟨SC, [], [], none0, -1, [], [], Q, F, bq, bf⟩ (.slice none 0 0) rfl rfl rfl A (by omega) ba hba xa hxa y (Path.Strs.nil y)
    rwa [ite_self] at this)
  have CN := Lib.hid (fun (h2 : 2 ≤ t.size) y => refFind_any t (by omega) 47 2 h2 n hn y)
  have CL := Lib.hid (fun (h2 : 2 ≤ t.size) y => show Calls Tryz.prog 79 #[.string (t.extract n t.size)] y (GotL y L) from by
    have hnl : n ≤ t.size := by rw [← hn]; exact find_le 47 _ 2 h2
    rw [piece_from t n hnl]
    have e : Path.parse (tb (t.data.toList.drop n)).data.toList = L := by
      rw [tb_list, ← hn, ← hL]
      exact segs_top _ (by rw [size_list]; exact h2)
    exact refPathParse_any _ (by rw [tb_size, List.length_drop, size_list]; omega) L e y)
  have PA := Lib.hid (fun (h2 : 2 ≤ t.size) => show t.extract 2 n = A ∧ 2 ≤ n ∧ n ≤ t.size from by
    have hnl : n ≤ t.size := by rw [← hn]; exact find_le 47 _ 2 h2
    refine ⟨?_, by rw [← hn]; exact Nat.le_add_right _ _, hnl⟩
    rw [piece_mid, ← hA, ← hn]
    unfold auth findN
    rw [List.drop_take, Nat.add_sub_cancel_left, bef_take])
  have F1 := Lib.hid (show is = false → b = false ∧ x = none1 from fun e => by
    have ho : okS C.data.toList = false := by unfold okS; rw [his, e]; rfl
    exact ⟨by rw [← hb, ho], by rw [← hx, par_none _ ho]⟩)
  have F2 := Lib.hid (show z = 0 → O = false → b = false ∧ x = none1 from fun e k => by
    have ho : okS C.data.toList = false := by unfold okS; rw [hSC, hRS, hz, hO, e, k]; simp
    exact ⟨by rw [← hb, ho], by rw [← hx, par_none _ ho]⟩)
  have F3 := Lib.hid (show is = true → z = 0 → O = true → b = true ∧ x = { (⟨SC, [], [], none0, -1, [], [], Q, F, bq, bf⟩ : U) with opq := OE } from fun e1 e k => by
    have ho : okS C.data.toList = true := by unfold okS; rw [hSC, hO, his, e1, k]; simp
    refine ⟨by rw [← hb, ho], ?_⟩
    rw [← hx]
    unfold parS
    rw [if_pos ho, hSC, hRS]
    unfold aheadU
    rw [hz, if_pos e]
    unfold tailU opqU
    rw [hQ, hF, hbq, hbf, hOE])
  have F4 := Lib.hid (show z ≠ 0 → Lib.hasPrefix t.data.toList [47, 47] = false → b = false ∧ x = none1 from fun e k => by
    have hO0 : O = false := by
      cases h : O
      · rfl
      · exact absurd (by rw [← hz]; exact op_web (hO.trans h)) e
    have ho : okS C.data.toList = false := by unfold okS webB; rw [hSC, hRS, hz, hO, hO0, ← list_tb ht, k]; simp
    exact ⟨by rw [← hb, ho], by rw [← hx, par_none _ ho]⟩)
  have hat : A.data.toList = auth t.data.toList := list_tb hA
  have F5 := Lib.hid (show z ≠ 0 → ba = false → b = false ∧ x = none1 ∧ xa = none1 from fun e k => by
    have hO0 : O = false := by
      cases h : O
      · rfl
      · exact absurd (by rw [← hz]; exact op_web (hO.trans h)) e
    have ho : okS C.data.toList = false := by unfold okS webB; rw [hSC, hRS, hz, hO, hO0, ← list_tb ht, ← hat, hba, k]; simp
    exact ⟨by rw [← hb, ho], by rw [← hx, par_none _ ho], by rw [← hxa, k]; rfl⟩)
  have F6 := Lib.hid (show is = true → z ≠ 0 → Lib.hasPrefix t.data.toList [47, 47] = true → ba = true → b = true ∧ x = { xa with path := L } from fun e1 e k m => by
    have ho : okS C.data.toList = true := by unfold okS webB; rw [hSC, hRS, hz, his, e1, ← list_tb ht, k, ← hat, hba, m, decide_eq_false e]; rfl
    refine ⟨by rw [← hb, ho], ?_⟩
    rw [← hx, ← hxa, if_pos m]
    unfold parS
    rw [if_pos ho, hSC, hRS]
    unfold aheadU
    rw [hz, if_neg e]
    unfold tailU webU
    rw [hQ, hF, hbq, hbf, ← list_tb ht, ← hat, hL])
  have PW := Lib.hid (pre_ways t)
  clear hC hb hx his hSC hRS hRl hz hO ht hq hf hbq hbf hQ hF hOE hA hba hxa hL hn hat
  go_enter Tryz.func34, Tryz.ntmps34
  go_wp2_with fail
  generalize w.alloc (.cells #[.string ⟨#[]⟩, .string ⟨#[]⟩, .string ⟨#[]⟩, .int .i64 0, .string ⟨#[]⟩, .int .i64 0, .int .i64 0, .int .i64 0, .int .i64 0, .int .i64 0, .int .i64 0, .int .i64 0, .int .i64 0, .int .i64 0, .int .i64 0, .slice none 0 0, .string ⟨#[]⟩, .string ⟨#[]⟩, .string ⟨#[]⟩, .bool false, .bool false] 27) = V at HZ HB ⊢
  refine (CC.out _).mono ?_
  rintro e X1 ⟨rfl, hB⟩
  have HZ1 := Lib.hid (HZ.out.later hB)
  have HB1 := Lib.hid (HB.out.trans (hB.mono HB.out.size))
  clear hB HZ HB CC
  go_wp2_with fail
  refine (CS.out _).mono ?_
  rintro e X2 ⟨rfl, hB⟩
  have HZ2 := Lib.hid (HZ1.out.later hB)
  have HB2 := Lib.hid (HB1.out.trans (hB.mono HB1.out.size))
  clear hB HZ1 HB1 CS
  go_wp2_with fail
  refine (CW.out _).mono ?_
  rintro e X ⟨rfl, rfl⟩
  go_wp2_with fail
  refine (CO.out _).mono ?_
  rintro e X ⟨rfl, rfl⟩
  clear CW CO
  have n81 : none1.h.p.length = 8 := rfl
  have hn1 : (Value.slice none 0 0).oneCell' = true := rfl
  cases is
  · obtain ⟨rfl, rfl⟩ := F1.out rfl
    clear F1 F2 F3 F4 F5 F6
    go_wp2_with ((with_reducible refine wp_store27 (o := ⟨none, .store 27 (.tmp 2) (.tmp 39), _, _, _, _⟩) ?_ (.tmp 2) (.tmp 39) ?_ w.heap.size ?_ none1 (.slice none 0 0) ?_ n81 hn1 none1 (.slice none 0 0) rfl HZ2.out ?_); (· rfl); (· rfl); (· rfl); (· rfl); simp only [Act.put, List.setIfInBounds_toArray, List.set_cons_zero, List.set_cons_succ])
    exact bodyPost_ret (ret_rp w.heap.size none1 (.slice none 0 0) rfl false rfl rfl (HZ2.out.row none1 (.slice none 0 0))) rfl ⟨(.slice none 0 0), rfl, Path.Strs.nil _, new_nil _, below_row HB2.out (Nat.le_refl _) _⟩
  by_cases z0 : z = 0
  · have q0 : (z == 0) = true := by rw [z0]; rfl
    cases O
    · obtain ⟨rfl, rfl⟩ := F2.out z0 rfl
      clear F1 F2 F3 F4 F5 F6 z0
      go_wp2_with ((with_reducible refine wp_store27 (o := ⟨none, .store 27 (.tmp 2) (.tmp 39), _, _, _, _⟩) ?_ (.tmp 2) (.tmp 39) ?_ w.heap.size ?_ none1 (.slice none 0 0) ?_ n81 hn1 none1 (.slice none 0 0) rfl HZ2.out ?_); (· rfl); (· rfl); (· rfl); (· rfl); simp only [Act.put, List.setIfInBounds_toArray, List.set_cons_zero, List.set_cons_succ])
      exact bodyPost_ret (ret_rp w.heap.size none1 (.slice none 0 0) rfl false rfl rfl (HZ2.out.row none1 (.slice none 0 0))) rfl ⟨(.slice none 0 0), rfl, Path.Strs.nil _, new_nil _, below_row HB2.out (Nat.le_refl _) _⟩
    obtain ⟨rfl, rfl⟩ := F3.out rfl z0 rfl
    clear F1 F2 F3 F4 F5 F6 z0 CA CN CL PA PW
    go_wp2_with fail
    refine (CT.out _).mono ?_
    rintro e X3 ⟨rfl, hB⟩
    have HZ3 := Lib.hid (HZ2.out.later hB)
    have HB3 := Lib.hid (HB2.out.trans (hB.mono HB2.out.size))
    clear hB HZ2 HB2 CT
    go_wp2_with fail
    refine (CQ.out _).mono ?_
    rintro e X4 ⟨rfl, hB⟩
    have HZ4 := Lib.hid (HZ3.out.later hB)
    have HB4 := Lib.hid (HB3.out.trans (hB.mono HB3.out.size))
    clear hB HZ3 HB3 CQ
    go_wp2_with fail
    refine (CF.out _).mono ?_
    rintro e X5 ⟨rfl, hB⟩
    have hnew := new_url X5
    have hB6 := below_url X5 ⟨SC, [], [], none0, -1, [], [], Q, F, bq, bf⟩ (.slice none 0 0)
    have HZ6 := Lib.hid ((HZ4.out.later hB).later hB6)
    have HB6 := Lib.hid ((HB4.out.trans (hB.mono HB4.out.size)).trans (hB6.mono (Nat.le_trans HB4.out.size hB.size)))
    have HU6 := Lib.hid (hnew.row ⟨SC, [], [], none0, -1, [], [], Q, F, bq, bf⟩ (.slice none 0 0))
    have HG := Lib.hid (show w.heap.size < X5.heap.size from Nat.lt_of_lt_of_le HZ4.out.lt hB.size)
    have h8u : (⟨SC, [], [], none0, -1, [], [], Q, F, bq, bf⟩ : U).h.p.length = 8 := rfl
    clear hB hB6 HZ4 HB4 CF
    go_wp2_with ((with_reducible refine wp_store27 (o := ⟨none, .store 27 (.tmp 14) (.tmp 55), _, _, _, _⟩) ?_ (.tmp 14) (.tmp 55) ?_ X5.heap.size ?_ ⟨SC, [], [], none0, -1, [], [], Q, F, bq, bf⟩ (.slice none 0 0) ?_ h8u hn1 none1 (.slice none 0 0) rfl hnew ?_); (· rfl); (· rfl); (· rfl); (· rfl); simp only [Act.put, List.setIfInBounds_toArray, List.set_cons_zero, List.set_cons_succ])
    generalize (X5.alloc (.cells #[.string ⟨#[]⟩, .string ⟨#[]⟩, .string ⟨#[]⟩, .int .i64 0, .string ⟨#[]⟩, .int .i64 0, .int .i64 0, .int .i64 0, .int .i64 0, .int .i64 0, .int .i64 0, .int .i64 0, .int .i64 0, .int .i64 0, .int .i64 0, .slice none 0 0, .string ⟨#[]⟩, .string ⟨#[]⟩, .string ⟨#[]⟩, .bool false, .bool false] 27)).setRow X5.heap.size (cU ⟨SC, [], [], none0, -1, [], [], Q, F, bq, bf⟩ (.slice none 0 0)) = V6 at HZ6 HB6 HU6 ⊢
    generalize X5.heap.size = g1 at HU6 HG ⊢
    clear hnew
    refine (CE.out _).mono ?_
    rintro e X7 ⟨rfl, hB⟩
    have HU7 := Lib.hid (HU6.out.later hB)
    have HZ7 := Lib.hid (HZ6.out.later hB)
    have HB7 := Lib.hid (HB6.out.trans (hB.mono HB6.out.size))
    clear hB HU6 HZ6 HB6 CE q0
    have f16 := HU7.out.free 16
    have g16 := HU7.out.cell 16
    rw [(cU_at _ _ h8u).2.2.2.2.2.2.1] at g16
    have hg := HG.out
    have HU8 := Lib.hid (UrlAt.opqs HU7.out h8u OE)
    have HZ8 := Lib.hid (url_other HZ7.out (by omega : w.heap.size ≠ g1) 16 (.string (tb OE)))
    have HB8 := Lib.hid (below_set HB7.out (by omega : w.heap.size ≤ g1) 16 (.string (tb OE)))
    have h8o : ({ (⟨SC, [], [], none0, -1, [], [], Q, F, bq, bf⟩ : U) with opq := OE } : U).h.p.length = 8 := rfl
    clear HU7 HZ7 HB7 hg
    go_wp2_with (first | ((with_reducible refine wp_load27 (o := ⟨some 61, .load 27 (.tmp 14), _, _, _, _⟩) ?_ (.tmp 14) ?_ g1 ?_ { (⟨SC, [], [], none0, -1, [], [], Q, F, bq, bf⟩ : U) with opq := OE } (.slice none 0 0) h8o HU8.out ?_); (· rfl); (· rfl); (· rfl); simp only [Act.put, List.setIfInBounds_toArray, List.set_cons_zero, List.set_cons_succ]) | ((with_reducible refine wp_store27 (o := ⟨none, .store 27 (.tmp 2) (.tmp 61), _, _, _, _⟩) ?_ (.tmp 2) (.tmp 61) ?_ w.heap.size ?_ { (⟨SC, [], [], none0, -1, [], [], Q, F, bq, bf⟩ : U) with opq := OE } (.slice none 0 0) ?_ h8o hn1 none1 (.slice none 0 0) rfl HZ8.out ?_); (· rfl); (· rfl); (· rfl); (· rfl); simp only [Act.put, List.setIfInBounds_toArray, List.set_cons_zero, List.set_cons_succ]))
    exact bodyPost_ret (ret_rp w.heap.size { (⟨SC, [], [], none0, -1, [], [], Q, F, bq, bf⟩ : U) with opq := OE } (.slice none 0 0) rfl true rfl rfl (HZ8.out.row { (⟨SC, [], [], none0, -1, [], [], Q, F, bq, bf⟩ : U) with opq := OE } (.slice none 0 0))) rfl ⟨(.slice none 0 0), rfl, Path.Strs.nil _, new_nil _, below_row HB8.out (Nat.le_refl _) _⟩
  have q0 : (z == 0) = false := beq_eq_false_iff_ne.2 z0
  have Z0 := Lib.hid z0
  clear z0 F1 F2 F3 CE
  go_wp2_with fail
  refine (CT.out _).mono ?_
  rintro e X3 ⟨rfl, hB⟩
  have HZ3 := Lib.hid (HZ2.out.later hB)
  have HB3 := Lib.hid (HB2.out.trans (hB.mono HB2.out.size))
  clear hB HZ2 HB2 CT
  go_wp2_with fail
  refine (CQ.out _).mono ?_
  rintro e X4 ⟨rfl, hB⟩
  have HZ4 := Lib.hid (HZ3.out.later hB)
  have HB4 := Lib.hid (HB3.out.trans (hB.mono HB3.out.size))
  clear hB HZ3 HB3 CQ
  go_wp2_with fail
  refine (CF.out _).mono ?_
  rintro e X5 ⟨rfl, hB⟩
  have hnew := new_url X5
  have hB6 := below_url X5 ⟨SC, [], [], none0, -1, [], [], Q, F, bq, bf⟩ (.slice none 0 0)
  have HZ6 := Lib.hid ((HZ4.out.later hB).later hB6)
  have HB6 := Lib.hid ((HB4.out.trans (hB.mono HB4.out.size)).trans (hB6.mono (Nat.le_trans HB4.out.size hB.size)))
  have HU6 := Lib.hid (hnew.row ⟨SC, [], [], none0, -1, [], [], Q, F, bq, bf⟩ (.slice none 0 0))
  have HG := Lib.hid (show w.heap.size < X5.heap.size from Nat.lt_of_lt_of_le HZ4.out.lt hB.size)
  have h8u : (⟨SC, [], [], none0, -1, [], [], Q, F, bq, bf⟩ : U).h.p.length = 8 := rfl
  clear hB hB6 HZ4 HB4 CF
  rcases PW.out with ⟨hp, h1, e0, e1⟩ | hno
  case inr =>
    have hp : Lib.hasPrefix t.data.toList [47, 47] = false := by rcases hno with ⟨a, _⟩ | ⟨a, _⟩ | ⟨a, _⟩ <;> exact a
    obtain ⟨rfl, rfl⟩ := F4.out Z0.out hp
    have hw : (decide ((t.size : Int) < 2) = true ∧ decide (t.size < 2) = true) ∨ (∃ h : 1 < t.size, decide ((t.size : Int) < 2) = false ∧ ((t[0].toNat : Int) != 47) = true) ∨ (∃ h : 1 < t.size, decide ((t.size : Int) < 2) = false ∧ ((t[0].toNat : Int) != 47) = false ∧ ((t[1].toNat : Int) != 47) = true) := by
      rcases hno with ⟨_, a⟩ | ⟨_, a, c⟩ | ⟨_, a, c, d⟩
      · exact .inl ⟨decide_eq_true (by omega), decide_eq_true (by omega)⟩
      · exact .inr (.inl ⟨a, decide_eq_false (by omega), bne_iff_ne.2 (fun q => c (UInt8.toNat_inj.1 (by simpa using (by omega : t[0].toNat = 47))))⟩)
      · exact .inr (.inr ⟨a, decide_eq_false (by omega), by rw [c]; rfl, bne_iff_ne.2 (fun q => d (UInt8.toNat_inj.1 (by simpa using (by omega : t[1].toNat = 47))))⟩)
    clear F4 F5 F6 hp hno PW CA CN CL PA
    rcases hw with ⟨w0, w0'⟩ | ⟨h1, w0, w1⟩ | ⟨h1, w0, w1, w2⟩
    all_goals
      go_wp2_with (first | ((with_reducible refine wp_store27 (o := ⟨none, .store 27 (.tmp 14) (.tmp 55), _, _, _, _⟩) ?_ (.tmp 14) (.tmp 55) ?_ X5.heap.size ?_ ⟨SC, [], [], none0, -1, [], [], Q, F, bq, bf⟩ (.slice none 0 0) ?_ h8u hn1 none1 (.slice none 0 0) rfl hnew ?_); (· rfl); (· rfl); (· rfl); (· rfl); simp only [Act.put, List.setIfInBounds_toArray, List.set_cons_zero, List.set_cons_succ]) | ((with_reducible refine wp_store27 (o := ⟨none, .store 27 (.tmp 2) (.tmp 75), _, _, _, _⟩) ?_ (.tmp 2) (.tmp 75) ?_ w.heap.size ?_ none1 (.slice none 0 0) ?_ n81 hn1 none1 (.slice none 0 0) rfl HZ6.out ?_); (· rfl); (· rfl); (· rfl); (· rfl); simp only [Act.put, List.setIfInBounds_toArray, List.set_cons_zero, List.set_cons_succ]))
      exact bodyPost_ret (ret_rp w.heap.size none1 (.slice none 0 0) rfl false rfl rfl (HZ6.out.row none1 (.slice none 0 0))) rfl ⟨(.slice none 0 0), rfl, Path.Strs.nil _, new_nil _, below_row HB6.out (Nat.le_refl _) _⟩
  have h2 : 2 ≤ t.size := h1
  have w0 : decide ((t.size : Int) < 2) = false := decide_eq_false (by omega)
  have w1 : ((t[0].toNat : Int) != 47) = false := by rw [e0]; rfl
  have w2 : ((t[1].toNat : Int) != 47) = false := by rw [e1]; rfl
  have HP := Lib.hid hp
  have CN2 := Lib.hid (CN.out h2)
  have CL2 := Lib.hid (CL.out h2)
  have PA2 := Lib.hid (PA.out h2)
  clear hp e0 e1 PW F4 CN CL PA
  go_wp2_with ((with_reducible refine wp_store27 (o := ⟨none, .store 27 (.tmp 14) (.tmp 55), _, _, _, _⟩) ?_ (.tmp 14) (.tmp 55) ?_ X5.heap.size ?_ ⟨SC, [], [], none0, -1, [], [], Q, F, bq, bf⟩ (.slice none 0 0) ?_ h8u hn1 none1 (.slice none 0 0) rfl hnew ?_); (· rfl); (· rfl); (· rfl); (· rfl); simp only [Act.put, List.setIfInBounds_toArray, List.set_cons_zero, List.set_cons_succ])
  generalize (X5.alloc (.cells #[.string ⟨#[]⟩, .string ⟨#[]⟩, .string ⟨#[]⟩, .int .i64 0, .string ⟨#[]⟩, .int .i64 0, .int .i64 0, .int .i64 0, .int .i64 0, .int .i64 0, .int .i64 0, .int .i64 0, .int .i64 0, .int .i64 0, .int .i64 0, .slice none 0 0, .string ⟨#[]⟩, .string ⟨#[]⟩, .string ⟨#[]⟩, .bool false, .bool false] 27)).setRow X5.heap.size (cU ⟨SC, [], [], none0, -1, [], [], Q, F, bq, bf⟩ (.slice none 0 0)) = V6 at HZ6 HB6 HU6 ⊢
  generalize X5.heap.size = g1 at HU6 HG ⊢
  clear hnew
  refine (CN2.out _).mono ?_
  rintro e X ⟨rfl, rfl⟩
  clear CN2 w0 w1 w2 q0
  obtain ⟨pA, n2, nt⟩ := PA2.out
  clear PA2
  go_upto_region 14 with fail
  go_cut [16, 17] (fun v16 v17 wx => ∃ g : Nat, v16 = .pointer (some ⟨g, 0, none⟩) ∧ v17 = .bool ba ∧ Hid (UrlAt wx g xa (.slice none 0 0)) ∧ Hid (UrlAt wx w.heap.size none1 (.slice none 0 0)) ∧ Hid (Below w.heap.size w wx) ∧ Hid (w.heap.size < g))
  case first =>
    have hc : Below V6.heap.size V6 V6.drew := (Below.refl _ _).drew
    refine wp_region_held_drew (S := fun v => UrlAt v g1 ⟨SC, [], [], none0, -1, [], [], Q, F, bq, bf⟩ (.slice none 0 0)) (by kernel_rfl) (HU6.out.later hc) (fun hS => ?_)
    refine wpAnyH_take (i := 0) (oi := ⟨some 79, .load 27 (.tmp 14), _, _, _, _⟩) (v := .agg (cU ⟨SC, [], [], none0, -1, [], [], Q, F, bq, bf⟩ (.slice none 0 0))) rfl (by kernel_rfl) (by kernel_rfl) (by kernel_rfl) (fun _ _ _ h => h) (Or.inl ⟨by rfl, ?_⟩) (by assumption) ?_
    · (exact fun v hv => run_load_of 27 (.tmp 14) ⟨g1, 0, none⟩ rfl (.agg (cU ⟨SC, [], [], none0, -1, [], [], Q, F, bq, bf⟩ (.slice none 0 0))) (hv.load h8u))
    simp only [Act.put, List.setIfInBounds_toArray, List.set_cons_zero, List.set_cons_succ]
    refine wpAnyH_take (i := 1) (oi := ⟨some 80, .move (.tmp 9), _, _, _, _⟩) (v := .string t) rfl (by kernel_rfl) (by kernel_rfl) (by kernel_rfl) (fun _ _ _ h => h) (Or.inl ⟨by rfl, ?_⟩) (by assumption) ?_
    · (intro v hv; go_simp)
    simp only [Act.put, List.setIfInBounds_toArray, List.set_cons_zero, List.set_cons_succ]
    refine wpAnyH_take (i := 2) (oi := ⟨some 81, .move (.tmp 15), _, _, _, _⟩) (v := .int .i64 (n : Int)) rfl (by kernel_rfl) (by kernel_rfl) (by kernel_rfl) (fun _ _ _ h => h) (Or.inl ⟨by rfl, ?_⟩) (by assumption) ?_
    · (intro v hv; go_simp)
    simp only [Act.put, List.setIfInBounds_toArray, List.set_cons_zero, List.set_cons_succ]
    refine wpAnyH_take (i := 3) (oi := ⟨some 82, .slice 9 (.tmp 80) (some (.const (.int .i64 2))) (some (.tmp 81)) none, _, _, _, _⟩) (v := .string A) rfl (by kernel_rfl) (by kernel_rfl) (by kernel_rfl) (fun _ _ _ h => h) (Or.inl ⟨by rfl, ?_⟩) (by assumption) ?_
    · (intro v hv; go_simp; intro h; omega)
    simp only [Act.put, List.setIfInBounds_toArray, List.set_cons_zero, List.set_cons_succ]
    refine wpAnyH_ready (rs := [4, 8]) (by kernel_rfl) (by simp) ?_
    refine AllReadyH.cons (o := ⟨some 83, .call ⟨.value (.func 78), #[.tmp 79, .tmp 82], _⟩, _, _, _, _⟩) rfl (fun K hK => ?_) (AllReadyH.cons (o := ⟨some 16, .alloc 27, _, _, _, _⟩) rfl (fun K hK => ?_) AllReadyH.nil)
    · go_simp
      go_at_call 78
      refine (CA.out _).mono ?_
      rintro e y ⟨rfl, hB⟩
      have hc1 := below_trans hc hB
      refine hK.out _ _ (HU6.out.later hc1) (fun hS => ?_)
      refine wpAnyH_take (i := 5) (oi := ⟨some 78, .move (.tmp 83), _, _, _, _⟩) (v := .tuple #[.agg (cU xa (.slice none 0 0)), .bool ba]) rfl (by kernel_rfl) (by kernel_rfl) (by kernel_rfl) (fun _ _ _ h => h) (Or.inl ⟨by rfl, ?_⟩) (by assumption) ?_
      · (intro v hv; go_simp)
      simp only [Act.put, List.setIfInBounds_toArray, List.set_cons_zero, List.set_cons_succ]
      refine wpAnyH_take (i := 6) (oi := ⟨some 84, .extract (.tmp 78) 0, _, _, _, _⟩) (v := .agg (cU xa (.slice none 0 0))) rfl (by kernel_rfl) (by kernel_rfl) (by kernel_rfl) (fun _ _ _ h => h) (Or.inl ⟨by rfl, ?_⟩) (by assumption) ?_
      · (intro v hv; go_simp)
      simp only [Act.put, List.setIfInBounds_toArray, List.set_cons_zero, List.set_cons_succ]
      refine wpAnyH_take (i := 7) (oi := ⟨some 85, .extract (.tmp 78) 1, _, _, _, _⟩) (v := .bool ba) rfl (by kernel_rfl) (by kernel_rfl) (by kernel_rfl) (fun _ _ _ h => h) (Or.inl ⟨by rfl, ?_⟩) (by assumption) ?_
      · (intro v hv; go_simp)
      simp only [Act.put, List.setIfInBounds_toArray, List.set_cons_zero, List.set_cons_succ]
      refine wpAnyH_ready (rs := [8]) (by kernel_rfl) (by simp) ?_
      refine AllReadyH.cons (o := ⟨some 16, .alloc 27, _, _, _, _⟩) rfl (fun K hK => ?_) AllReadyH.nil
      go_simp
      have hc2 := hc1.alloc hc1.size (.cells #[.string ⟨#[]⟩, .string ⟨#[]⟩, .string ⟨#[]⟩, .int .i64 0, .string ⟨#[]⟩, .int .i64 0, .int .i64 0, .int .i64 0, .int .i64 0, .int .i64 0, .int .i64 0, .int .i64 0, .int .i64 0, .int .i64 0, .int .i64 0, .slice none 0 0, .string ⟨#[]⟩, .string ⟨#[]⟩, .string ⟨#[]⟩, .bool false, .bool false] 27)
      refine hK.out _ _ (HU6.out.later hc2) (fun hS => ?_)
      have hnew := new_url y
      refine wpAnyH_ready (rs := [9]) (by kernel_rfl) (by simp) ?_
      refine AllReadyH.cons (o := ⟨none, .store 27 (.tmp 16) (.tmp 84), _, _, _, _⟩) rfl (fun K hK => ?_) AllReadyH.nil
      rw [if_pos (by rfl)]
      refine wp_store_row 27 (.tmp 16) (.tmp 84) rfl y.heap.size (cU xa (.slice none 0 0)) rfl rfl 27 (cU none1 (.slice none 0 0)) hnew (by rw [cU_size _ _ H8a.out]; exact size27) (by first | exact (cU_size none1 (.slice none 0 0) rfl).trans (cU_size xa (.slice none 0 0) H8a.out).symm | exact (cU_size xa (.slice none 0 0) H8a.out).trans (cU_size none1 (.slice none 0 0) rfl).symm) (cU_one _ _ hn1) ?_
      have hc3 := below_row hc2 hc1.size (cU xa (.slice none 0 0))
      refine hK.out _ _ (HU6.out.later hc3) (fun hS => ?_)
      refine wpAnyH_take (i := 10) (oi := ⟨some 17, .assign (.tmp 85), _, _, _, _⟩) (v := .bool ba) rfl (by kernel_rfl) (by kernel_rfl) (by kernel_rfl) (fun _ _ _ h => h) (Or.inl ⟨by rfl, ?_⟩) (by assumption) ?_
      · (intro v hv; go_simp)
      simp only [Act.put, List.setIfInBounds_toArray, List.set_cons_zero, List.set_cons_succ]
      refine wpAnyH_done (by kernel_rfl) ?_ _
      go_wp2_with fail
      go_meet
      have hg := HG.out
      exact ⟨_, rfl, rfl, Lib.hid (hnew.row xa (.slice none 0 0)), Lib.hid (HZ6.out.later hc3), Lib.hid (HB6.out.trans (hc3.mono HB6.out.size)), Lib.hid (Nat.lt_of_lt_of_le HZ6.out.lt hc1.size)⟩
    · go_simp
      have hs1 : (V6.alloc (.cells #[.string ⟨#[]⟩, .string ⟨#[]⟩, .string ⟨#[]⟩, .int .i64 0, .string ⟨#[]⟩, .int .i64 0, .int .i64 0, .int .i64 0, .int .i64 0, .int .i64 0, .int .i64 0, .int .i64 0, .int .i64 0, .int .i64 0, .int .i64 0, .slice none 0 0, .string ⟨#[]⟩, .string ⟨#[]⟩, .string ⟨#[]⟩, .bool false, .bool false] 27)).drew.heap.size = V6.heap.size + 1 := Array.size_push _
      have hc1 : Below V6.heap.size V6 (V6.alloc (.cells #[.string ⟨#[]⟩, .string ⟨#[]⟩, .string ⟨#[]⟩, .int .i64 0, .string ⟨#[]⟩, .int .i64 0, .int .i64 0, .int .i64 0, .int .i64 0, .int .i64 0, .int .i64 0, .int .i64 0, .int .i64 0, .int .i64 0, .int .i64 0, .slice none 0 0, .string ⟨#[]⟩, .string ⟨#[]⟩, .string ⟨#[]⟩, .bool false, .bool false] 27)).drew := ((Below.refl _ V6).alloc (Nat.le_refl _) _).drew
      refine hK.out _ _ (HU6.out.later hc1) (fun hS => ?_)
      have hnew : UrlAt (V6.alloc (.cells #[.string ⟨#[]⟩, .string ⟨#[]⟩, .string ⟨#[]⟩, .int .i64 0, .string ⟨#[]⟩, .int .i64 0, .int .i64 0, .int .i64 0, .int .i64 0, .int .i64 0, .int .i64 0, .int .i64 0, .int .i64 0, .int .i64 0, .int .i64 0, .slice none 0 0, .string ⟨#[]⟩, .string ⟨#[]⟩, .string ⟨#[]⟩, .bool false, .bool false] 27)).drew V6.heap.size none1 (.slice none 0 0) := new_url V6
      refine wpAnyH_ready (rs := [4]) (by kernel_rfl) (by simp) ?_
      refine AllReadyH.cons (o := ⟨some 83, .call ⟨.value (.func 78), #[.tmp 79, .tmp 82], _⟩, _, _, _, _⟩) rfl (fun K hK => ?_) AllReadyH.nil
      go_simp
      go_at_call 78
      refine (CA.out _).mono ?_
      rintro e y ⟨rfl, hB⟩
      have hc2 := below_trans hc1 hB
      have hr := hnew.later hB
      refine hK.out _ _ (HU6.out.later hc2) (fun hS => ?_)
      refine wpAnyH_take (i := 5) (oi := ⟨some 78, .move (.tmp 83), _, _, _, _⟩) (v := .tuple #[.agg (cU xa (.slice none 0 0)), .bool ba]) rfl (by kernel_rfl) (by kernel_rfl) (by kernel_rfl) (fun _ _ _ h => h) (Or.inl ⟨by rfl, ?_⟩) (by assumption) ?_
      · (intro v hv; go_simp)
      simp only [Act.put, List.setIfInBounds_toArray, List.set_cons_zero, List.set_cons_succ]
      refine wpAnyH_take (i := 6) (oi := ⟨some 84, .extract (.tmp 78) 0, _, _, _, _⟩) (v := .agg (cU xa (.slice none 0 0))) rfl (by kernel_rfl) (by kernel_rfl) (by kernel_rfl) (fun _ _ _ h => h) (Or.inl ⟨by rfl, ?_⟩) (by assumption) ?_
      · (intro v hv; go_simp)
      simp only [Act.put, List.setIfInBounds_toArray, List.set_cons_zero, List.set_cons_succ]
      refine wpAnyH_take (i := 7) (oi := ⟨some 85, .extract (.tmp 78) 1, _, _, _, _⟩) (v := .bool ba) rfl (by kernel_rfl) (by kernel_rfl) (by kernel_rfl) (fun _ _ _ h => h) (Or.inl ⟨by rfl, ?_⟩) (by assumption) ?_
      · (intro v hv; go_simp)
      simp only [Act.put, List.setIfInBounds_toArray, List.set_cons_zero, List.set_cons_succ]
      refine wpAnyH_ready (rs := [9]) (by kernel_rfl) (by simp) ?_
      refine AllReadyH.cons (o := ⟨none, .store 27 (.tmp 16) (.tmp 84), _, _, _, _⟩) rfl (fun K hK => ?_) AllReadyH.nil
      rw [if_pos (by rfl)]
      refine wp_store_row 27 (.tmp 16) (.tmp 84) rfl V6.heap.size (cU xa (.slice none 0 0)) rfl rfl 27 (cU none1 (.slice none 0 0)) hr (by rw [cU_size _ _ H8a.out]; exact size27) (by first | exact (cU_size none1 (.slice none 0 0) rfl).trans (cU_size xa (.slice none 0 0) H8a.out).symm | exact (cU_size xa (.slice none 0 0) H8a.out).trans (cU_size none1 (.slice none 0 0) rfl).symm) (cU_one _ _ hn1) ?_
      have hc3 := below_row hc2 (Nat.le_refl _) (cU xa (.slice none 0 0))
      refine hK.out _ _ (HU6.out.later hc3) (fun hS => ?_)
      refine wpAnyH_take (i := 10) (oi := ⟨some 17, .assign (.tmp 85), _, _, _, _⟩) (v := .bool ba) rfl (by kernel_rfl) (by kernel_rfl) (by kernel_rfl) (fun _ _ _ h => h) (Or.inl ⟨by rfl, ?_⟩) (by assumption) ?_
      · (intro v hv; go_simp)
      simp only [Act.put, List.setIfInBounds_toArray, List.set_cons_zero, List.set_cons_succ]
      refine wpAnyH_done (by kernel_rfl) ?_ _
      go_wp2_with fail
      go_meet
      exact ⟨_, rfl, rfl, Lib.hid (hr.row xa (.slice none 0 0)), Lib.hid (HZ6.out.later hc3), Lib.hid (HB6.out.trans (hc3.mono HB6.out.size)), Lib.hid HZ6.out.lt⟩
  case rest =>
    obtain ⟨g, rfl, rfl, HUa, HZa, HBa, HGa⟩ := hcut
    clear HU6 HZ6 HB6 HG CA pA
    cases ba
    · obtain ⟨rfl, rfl, rfl⟩ := F5.out Z0.out (by first | rfl | trivial)
      clear F5 F6
      go_wp2_with ((with_reducible refine wp_store27 (o := ⟨none, .store 27 (.tmp 2) (.tmp 88), _, _, _, _⟩) ?_ (.tmp 2) (.tmp 88) ?_ w.heap.size ?_ none1 (.slice none 0 0) ?_ n81 hn1 none1 (.slice none 0 0) rfl HZa.out ?_); (· rfl); (· rfl); (· rfl); (· rfl); simp only [Act.put, List.setIfInBounds_toArray, List.set_cons_zero, List.set_cons_succ])
      exact bodyPost_ret (ret_rp w.heap.size none1 (.slice none 0 0) rfl false rfl rfl (HZa.out.row none1 (.slice none 0 0))) rfl ⟨(.slice none 0 0), rfl, Path.Strs.nil _, new_nil _, below_row HBa.out (Nat.le_refl _) _⟩
    · obtain ⟨rfl, rfl⟩ := F6.out (by first | rfl | trivial) Z0.out HP.out (by first | rfl | trivial)
      clear F5 F6
      go_wp2_with fail
      refine (CL2.out _).mono ?_
      rintro e Y ⟨pv, rfl, hst, hnw, hB⟩
      have hone := strs_one hst
      have HU1 := Lib.hid (HUa.out.later hB)
      have HZ1 := Lib.hid (HZa.out.later hB)
      have HB1 := Lib.hid (HBa.out.trans (hB.mono HBa.out.size))
      have hg := HGa.out
      have hgl := HUa.out.lt
      have HST := Lib.hid hst
      have HNW := Lib.hid (show Path.New (g + 1) pv from hnw.mono (by omega))
      clear hst hnw hB HUa HZa HBa HGa CL2
      have f15 := HU1.out.free 15
      have g15 := HU1.out.cell 15
      rw [(cU_at _ _ H8a.out).2.2.2.2.2.1] at g15
      have HU2 := Lib.hid (HU1.out.pth H8a.out L pv)
      have HZ2 := Lib.hid (url_other HZ1.out (by omega : w.heap.size ≠ g) 15 pv)
      have HB2 := Lib.hid (below_set HB1.out (by omega : w.heap.size ≤ g) 15 pv)
      have HS2 := Lib.hid (show Path.Strs (Y.setCell ⟨g, 15, none⟩ pv) pv L from strs_other g HST.out HNW.out (fun k hk => Below.heap_setCell _ _ _ _ hk))
      have h8x : ({ xa with path := L } : U).h.p.length = 8 := H8a.out
      clear HU1 HZ1 HB1 HST
      obtain ⟨a, cap, hpv, _⟩ := HS2.out
      subst hpv
      go_wp2_with (first | ((with_reducible refine wp_load27 (o := ⟨some 94, .load 27 (.tmp 16), _, _, _, _⟩) ?_ (.tmp 16) ?_ g ?_ { xa with path := L } (.slice a L.length cap) h8x HU2.out ?_); (· rfl); (· rfl); (· rfl); simp only [Act.put, List.setIfInBounds_toArray, List.set_cons_zero, List.set_cons_succ]) | ((with_reducible refine wp_store27 (o := ⟨none, .store 27 (.tmp 2) (.tmp 94), _, _, _, _⟩) ?_ (.tmp 2) (.tmp 94) ?_ w.heap.size ?_ { xa with path := L } (.slice a L.length cap) ?_ h8x hone none1 (.slice none 0 0) rfl HZ2.out ?_); (· rfl); (· rfl); (· rfl); (· rfl); simp only [Act.put, List.setIfInBounds_toArray, List.set_cons_zero, List.set_cons_succ]))
      exact bodyPost_ret (ret_rp w.heap.size { xa with path := L } (.slice a L.length cap) h8x true rfl rfl (HZ2.out.row { xa with path := L } (.slice a L.length cap))) rfl ⟨_, rfl, strs_other w.heap.size HS2.out (HNW.out.mono (by omega)) (fun k hk => Url.setRow_other _ _ _ (Ne.symm hk)), HNW.out.mono (by omega), below_row HB2.out (Nat.le_refl _) _⟩

end Go.Proofs.YtkhjhiofgoampaaGreatDoor.Url

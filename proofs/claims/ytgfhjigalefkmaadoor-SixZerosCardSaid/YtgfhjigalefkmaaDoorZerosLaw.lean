/-
  The law SixZeros holds for every input: two colons stand for as many noughts as are missing; in place of them as many texts 0 tell the same; two colons more are none. No condition of its own; the card: the five listed tables lie as their texts lay them (tied).
-/
import Derived.Test.YtgfhjigalefkmaaDoorCards
import Derived.Test.YtgfhjigalefkmaaDoorTie
import Derived.WalkKit
import Derived.ProofKit
import Derived.OpenShut
import Derived.ShutString
import Derived.Test.YtgfhjigalefkmaaDoorSOpen
import Derived.Test.YtgfhjigalefkmaaDoorSZeros
namespace Go.Proofs.YtgfhjigalefkmaaDoor.sixZeros
open Go.ChangeShapes Go.WideShapes Go.ChangeAt Go.RowKit
open Go.ChangeMaps (open_string shut_string)
open Go.Shelf
open Go.Proofs.YtgfhjigalefkmaaDoor.Six
set_option linter.unusedSimpArgs false
set_option linter.unusedVariables false

theorem own : ownKnob Tryd.prog.godebug = none := by kernel_rfl

set_option maxRecDepth 100000 in
set_option maxHeartbeats 4000000 in
theorem walkNot (p : List Int) (h8 : p.length = 8) (at_ n : Int) (hn : mayP p = false ∨ (mayP p = true ∧ (decide (at_ < 0) = true ∨ (decide (at_ < 0) = false ∧ decide (n < 1) = true) ∨ (decide (at_ < 0) = false ∧ decide (n < 1) = false ∧ decide (8 - n < at_) = true ∧ 1 ≤ n ∧ n ≤ 9223372036854775807))))
    (m : Int) (w : World) (hm : At m w) : Calls Tryd.prog 7 #[.agg (arr p), .int .i64 at_, .int .i64 n] w fun e w' => e = .returned (.bool true) ∧ Below w.heap.size w w' := by
  have HB := Lib.hid (show Below w.heap.size w (w.alloc (.cells (arr p) 22)) from (Below.refl _ w).alloc (Nat.le_refl _) _)
  have HR := Lib.hid (RowAt.new w p)
  have HM := Lib.hid (hm.later HB.out)
  have H8 := Lib.hid h8
  obtain ⟨b, hb⟩ : ∃ b, mayP p = b := ⟨_, rfl⟩
  rw [hb] at hn
  have HP := Lib.hid hb
  clear hm h8 hb
  go_enter Tryd.func7, Tryd.ntmps7
  go_wp2_with fail
  generalize w.alloc (.cells (arr p) 22) = W at HB HR HM ⊢
  refine (awake_calls m _ HM.out).mono ?_
  rintro e u1 ⟨rfl, hB1⟩
  have HR1 := Lib.hid (HR.out.later hB1)
  have HB1 := Lib.hid (Ascii.below2 HB.out hB1)
  clear hB1 HR HB HM
  go_wp2_with ((with_reducible refine wp_load22g (o := ⟨some 25, .load 22 (.tmp 3), _, _, _, _⟩) ?_ (.tmp 3) ?_ w.heap.size ?_ p H8.out HR1.out ?_); (· rfl); (· rfl); (· rfl))
  refine (may_any p H8.out b HP.out _).mono ?_
  rintro e u2 ⟨rfl, hB2⟩
  have HB2 := Lib.hid (Ascii.below2 HB1.out hB2)
  clear hB2 HB1 HR1 HP
  rcases hn with rfl | ⟨rfl, h1 | ⟨h1, h2⟩ | ⟨h1, h2, h3, h4, h5⟩⟩
  all_goals
    go_wp2
    go_ret
    exact ⟨rfl, HB2.out⟩
set_option maxRecDepth 100000 in
set_option maxHeartbeats 40000000 in
theorem walkIn (p : List Int) (h8 : p.length = 8) (a n : Nat) (hn : 1 ≤ n) (han : a + n ≤ 8) (mp : mayP p = true)
    (m : Int) (w : World) (hm : At m w) : Calls Tryd.prog 7 #[.agg (arr p), .int .i64 a, .int .i64 n] w fun e w' => e = .returned (.bool true) ∧ Below w.heap.size w w' := by
  have HB := Lib.hid (show Below w.heap.size w (w.alloc (.cells (arr p) 22)) from (Below.refl _ w).alloc (Nat.le_refl _) _)
  have HR := Lib.hid (RowAt.new w p)
  have HM := Lib.hid hm
  have H8 := Lib.hid h8
  have HP := Lib.hid mp
  obtain ⟨q, hq⟩ : ∃ q, a + n = q := ⟨_, rfl⟩
  have esum : (a : Int) + (n : Int) = (q : Int) := by omega
  have d1 : decide ((a : Int) < 0) = false := decide_eq_false (by omega)
  have d2 : decide ((n : Int) < 1) = false := decide_eq_false (by omega)
  have d3 : decide (8 - (n : Int) < (a : Int)) = false := decide_eq_false (by omega)
  have d4 : decide (8 < (n : Int)) = false := decide_eq_false (by omega)
  have HAN := Lib.hid (show 1 ≤ n ∧ a + n ≤ 8 ∧ a + n = q ∧ q ≤ 8 ∧ a ≤ 8 from ⟨hn, han, hq, by omega, by omega⟩)
  have ha8 : a ≤ 8 := by omega
  have hn8 : n ≤ 8 := by omega
  clear hm h8 mp hn han hq
  go_enter Tryd.func7, Tryd.ntmps7
  go_wp2_with fail
  generalize w.alloc (.cells (arr p) 22) = W at HB HR ⊢
  refine (awake_calls m _ (HM.out.later HB.out)).mono ?_
  rintro e u1 ⟨rfl, hB1⟩
  have HR1 := Lib.hid (HR.out.later hB1)
  have HB1 := Lib.hid (Ascii.below2 HB.out hB1)
  clear hB1 HR HB
  go_wp2_with ((with_reducible refine wp_load22g (o := ⟨some 25, .load 22 (.tmp 3), _, _, _, _⟩) ?_ (.tmp 3) ?_ w.heap.size ?_ p H8.out HR1.out ?_); (· rfl); (· rfl); (· rfl))
  refine (may_any p H8.out true HP.out _).mono ?_
  rintro e u2 ⟨rfl, hB2⟩
  have HR2 := Lib.hid (HR1.out.later hB2)
  have HB2 := Lib.hid (Ascii.below2 HB1.out hB2)
  clear hB2 HB1 HR1
  go_wp2
  go_loopw [8] (fun i wr => ∃ k : Nat, k ≤ 8 ∧ i = .int .i64 k ∧ Hid (RowAt wr w.heap.size (zeroTo p a n k)) ∧ Hid (Below w.heap.size w wr)) (fun i _ => 8 - (intOf i).toNat)
  case atStart => exact ⟨0, Nat.zero_le _, rfl, Lib.hid (by rw [zeroTo_zero]; exact HR2.out), HB2⟩
  case round =>
    clear HR2 HB2
    obtain ⟨k, hk, rfl, HR, HW⟩ := hrel
    by_cases hlt : k < 8
    · have t1 : (k : Int) < 8 := by omega
      have hkp : k < p.length := by have := H8.out; omega
      have hkl : k < (zeroTo p a n k).length := by rw [zeroTo_len]; exact hkp
      have hc := HR.out.cell k hkl
      rw [zeroTo_at p a n k hkp] at hc
      have hf := HR.out.frozen k
      have hz := (may_iff p).1 HP.out p[k] (List.getElem_mem _)
      generalize p[k] = z at hc hz
      have e0 : decide (z < 0) = false := decide_eq_false (by omega)
      have e1 : decide (65535 < z) = false := decide_eq_false (by omega)
      clear hz hkl
      by_cases hin : a ≤ k ∧ k < q
      · obtain ⟨i1, i2⟩ := hin
        have f1 : decide (a ≤ k) = true := decide_eq_true i1
        have f2 : decide (k < q) = true := decide_eq_true i2
        have HS := Lib.hid (zeroTo_in p a n k hkp i1 (by have := HAN.out; omega))
        clear hkp
        go_wp2
        go_roundw
        case rel =>
          refine ⟨k + 1, by omega, by go_num, Lib.hid ?_, Lib.hid (HW.out.setCell (p := ⟨w.heap.size, k, none⟩) (Nat.le_refl _) _)⟩
          rw [← HS.out]
          exact HR.out.set k 0
        case measure => simp [intOf]; omega
      · have HS := Lib.hid (zeroTo_out p a n k (by have := HAN.out; omega))
        have f : decide (a ≤ k) = false ∨ (decide (a ≤ k) = true ∧ decide (k < q) = false) := by
          by_cases h : a ≤ k
          · exact .inr ⟨decide_eq_true h, decide_eq_false (by omega)⟩
          · exact .inl (decide_eq_false h)
        clear hin hkp
        rcases f with f1 | ⟨f1, f2⟩
        all_goals
          go_wp2
          go_roundw
          case rel => exact ⟨k + 1, by omega, by go_num, Lib.hid (by rw [HS.out]; exact HR.out), HW⟩
          case measure => simp [intOf]; omega
    · obtain rfl : k = 8 := by omega
      clear hlt
      obtain ⟨V, hV⟩ : ∃ V, V = wr := ⟨_, rfl⟩
      subst hV
      obtain ⟨p', hp'⟩ : ∃ p', zeroTo p a n 8 = p' := ⟨_, rfl⟩
      have H8' := Lib.hid (show p'.length = 8 by rw [← hp', zeroTo_len]; exact H8.out)
      have HP' := Lib.hid (show mayP p' = true by rw [← hp']; exact zeroTo_may p a n 8 HP.out)
      have HZr := Lib.hid (show ∀ j, a ≤ j → j < a + n → ((quads p').map valN)[j]? = some 0 by rw [← hp']; exact zeroTo_row p H8.out a n HAN.out.2.1)
      rw [hp'] at HR
      clear hp' HP H8
      have HTs := Lib.hid (show (quads p').length = 8 by rw [quads_len]; exact H8'.out)
      obtain ⟨g, hg⟩ : ∃ g, w.heap.size = g := ⟨_, rfl⟩
      have HWg := Lib.hid (show g < V.heap.size from hg ▸ HR.out.lt)
      have HG := Lib.hid hg
      have hH0 := Lib.hid (rowT_new V (quads p') HTs.out)
      have hR0 := Lib.hid (HR.out.past (.cells #[.string ⟨#[]⟩, .string ⟨#[]⟩, .string ⟨#[]⟩, .string ⟨#[]⟩, .string ⟨#[]⟩, .string ⟨#[]⟩, .string ⟨#[]⟩, .string ⟨#[]⟩] 34))
      have hB0 := Lib.hid (show Below V.heap.size V (V.alloc (.cells #[.string ⟨#[]⟩, .string ⟨#[]⟩, .string ⟨#[]⟩, .string ⟨#[]⟩, .string ⟨#[]⟩, .string ⟨#[]⟩, .string ⟨#[]⟩, .string ⟨#[]⟩] 34)) from (Below.refl _ _).alloc (Nat.le_refl _) _)
      clear hg
      go_wp2
      go_loopw [11] (fun i wq => ∃ k : Nat, k ≤ 8 ∧ i = .int .i64 k ∧ Hid (HeldS wq V.heap.size (rowT (quads p') k)) ∧ Hid (Below V.heap.size V wq) ∧ Hid (V.heap.size < wq.heap.size)) (fun i _ => 8 - (intOf i).toNat)
      case atStart => exact ⟨0, Nat.zero_le _, rfl, hH0, hB0, Lib.hid (by simp)⟩
      case round =>
        clear hH0 hR0 hB0
        obtain ⟨k, hk, rfl, HH, HV, HL⟩ := hrel
        by_cases hlt : k < 8
        · have t1 : (k : Int) < 8 := by omega
          have hkp : k < p'.length := by have := H8'.out; omega
          have hc := (HR.out.later HV.out).cell k hkp
          have hz := (may_iff p').1 HP'.out p'[k] (List.getElem_mem _)
          have hq4 : (quads p')[k]'(by rw [HTs.out]; exact hlt) = quad p'[k].toNat := by simp [quads]
          obtain ⟨z, hzz⟩ : ∃ z : Nat, p'[k] = (z : Int) := ⟨p'[k].toNat, by omega⟩
          rw [hzz] at hc hz hq4
          rw [show ((z : Int)).toNat = z by omega] at hq4
          have HQ4 := Lib.hid hq4
          have hz2 : z ≤ 65535 := by omega
          have hfr := (HH.out k (by rw [rowT_len, HTs.out]; exact hlt)).2
          clear hkp hzz hq4 hz
          obtain ⟨d1, y1⟩ : ∃ d : Nat, (z : Int) / 4096 = (d : Int) := ⟨z / 4096, by omega⟩
          obtain ⟨d2, y2⟩ : ∃ d : Nat, (z : Int) / 256 % 16 = (d : Int) := ⟨z / 256 % 16, by omega⟩
          obtain ⟨d3, y3⟩ : ∃ d : Nat, (z : Int) / 16 % 16 = (d : Int) := ⟨z / 16 % 16, by omega⟩
          obtain ⟨d4, y4⟩ : ∃ d : Nat, (z : Int) % 16 = (d : Int) := ⟨z % 16, by omega⟩
          have b1 : d1 < 16 := by omega
          have b2 : d2 < 16 := by omega
          have b3 : d3 < 16 := by omega
          have b4 : d4 < 16 := by omega
          have hqd : quad z = [hexC d1, hexC d2, hexC d3, hexC d4] := by
            unfold quad
            rw [show z / 4096 = d1 by omega, show z / 256 % 16 = d2 by omega, show z / 16 % 16 = d3 by omega, show z % 16 = d4 by omega]
          have k1 := digs_lit d1 b1
          have k2 := digs_lit d2 b2
          have k3 := digs_lit d3 b3
          have k4 := digs_lit d4 b4
          generalize hexC d1 = c1 at k1 hqd
          generalize hexC d2 = c2 at k2 hqd
          generalize hexC d3 = c3 at k3 hqd
          generalize hexC d4 = c4 at k4 hqd
          have HQD := Lib.hid hqd
          have hcv := four_conv wr c1 c2 c3 c4
          have hHn := (HH.out k (by rw [rowT_len, HTs.out]; exact hlt)).1
          rw [rowT_next] at hHn
          have hBq : Below wr.heap.size wr (wr.alloc (.cells #[.int .u8 (c1.toNat : Int), .int .u8 (c2.toNat : Int), .int .u8 (c3.toNat : Int), .int .u8 (c4.toNat : Int)] 5)).drew := ((Below.refl _ _).alloc (Nat.le_refl _) _).drew
          have hc3 := (hBq.cell (p := ⟨V.heap.size, k, none⟩) HL.out).trans hHn
          have hf3 := (hBq.frozen (p := ⟨V.heap.size, k, none⟩) HL.out).trans hfr
          have HBq := Lib.hid hBq
          clear hqd hBq hHn hfr
          go_wp2
          go_region
          go_wp2
          go_roundw
          case rel =>
            refine ⟨k + 1, by omega, by go_num, Lib.hid ?_, Lib.hid ((HV.out.trans (HBq.out.mono (Nat.le_of_lt HL.out))).setCell (p := ⟨V.heap.size, k, none⟩) (Nat.le_refl _) _), Lib.hid (by have := HL.out; simp; omega)⟩
            have h1 := heldS_set (heldS_below HH.out HBq.out HL.out) k (by rw [rowT_len, HTs.out]; exact hlt) ⟨#[c1, c2, c3, c4]⟩
            have h2 := rowT_set (quads p') k (by rw [HTs.out]; exact hlt)
            rw [HQ4.out, HQD.out] at h2
            rw [← h2]
            exact h1
          case measure => simp [intOf]; omega
        · obtain rfl : k = 8 := by omega
          clear hlt
          obtain ⟨ts, hts⟩ : ∃ ts, quads p' = ts := ⟨_, rfl⟩
          have HOk := Lib.hid (show ts.all okP = true by rw [← hts]; exact quads_okP p' HP'.out)
          have HTx := Lib.hid (texts_ok ts HOk.out)
          have HLong := Lib.hid (show parB (joinC ts) = true ∧ parI (joinC ts) = p' by rw [← hts]; exact zeros_long p' H8'.out HP'.out)
          have HMore := Lib.hid (show parB (58 :: 58 :: joinC ts) = false by rw [← hts]; exact zeros_more p' H8'.out HP'.out)
          have HVal := Lib.hid (show ints (ts.map valN) = p' by rw [← hts]; exact quads_val p' HP'.out)
          rw [hts] at HTs HZr HH
          have HShort := Lib.hid (show parB (gapped a n ts) = true ∧ parI (gapped a n ts) = p' by
            obtain ⟨h1, h2⟩ := par_gapped ts HOk.out HTs.out a n HAN.out.1 HAN.out.2.1 HZr.out
            exact ⟨h1, by rw [h2]; exact HVal.out⟩)
          clear hts HVal HZr
          have H4 := Lib.hid (show ∀ t ∈ ts, t.length ≤ 4 from fun t ht => ((okP_iff t).1 (List.all_eq_true.1 HOk.out t ht)).2.1)
          have hc0 := (HH.out 0 (by rw [rowT_len, HTs.out]; omega)).1
          rw [rowT_at ts HTs.out 0 (by rw [HTs.out]; omega)] at hc0
          have hl0 : (⟨(ts[0]'(by rw [HTs.out]; omega)).toArray⟩ : ByteArray) = ⟨(joinC (ts.take (max 0 1))).toArray⟩ := by
            rw [show max 0 1 = 0 + 1 from rfl, take_snocT ts 0 (by rw [HTs.out]; omega)]
            rfl
          rw [hl0] at hc0
          clear hl0
          obtain ⟨U, hU⟩ : ∃ U, U = wr := ⟨_, rfl⟩
          subst hU
          have HTy := Lib.hid (HR.out.later HV.out)
          have HAt := Lib.hid (HM.out.later (Ascii.below2 HW.out HV.out))
          have HBU := Lib.hid (Ascii.below2 HW.out HV.out)
          clear HR HV HW HWg HG HM
          go_wp2
          go_loopw [12, 13, 14] (fun l s i wr => ∃ k : Nat, k ≤ 8 ∧ i = .int .i64 k ∧ l = .string ⟨(joinC (ts.take (max k 1))).toArray⟩ ∧ s = .string ⟨(shortTo ts a n k).toArray⟩ ∧ wr = U) (fun _ _ i _ => 8 - (intOf i).toNat)
          case atStart => exact ⟨0, Nat.zero_le _, rfl, rfl, by rw [short_zero], rfl⟩
          case round =>
            clear hc0
            obtain ⟨k, hk, rfl, rfl, rfl, rfl⟩ := hrel
            by_cases hlt : k < 8
            · have t1 : (k : Int) < 8 := by omega
              have hkt : k < ts.length := by rw [HTs.out]; exact hlt
              have hc := (HH.out k (by rw [rowT_len]; exact hkt)).1
              rw [rowT_at ts HTs.out k hkt] at hc
              have e4 := H4.out ts[k] (List.getElem_mem _)
              have eL := short_len ts HTs.out H4.out 8 1 (max k 1) (by omega)
              rw [show shortTo ts 8 1 (max k 1) = joinC (ts.take (max k 1)) by unfold shortTo; rw [if_pos (by omega)]] at eL
              have eS := short_len ts HTs.out H4.out a n k HAN.out.1
              have hLn : (decide (0 < k) = false ∧ joinC (ts.take (max (k + 1) 1)) = joinC (ts.take (max k 1))) ∨ (decide (0 < k) = true ∧ joinC (ts.take (max (k + 1) 1)) = joinC (ts.take (max k 1)) ++ 58 :: ts[k]) := by
                by_cases h0 : k = 0
                · subst h0; exact .inl ⟨by decide, rfl⟩
                · exact .inr ⟨decide_eq_true (by omega), long_step ts k hkt (by omega)⟩
              have hSn : (((k : Int) == (a : Int)) = true ∧ decide (a ≤ k) = true ∧ decide (k < q) = true ∧ shortTo ts a n (k + 1) = shortTo ts a n k ++ [58, 58]) ∨
                  (((k : Int) == (a : Int)) = false ∧ decide (a ≤ k) = true ∧ decide (k < q) = true ∧ shortTo ts a n (k + 1) = shortTo ts a n k) ∨
                  (((k : Int) == (a : Int)) = false ∧ (decide (a ≤ k) = false ∨ (decide (a ≤ k) = true ∧ decide (k < q) = false)) ∧
                    ((shortTo ts a n k = [] ∧ shortTo ts a n (k + 1) = ts[k]) ∨ (∃ r, shortTo ts a n k = r ++ [58] ∧ shortTo ts a n (k + 1) = shortTo ts a n k ++ ts[k]) ∨
                    (∃ r c, c ≠ 58 ∧ shortTo ts a n k = r ++ [c] ∧ shortTo ts a n (k + 1) = shortTo ts a n k ++ 58 :: ts[k]))) := by
                obtain ⟨g1, g2, g3, g4, g5⟩ := HAN.out
                by_cases hka : k = a
                · refine .inl ⟨by simp [hka], decide_eq_true (by omega), decide_eq_true (by omega), ?_⟩
                  rw [hka]; exact short_at ts a n g1
                · have hb : ((k : Int) == (a : Int)) = false := beq_false_of_ne (by omega)
                  by_cases hin : a ≤ k ∧ k < q
                  · exact .inr (.inl ⟨hb, decide_eq_true hin.1, decide_eq_true hin.2, short_in ts a n k (by omega) (by omega)⟩)
                  · refine .inr (.inr ⟨hb, ?_, short_step ts HTx.out a n k g1 hkt (by omega)⟩)
                    by_cases h : a ≤ k
                    · exact .inr ⟨decide_eq_true h, decide_eq_false (by omega)⟩
                    · exact .inl (decide_eq_false h)
              obtain ⟨tk, htk⟩ : ∃ tk : ByteArray, (⟨ts[k].toArray⟩ : ByteArray) = tk := ⟨_, rfl⟩
              obtain ⟨lb, hlb⟩ : ∃ lb : ByteArray, (⟨(joinC (ts.take (max k 1))).toArray⟩ : ByteArray) = lb := ⟨_, rfl⟩
              obtain ⟨sb, hsb⟩ : ∃ sb : ByteArray, (⟨(shortTo ts a n k).toArray⟩ : ByteArray) = sb := ⟨_, rfl⟩
              have z1 : tk.size ≤ 4 := by rw [← htk]; exact e4
              have z2 : lb.size ≤ 100 := by rw [← hlb]; exact eL
              have z3 : sb.size ≤ 100 := by rw [← hsb]; exact eS
              have hLx : (decide (0 < k) = false ∧ Hid ((⟨(joinC (ts.take (max (k + 1) 1))).toArray⟩ : ByteArray) = lb)) ∨ (decide (0 < k) = true ∧ Hid ((⟨(joinC (ts.take (max (k + 1) 1))).toArray⟩ : ByteArray) = lb ++ ⟨#[58]⟩ ++ tk)) := by
                rcases hLn with ⟨h1, h2⟩ | ⟨h1, h2⟩
                · exact .inl ⟨h1, Lib.hid (by rw [h2, hlb])⟩
                · exact .inr ⟨h1, Lib.hid (by rw [h2, show (58 :: ts[k]) = [58] ++ ts[k] from rfl, ← List.append_assoc, bytes_app, bytes_app, hlb, htk])⟩
              have hSx : (((k : Int) == (a : Int)) = true ∧ decide (a ≤ k) = true ∧ decide (k < q) = true ∧ Hid ((⟨(shortTo ts a n (k + 1)).toArray⟩ : ByteArray) = sb ++ ⟨#[58, 58]⟩)) ∨
                  (((k : Int) == (a : Int)) = false ∧ decide (a ≤ k) = true ∧ decide (k < q) = true ∧ Hid ((⟨(shortTo ts a n (k + 1)).toArray⟩ : ByteArray) = sb)) ∨
                  (((k : Int) == (a : Int)) = false ∧ (decide (a ≤ k) = false ∨ (decide (a ≤ k) = true ∧ decide (k < q) = false)) ∧
                    ((sb.toList.isEmpty = true ∧ Hid ((⟨(shortTo ts a n (k + 1)).toArray⟩ : ByteArray) = sb ++ tk)) ∨ ((0 < sb.size ∧ sb.toList.isEmpty = false ∧ ∀ h : sb.size - 1 < sb.size, (((sb[sb.size - 1]'h).toNat : Int) != 58) = false) ∧ Hid ((⟨(shortTo ts a n (k + 1)).toArray⟩ : ByteArray) = sb ++ tk)) ∨
                    ((0 < sb.size ∧ sb.toList.isEmpty = false ∧ ∀ h : sb.size - 1 < sb.size, (((sb[sb.size - 1]'h).toNat : Int) != 58) = true) ∧ Hid ((⟨(shortTo ts a n (k + 1)).toArray⟩ : ByteArray) = sb ++ ⟨#[58]⟩ ++ tk)))) := by
                have hsl : sb.data.toList = shortTo ts a n k := by rw [← hsb]
                rcases hSn with ⟨h1, h2, h3, h4⟩ | ⟨h1, h2, h3, h4⟩ | ⟨h1, h2, ⟨h3, h4⟩ | ⟨r, h3, h4⟩ | ⟨r, c, hc, h3, h4⟩⟩
                · exact .inl ⟨h1, h2, h3, Lib.hid (by rw [h4, bytes_app, hsb])⟩
                · exact .inr (.inl ⟨h1, h2, h3, Lib.hid (by rw [h4, hsb])⟩)
                · refine .inr (.inr ⟨h1, h2, .inl ⟨?_, Lib.hid ?_⟩⟩)
                  · rw [ByteArray.toList_eq, hsl, h3]; rfl
                  · rw [h4, htk, ← hsb, h3]; apply ByteArray.ext; simp
                · obtain ⟨l1, l2, l3⟩ := last_of sb r 58 (hsl.trans h3)
                  exact .inr (.inr ⟨h1, h2, .inr (.inl ⟨⟨l1, l2, fun h => by rw [l3]; rfl⟩, Lib.hid (by rw [h4, bytes_app, hsb, htk])⟩)⟩)
                · obtain ⟨l1, l2, l3⟩ := last_of sb r c (hsl.trans h3)
                  refine .inr (.inr ⟨h1, h2, .inr (.inr ⟨⟨l1, l2, fun h => ?_⟩, Lib.hid (by rw [h4, show (58 :: ts[k]) = [58] ++ ts[k] from rfl, ← List.append_assoc, bytes_app, bytes_app, hsb, htk])⟩)⟩)
                  rw [l3]
                  have : c.toNat ≠ 58 := fun e => hc (UInt8.toNat_inj.1 e)
                  simp; omega
              rw [htk] at hc
              rw [hlb, hsb]
              clear hLn hSn e4 eL eS hkt htk hlb hsb
              rcases hLx with ⟨i1, HLx⟩ | ⟨i1, HLx⟩
              all_goals
                rcases hSx with ⟨j1, j2, j3, HSx⟩ | ⟨j1, j2, j3, HSx⟩ | ⟨j1, j2 | ⟨j2, j3⟩, ⟨m1, HSx⟩ | ⟨⟨m1, m2, m3⟩, HSx⟩ | ⟨⟨m1, m2, m3⟩, HSx⟩⟩
                all_goals
                  go_wp2
                  go_roundw
                  case rel => first | exact ⟨k + 1, by omega, by go_num, by rw [HLx.out], by rw [HSx.out], by first | trivial | rfl⟩ | ((repeat apply Exists.intro); exact ⟨⟨k + 1, by omega, by go_num, by rw [HLx.out], by rw [HSx.out], by first | trivial | rfl⟩, rfl⟩)
                  case measure => simp [intOf]; omega
            · obtain rfl : k = 8 := by omega
              clear hlt
              rw [show max 8 1 = 8 from rfl, show ts.take 8 = ts from List.take_of_length_le (by rw [HTs.out]; omega), short_all ts HTs.out a n HAN.out.2.1 HAN.out.1]
              obtain ⟨L, hL⟩ : ∃ L : ByteArray, (⟨(joinC ts).toArray⟩ : ByteArray) = L := ⟨_, rfl⟩
              obtain ⟨X, hX⟩ : ∃ X : ByteArray, (⟨(gapped a n ts).toArray⟩ : ByteArray) = X := ⟨_, rfl⟩
              have eL := short_len ts HTs.out H4.out 8 1 8 (by omega)
              rw [short_whole ts HTs.out] at eL
              have eX := short_len ts HTs.out H4.out a n 8 HAN.out.1
              rw [short_all ts HTs.out a n HAN.out.2.1 HAN.out.1] at eX
              have zL : L.size ≤ 100 := by rw [← hL]; exact eL
              have zX : X.size ≤ 100 := by rw [← hX]; exact eX
              have lL : L.data.toList = joinC ts := by rw [← hL]
              have lX : X.data.toList = gapped a n ts := by rw [← hX]
              have cLong := Lib.hid (fun u (hu : At m u) => parse_any L (by omega) p' true (by rw [lL]; exact HLong.out.2) (by rw [lL]; exact HLong.out.1) m u hu)
              have cShort := Lib.hid (fun u (hu : At m u) => parse_any X (by omega) p' true (by rw [lX]; exact HShort.out.2) (by rw [lX]; exact HShort.out.1) m u hu)
              have lM : ((⟨#[58, 58]⟩ : ByteArray) ++ L).data.toList = 58 :: 58 :: joinC ts := by rw [← hL]; simp
              have zM : ((⟨#[58, 58]⟩ : ByteArray) ++ L).size ≤ 1000 := by
                have e1 : ((⟨#[58, 58]⟩ : ByteArray) ++ L).size = ((⟨#[58, 58]⟩ : ByteArray) ++ L).data.toList.length := rfl
                have e2 : L.size = (joinC ts).length := by rw [← hL]; rfl
                rw [e1, lM, List.length_cons, List.length_cons]
                omega
              have cMore := Lib.hid (fun u (hu : At m u) => parse_any ((⟨#[58, 58]⟩ : ByteArray) ++ L) (by omega) zero8 false (by rw [lM]; unfold parI; rw [HMore.out]; rfl) (by rw [lM]; exact HMore.out) m u hu)
              have HZ := Lib.hid (fun u : World => RowAt.new u zero8)
              rw [hL, hX]
              clear eL eX lL lX lM zM hL hX HLong HShort HMore HOk HTx H4 HH
              go_wp2_with fail
              refine (cLong.out _ HAt.out).mono ?_
              rintro e v1 ⟨rfl, hB1⟩
              have hBn : Below v1.heap.size v1 ((v1.alloc (.cells (arr zero8) 22)).setRow v1.heap.size (arr p')) := below_setRow ((Below.refl _ v1).alloc (Nat.le_refl _) _) (Nat.le_refl _) _
              have HT1 := Lib.hid ((HTy.out.later hB1).later hBn)
              have HA1 := Lib.hid ((HAt.out.later hB1).later hBn)
              have HB1 := Lib.hid (Ascii.below3 HBU.out hB1 hBn)
              have HRa := Lib.hid ((HZ.out v1).row p')
              clear hB1 hBn cLong HTy HAt HBU
              go_wp2_with ((with_reducible refine wp_store22 (o := ⟨none, .store 22 (.tmp 15) (.tmp 157), _, _, _, _⟩) ?_ (.tmp 15) (.tmp 157) ?_ v1.heap.size ?_ p' ?_ H8'.out zero8 ?_ (HZ.out _) ?_); (· rfl); (· rfl); (· rfl); (· rfl); (· rfl))
              refine (cShort.out _ HA1.out).mono ?_
              rintro e v2 ⟨rfl, hB2⟩
              have hBn : Below v2.heap.size v2 ((v2.alloc (.cells (arr zero8) 22)).setRow v2.heap.size (arr p')) := below_setRow ((Below.refl _ v2).alloc (Nat.le_refl _) _) (Nat.le_refl _) _
              have HT2 := Lib.hid ((HT1.out.later hB2).later hBn)
              have HA2 := Lib.hid ((HA1.out.later hB2).later hBn)
              have HB2 := Lib.hid (Ascii.below3 HB1.out hB2 hBn)
              have HRa2 := Lib.hid ((HRa.out.later hB2).later hBn)
              have HRb := Lib.hid ((HZ.out v2).row p')
              clear hB2 hBn cShort HT1 HA1 HB1 HRa
              go_wp2_with ((with_reducible refine wp_store22 (o := ⟨none, .store 22 (.tmp 17) (.tmp 162), _, _, _, _⟩) ?_ (.tmp 17) (.tmp 162) ?_ v2.heap.size ?_ p' ?_ H8'.out zero8 ?_ (HZ.out _) ?_); (· rfl); (· rfl); (· rfl); (· rfl); (· rfl))
              refine (cMore.out _ HA2.out).mono ?_
              rintro e v3 ⟨rfl, hB3⟩
              have hBn : Below v3.heap.size v3 ((v3.alloc (.cells (arr zero8) 22)).setRow v3.heap.size (arr zero8)) := below_setRow ((Below.refl _ v3).alloc (Nat.le_refl _) _) (Nat.le_refl _) _
              have HT3 := Lib.hid ((HT2.out.later hB3).later hBn)
              have HB3 := Lib.hid (Ascii.below3 HB2.out hB3 hBn)
              have HRa3 := Lib.hid ((HRa2.out.later hB3).later hBn)
              have HRb3 := Lib.hid ((HRb.out.later hB3).later hBn)
              have HRa4 := Lib.hid (show RowAt ((v3.alloc (.cells #[.int .i64 0, .int .i64 0, .int .i64 0, .int .i64 0, .int .i64 0, .int .i64 0, .int .i64 0, .int .i64 0] 22)).setRow v3.heap.size (arr zero8)) v1.heap.size p' from HRa3.out)
              have HRb4 := Lib.hid (show RowAt ((v3.alloc (.cells #[.int .i64 0, .int .i64 0, .int .i64 0, .int .i64 0, .int .i64 0, .int .i64 0, .int .i64 0, .int .i64 0] 22)).setRow v3.heap.size (arr zero8)) v2.heap.size p' from HRb3.out)
              have HT4 := Lib.hid (show RowAt ((v3.alloc (.cells #[.int .i64 0, .int .i64 0, .int .i64 0, .int .i64 0, .int .i64 0, .int .i64 0, .int .i64 0, .int .i64 0] 22)).setRow v3.heap.size (arr zero8)) w.heap.size p' from HT3.out)
              have heq := fun u => eq22 p' p' H8'.out H8'.out true (by simp) u
              clear hB3 hBn cMore HT2 HA2 HB2 HRa2 HRb
              go_wp2_with (first
                | ((with_reducible refine wp_store22 (o := ⟨none, .store 22 (.tmp 19) (.tmp 168), _, _, _, _⟩) ?_ (.tmp 19) (.tmp 168) ?_ v3.heap.size ?_ zero8 ?_ ?_ zero8 ?_ (HZ.out _) ?_); (· rfl); (· rfl); (· rfl); (· rfl); (· rfl); (· rfl))
                | ((with_reducible refine wp_load22g (o := ⟨some 172, .load 22 (.tmp 15), _, _, _, _⟩) ?_ (.tmp 15) ?_ v1.heap.size ?_ p' H8'.out HRa4.out ?_); (· rfl); (· rfl); (· rfl))
                | ((with_reducible refine wp_load22g (o := ⟨some 173, .load 22 (.tmp 3), _, _, _, _⟩) ?_ (.tmp 3) ?_ w.heap.size ?_ p' H8'.out HT4.out ?_); (· rfl); (· rfl); (· rfl))
                | ((with_reducible refine wp_load22g (o := ⟨some 180, .load 22 (.tmp 17), _, _, _, _⟩) ?_ (.tmp 17) ?_ v2.heap.size ?_ p' H8'.out HRb4.out ?_); (· rfl); (· rfl); (· rfl))
                | ((with_reducible refine wp_load22g (o := ⟨some 181, .load 22 (.tmp 3), _, _, _, _⟩) ?_ (.tmp 3) ?_ w.heap.size ?_ p' H8'.out HT4.out ?_); (· rfl); (· rfl); (· rfl)))
              go_ret
              exact ⟨rfl, HB3.out⟩
theorem walk (p : List Int) (h8 : p.length = 8) (at_ n : Int) (w0 : ∀ z ∈ p, (Lit.int .i64 z).wf = true) (w1 : (Lit.int .i64 at_).wf = true) (w2 : (Lit.int .i64 n).wf = true) (m : Int) (w : World) (hm : At m w) :
    Calls Tryd.prog 7 #[.agg (arr p), .int .i64 at_, .int .i64 n] w fun e w' => e = .returned (.bool true) ∧ Below w.heap.size w w' := by
  have hb : n ≤ 9223372036854775807 := by
    simp [Lit.wf] at w2
    omega
  cases hp : mayP p
  · exact walkNot p h8 at_ n (.inl hp) m w hm
  · by_cases h1 : at_ < 0
    · exact walkNot p h8 at_ n (.inr ⟨hp, .inl (decide_eq_true h1)⟩) m w hm
    · by_cases h2 : n < 1
      · exact walkNot p h8 at_ n (.inr ⟨hp, .inr (.inl ⟨decide_eq_false h1, decide_eq_true h2⟩)⟩) m w hm
      · by_cases h3 : 8 - n < at_
        · exact walkNot p h8 at_ n (.inr ⟨hp, .inr (.inr ⟨decide_eq_false h1, decide_eq_false h2, decide_eq_true h3, by omega, hb⟩)⟩) m w hm
        · obtain ⟨a, rfl⟩ : ∃ a : Nat, at_ = (a : Int) := ⟨at_.toNat, by omega⟩
          obtain ⟨k, rfl⟩ : ∃ k : Nat, n = (k : Int) := ⟨n.toNat, by omega⟩
          exact walkIn p h8 a k (by omega) (by omega) hp m w hm

/-! ### The row's step -/
theorem reads (os : Os) {H : Type} (enc : TypeId × Value → H) : (DataW.whole enc Tryd.prog ((Card.laidWorld os).forCall (fun _ _ => 0) ⟨#[], #[.agg #[.int .i64 0, .int .i64 0, .int .i64 0, .int .i64 0, .int .i64 0, .int .i64 0, .int .i64 0, .int .i64 0], .int .i64 0, .int .i64 0], []⟩).memory Tryd.f7.params.toList Rows.sixZerosSpec.vars false (#[.agg #[.int .i64 0, .int .i64 0, .int .i64 0, .int .i64 0, .int .i64 0, .int .i64 0, .int .i64 0, .int .i64 0], .int .i64 0, .int .i64 0] : Array Value).toList 8).map (fun x => (x.1, x.2.1)) = some ([.agg [.lit (.int .i64 0), .lit (.int .i64 0), .lit (.int .i64 0), .lit (.int .i64 0), .lit (.int .i64 0), .lit (.int .i64 0), .lit (.int .i64 0), .lit (.int .i64 0)], .lit (.int .i64 0), .lit (.int .i64 0)], []) := by kernel_rfl
set_option maxRecDepth 100000 in
theorem lifted (os : Os) (started : os.Started) (H : Type) (enc : TypeId × Value → H) (F : Stop.Interp) :
    ReturnsInHanded {} Tryd.checked os 7 .any ((OpenSpec.ofChange Rows.sixZerosSpec).preRow enc Tryd.prog Tryd.f7 Rows.sixZerosRow.domain false Rows.sixZerosRow.laid) (((OpenSpec.ofChange Rows.sixZerosSpec).at F).post enc Tryd.prog Tryd.f7 false true false false) := by
  obtain ⟨⟨x1, x2, x3⟩, hx, hx1⟩ := Option.map_eq_some_iff.1 (reads os enc)
  simp only [Prod.mk.injEq] at hx1
  obtain ⟨rfl, rfl⟩ := hx1
  refine returnsInHanded_of_row (C := Tryd.checked) (s := OpenSpec.ofChange Rows.sixZerosSpec) own started (by kernel_rfl) Tryd.func7
    (witness_row_at (enc := enc) (C := Tryd.checked) false (Card.laidWorld os) #[.agg #[.int .i64 0, .int .i64 0, .int .i64 0, .int .i64 0, .int .i64 0, .int .i64 0, .int .i64 0, .int .i64 0], .int .i64 0, .int .i64 0] rfl (by kernel_rfl) (by kernel_rfl) (by kernel_rfl)
      (OpenSpec.preRow_of_cond 8 hx (by kernel_rfl) (fun k hk => by cases hk) (by kernel_rfl) (Card.laid_met os _))) ?_
  intro W base args ds gs before hval0 hW _ _ _ hL hsh _
  obtain ⟨m, hmax⟩ := Card.maxLen_int hsh
  have hm : At m W := ⟨hmax, tab_of hL⟩
  have hval : ∀ (j : Nat) t v, Tryd.f7.params[j]? = some t → args[j]? = some v → Value.okWide Tryd.prog W .any base t v := hval0
  have hW' := hW
  obtain ⟨p, q, hA0, hV, rfl, hfz, hnd⟩ := hW
  have hA : DataW.TrodAll enc Tryd.prog W 0 (fun _ => true) true Tryd.f7.params.toList args.toList ds p := hA0
  rw [Tryd.params7] at hA hval
  obtain ⟨v0, vs0, d0, ds0, p0, q0, hargs0, rfl, rfl, t0, r0⟩ := trodAll_cons hA
  obtain ⟨v1, vs1, d1, ds1, p1, q1, hargs1, rfl, rfl, t1, r1⟩ := trodAll_cons r0
  obtain ⟨v2, vs2, d2, ds2, p2, q2, hargs2, rfl, rfl, t2, r2⟩ := trodAll_cons r1
  obtain ⟨rfl, rfl, rfl⟩ := trodAll_nil r2
  obtain rfl : args = #[v0, v1, v2] := by cases args; simp_all
  obtain ⟨rfl, rfl⟩ := trodVars_none hV
  obtain ⟨a0, l0, rfl, rfl, rfl, w0⟩ := open_row8 (hval 0 22 v0 rfl rfl) t0
  obtain ⟨a1, rfl, rfl, rfl, w1⟩ := open_int Tryd.underlying3 (hval 1 3 v1 rfl rfl) t1
  obtain ⟨a2, rfl, rfl, rfl, w2⟩ := open_int Tryd.underlying3 (hval 2 3 v2 rfl rfl) t2
  clear hA0 hval0
  simp only [List.append_nil] at hW'
  refine (walk a0 l0 a1 a2 w0 w1 w2 m W hm).mono fun e W' ⟨he, hg⟩ => ?_
  subst he
  exact ⟨_, rfl, _, _, _, [], _, [], hW', trodAll_mk1 (shut_bool Tryd.underlying4 _), (trodAll_cons_mk (shut_row8 l0 w0) (trodAll_cons_mk (shut_int Tryd.underlying3 w1) (trodAll_cons_mk (shut_int Tryd.underlying3 w2) trodAll_mk0))), rfl, hg.frame _, fun h => by cases h⟩

theorem said : Rows.sixZerosRow.holds Tryd.pinned (OpenSpec.ofChange Rows.sixZerosSpec) :=
  OpenClaim.holds_of_cond 7 Tryd.f7 rfl rfl rfl rfl rfl rfl rfl ⟨rfl, rfl, rfl, rfl, rfl⟩ rfl rfl rfl rfl rfl (by kernel_rfl) Tryd.func7 (by kernel_rfl)
    (of_decide_eq_true (by kernel_rfl)) (by unfold Func.isWrapper; first | (rw [if_pos (by decide +kernel)]; kernel_rfl) | (rw [if_neg (by decide +kernel)]; exact ⟨rfl, rfl⟩))
    (fun os started H enc _ F => by rw [OpenClaim.pre_eq_preRow]; exact lifted os started H enc F)

/-- No parameter wants a stand-in; the program's own looks are off. -/
theorem plain (f : FuncId) (fn : Func) (hf : Tryd.pinned.checked.prog.funcNamed Rows.sixZerosRow.func = some f) (hfn : Tryd.pinned.checked.prog.funcs[f]? = some fn) :
    false = Tryd.pinned.checked.prog.looks [] ∧ ∀ (j : Nat) t, fn.params[j]? = some t → Tryd.pinned.checked.prog.wantsStandIn t = false := by
  obtain rfl : f = 7 := Option.some.inj ((show Tryd.prog.funcNamed Rows.sixZerosRow.func = some 7 by kernel_rfl).symm.trans hf) |>.symm
  obtain rfl : fn = Tryd.f7 := (Option.some.inj (Tryd.func7.symm.trans hfn)).symm
  refine ⟨by kernel_rfl, fun j t ht => ?_⟩
  rw [Tryd.params7] at ht
  obtain rfl | rfl : t = 22 ∨ t = 3 := by simpa using Array.mem_of_getElem? ht
  · exact (show Tryd.prog.wantsStandIn 22 = false by kernel_rfl)
  · exact (show Tryd.prog.wantsStandIn 3 = false by kernel_rfl)

/-- The statement: the card. -/
theorem proved : Rows.SixZerosCardSaid :=
  Claim7.holds_tied_plain_at .later [] _ _ _ _ said (fun _ h => by cases h) (by kernel_rfl) (fun _ h => by cases h) sixZeros_row_tie rfl ⟨rfl, rfl⟩ (by kernel_rfl) rfl plain (by kernel_rfl)
#print axioms proved
end Go.Proofs.YtgfhjigalefkmaaDoor.sixZeros

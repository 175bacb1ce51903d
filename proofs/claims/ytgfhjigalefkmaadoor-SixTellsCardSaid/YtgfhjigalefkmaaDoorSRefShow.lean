/-
  The document's Show of layer 6.
-/
import Derived.Test.YtgfhjigalefkmaaDoorSTells
namespace Go.Proofs.YtgfhjigalefkmaaDoor.Six
open Go.RowKit
set_option linter.unusedSimpArgs false
set_option linter.unusedVariables false
theorem texts_at (p : List Int) (k : Nat) (h : k < p.length) (h' : k < (texts p).length) : (texts p)[k] = hexN p[k].toNat := by simp [texts]
/-- What a round adds. -/
def Adds (ts : List (List UInt8)) (A N k : Nat) (hk : k < ts.length) (sb tk : ByteArray) : Prop :=
  (sb.toList.isEmpty = true ∧ (⟨(shortTo ts A N (k + 1)).toArray⟩ : ByteArray) = sb ++ tk) ∨ ((0 < sb.size ∧ sb.toList.isEmpty = false ∧ ∀ h : sb.size - 1 < sb.size, (((sb[sb.size - 1]'h).toNat : Int) != 58) = false) ∧ (⟨(shortTo ts A N (k + 1)).toArray⟩ : ByteArray) = sb ++ tk) ∨
  ((0 < sb.size ∧ sb.toList.isEmpty = false ∧ ∀ h : sb.size - 1 < sb.size, (((sb[sb.size - 1]'h).toNat : Int) != 58) = true) ∧ (⟨(shortTo ts A N (k + 1)).toArray⟩ : ByteArray) = sb ++ ⟨#[58]⟩ ++ tk)
theorem adds_of (ts : List (List UInt8)) (hT : Texts ts) (A N k : Nat) (hN : 1 ≤ N) (hk : k < ts.length) (h : k < A ∨ A + N ≤ k) (sb tk : ByteArray) (hsb : (⟨(shortTo ts A N k).toArray⟩ : ByteArray) = sb) (htk : (⟨ts[k].toArray⟩ : ByteArray) = tk) : Adds ts A N k hk sb tk := by
  have hsl : sb.data.toList = shortTo ts A N k := by rw [← hsb]
  rcases short_step ts hT A N k hN hk h with ⟨h3, h4⟩ | ⟨r, h3, h4⟩ | ⟨r, c, hc, h3, h4⟩
  · refine .inl ⟨?_, ?_⟩
    · rw [ByteArray.toList_eq, hsl, h3]; rfl
    · rw [h4, htk, ← hsb, h3]; apply ByteArray.ext; simp
  · obtain ⟨l1, l2, l3⟩ := last_of sb r 58 (hsl.trans h3)
    exact .inr (.inl ⟨⟨l1, l2, fun h => by rw [l3]; rfl⟩, by rw [h4, bytes_app, hsb, htk]⟩)
  · obtain ⟨l1, l2, l3⟩ := last_of sb r c (hsl.trans h3)
    refine .inr (.inr ⟨⟨l1, l2, fun h => ?_⟩, by rw [h4, show (58 :: ts[k]) = [58] ++ ts[k] from rfl, ← List.append_assoc, bytes_app, bytes_app, hsb, htk]⟩)
    rw [l3]
    have : c.toNat ≠ 58 := fun e => hc (UInt8.toNat_inj.1 e)
    simp; omega
set_option maxRecDepth 100000 in
set_option maxHeartbeats 8000000 in
theorem refShow_in (p : List Int) (h8 : p.length = 8) (mp : mayP p = true) (x : ByteArray) (hx : (⟨(showS p).toArray⟩ : ByteArray) = x) (w : World) : Calls Tryd.prog 17 #[.agg (arr p)] w fun e w' => e = .returned (.string x) ∧ Below w.heap.size w w' := by
  obtain ⟨r1, r2, r3, r4⟩ := run_fits p h8
  have hrun := fun u => refRun_any p h8 u
  obtain ⟨a, ha⟩ : ∃ a, (runP p).1 = a := ⟨_, rfl⟩
  obtain ⟨n, hn⟩ : ∃ n, (runP p).2 = n := ⟨_, rfl⟩
  rw [ha, hn] at hrun
  rw [ha, hn] at r1
  rw [hn] at r2
  obtain ⟨ts, hts⟩ : ∃ ts, texts p = ts := ⟨_, rfl⟩
  have HTs := Lib.hid (show ts.length = 8 by rw [← hts]; simp [texts, h8])
  have HOk := Lib.hid (show ts.all okP = true by rw [← hts]; exact texts_okP p mp)
  have HTx := Lib.hid (texts_ok ts HOk.out)
  have H4 := Lib.hid (show ∀ t ∈ ts, t.length ≤ 4 from fun t ht => ((okP_iff t).1 (List.all_eq_true.1 HOk.out t ht)).2.1)
  have HAt := Lib.hid (show ∀ k (h : k < p.length) (h' : k < ts.length), ts[k] = hexN p[k].toNat by subst hts; exact texts_at p)
  have hA : ∃ A N, 1 ≤ N ∧ (⟨(shortTo ts A N 8).toArray⟩ : ByteArray) = x ∧ ((n = 0 ∧ A = 8) ∨ (0 < n ∧ A = a ∧ N = n)) := by
    have hsh : showS p = showIn p := by unfold showS; rw [if_pos mp]
    by_cases h0 : n = 0
    · refine ⟨8, 1, by omega, ?_, .inl ⟨h0, rfl⟩⟩
      rw [short_whole ts HTs.out, ← hx, hsh]
      unfold showIn
      rw [hn, if_pos h0, hts]
    · refine ⟨a, n, by omega, ?_, .inr ⟨by omega, rfl, rfl⟩⟩
      rw [short_all ts HTs.out a n r1 (by omega), ← hx, hsh]
      unfold showIn
      rw [ha, hn, if_neg h0, hts]
  obtain ⟨A, N, hN, hAx, hAn⟩ := hA
  have HN := Lib.hid hN
  have HAx := Lib.hid hAx
  have HAn := Lib.hid hAn
  have HRun := Lib.hid hrun
  have H8 := Lib.hid h8
  have HP := Lib.hid mp
  have HB0 := Lib.hid (show Below w.heap.size w (w.alloc (.cells (arr p) 22)) from (Below.refl _ w).alloc (Nat.le_refl _) _)
  have HR0 := Lib.hid (RowAt.new w p)
  obtain ⟨q, hq⟩ : ∃ q, a + n = q := ⟨_, rfl⟩
  have esum : (a : Int) + (n : Int) = (q : Int) := by omega
  have HQ := Lib.hid (show a + n = q ∧ q ≤ 8 from ⟨hq, by omega⟩)
  have ba : a ≤ 8 := by omega
  have bn : n ≤ 8 := by omega
  clear h8 mp hx r1 r2 r3 r4 hrun ha hn hts hN hAx hAn hq
  go_enter Tryd.func17, Tryd.ntmps17
  go_wp2_with ((with_reducible refine wp_load22 (o := ⟨some 8, .load 22 (.tmp 1), _, _, _, _⟩) ?_ (.tmp 1) ?_ w.heap.size ?_ p H8.out HR0.out ?_); (· rfl); (· rfl); (· rfl))
  refine (refMay_any p H8.out true HP.out _).mono ?_
  rintro e u1 ⟨rfl, hB1⟩
  have HR1 := Lib.hid (HR0.out.later hB1)
  have HB1 := Lib.hid (Ascii.below2 HB0.out hB1)
  clear hB1 HR0 HB0
  go_wp2_with ((with_reducible refine wp_load22 (o := ⟨some 13, .load 22 (.tmp 1), _, _, _, _⟩) ?_ (.tmp 1) ?_ w.heap.size ?_ p H8.out HR1.out ?_); (· rfl); (· rfl); (· rfl))
  refine (HRun.out _).mono ?_
  rintro e U ⟨rfl, hB2⟩
  have HR2 := Lib.hid (HR1.out.later hB2)
  have HB2 := Lib.hid (Ascii.below2 HB1.out hB2)
  clear hB2 HR1 HB1 HRun
  go_wp2
  go_loopw [6, 7] (fun s i wr => ∃ k : Nat, k ≤ 8 ∧ i = .int .i64 k ∧ s = .string ⟨(shortTo ts A N k).toArray⟩ ∧ wr = U) (fun _ i _ => 8 - (intOf i).toNat)
  case atStart => exact ⟨0, Nat.zero_le _, rfl, by rw [short_zero], rfl⟩
  case round =>
    obtain ⟨k, hk, rfl, rfl, rfl⟩ := hrel
    by_cases hlt : k < 8
    · have t1 : (k : Int) < 8 := by omega
      have hkt : k < ts.length := by rw [HTs.out]; exact hlt
      have hkp : k < p.length := by have := H8.out; omega
      have hc := HR2.out.cell k hkp
      have hz := (may_iff p).1 HP.out p[k] (List.getElem_mem _)
      obtain ⟨z, hzz⟩ : ∃ z : Nat, p[k] = (z : Int) := ⟨p[k].toNat, by omega⟩
      have htz := HAt.out k hkp hkt
      rw [hzz] at hc hz htz
      rw [show ((z : Int)).toNat = z by omega] at htz
      obtain ⟨tk, htk⟩ : ∃ tk : ByteArray, (⟨ts[k].toArray⟩ : ByteArray) = tk := ⟨_, rfl⟩
      have cT := Lib.hid (fun u => refText_any z (by omega) tk (by rw [← htz]; exact htk) u)
      obtain ⟨sb, hsb⟩ : ∃ sb : ByteArray, (⟨(shortTo ts A N k).toArray⟩ : ByteArray) = sb := ⟨_, rfl⟩
      have z1 : tk.size ≤ 4 := by rw [← htk]; exact H4.out ts[k] (List.getElem_mem _)
      have z2 : sb.size ≤ 100 := by rw [← hsb]; exact short_len ts HTs.out H4.out A N k HN.out
      have hway : (decide (0 < n) = true ∧ ((k : Int) == (a : Int)) = true ∧ decide (a ≤ k) = true ∧ decide (k < q) = true ∧ Hid ((⟨(shortTo ts A N (k + 1)).toArray⟩ : ByteArray) = sb ++ ⟨#[58, 58]⟩)) ∨
          (decide (0 < n) = true ∧ ((k : Int) == (a : Int)) = false ∧ decide (a ≤ k) = true ∧ decide (k < q) = true ∧ Hid ((⟨(shortTo ts A N (k + 1)).toArray⟩ : ByteArray) = sb)) ∨
          ((decide (0 < n) = false ∨ (decide (0 < n) = true ∧ ((k : Int) == (a : Int)) = false ∧ decide (a ≤ k) = false) ∨ (decide (0 < n) = true ∧ ((k : Int) == (a : Int)) = false ∧ decide (a ≤ k) = true ∧ decide (k < q) = false)) ∧ Hid (Adds ts A N k hkt sb tk)) := by
        obtain ⟨q1, q2⟩ := HQ.out
        rcases HAn.out with ⟨n0, rfl⟩ | ⟨n0, rfl, rfl⟩
        · exact .inr (.inr ⟨.inl (decide_eq_false (by omega)), Lib.hid (adds_of ts HTx.out 8 N k HN.out hkt (.inl hlt) sb tk hsb htk)⟩)
        · have e0 : decide (0 < N) = true := decide_eq_true n0
          by_cases hka : k = A
          · refine .inl ⟨e0, by simp [hka], decide_eq_true (by omega), decide_eq_true (by omega), Lib.hid ?_⟩
            rw [← hsb, hka, short_at ts A N n0, bytes_app]
          · have hb : ((k : Int) == (A : Int)) = false := beq_false_of_ne (by omega)
            by_cases hin : A ≤ k ∧ k < q
            · refine .inr (.inl ⟨e0, hb, decide_eq_true hin.1, decide_eq_true hin.2, Lib.hid ?_⟩)
              rw [short_in ts A N k (by omega) (by omega), hsb]
            · refine .inr (.inr ⟨?_, Lib.hid (adds_of ts HTx.out A N k n0 hkt (by omega) sb tk hsb htk)⟩)
              by_cases h : A ≤ k
              · exact .inr (.inr ⟨e0, hb, decide_eq_true h, decide_eq_false (by omega)⟩)
              · exact .inr (.inl ⟨e0, hb, decide_eq_false h⟩)
      rw [hsb]
      clear hz hzz htz htk hsb
      rcases hway with ⟨e0, e1, e2, e3, HS⟩ | ⟨e0, e1, e2, e3, HS⟩ | ⟨hw3, HAd⟩
      · clear hkt hkp
        go_wp2
        go_roundw
        case rel => first | exact ⟨k + 1, by omega, by go_num, by rw [HS.out], by first | trivial | rfl⟩ | ((repeat apply Exists.intro); exact ⟨⟨k + 1, by omega, by go_num, by rw [HS.out], by first | trivial | rfl⟩, rfl⟩)
        case measure => simp [intOf]; omega
      · clear hkt hkp
        go_wp2
        go_roundw
        case rel => first | exact ⟨k + 1, by omega, by go_num, by rw [HS.out], by first | trivial | rfl⟩ | ((repeat apply Exists.intro); exact ⟨⟨k + 1, by omega, by go_num, by rw [HS.out], by first | trivial | rfl⟩, rfl⟩)
        case measure => simp [intOf]; omega
      · have had : (sb.toList.isEmpty = true ∧ Hid ((⟨(shortTo ts A N (k + 1)).toArray⟩ : ByteArray) = sb ++ tk)) ∨ ((0 < sb.size ∧ sb.toList.isEmpty = false ∧ ∀ h : sb.size - 1 < sb.size, (((sb[sb.size - 1]'h).toNat : Int) != 58) = false) ∧ Hid ((⟨(shortTo ts A N (k + 1)).toArray⟩ : ByteArray) = sb ++ tk)) ∨
            ((0 < sb.size ∧ sb.toList.isEmpty = false ∧ ∀ h : sb.size - 1 < sb.size, (((sb[sb.size - 1]'h).toNat : Int) != 58) = true) ∧ Hid ((⟨(shortTo ts A N (k + 1)).toArray⟩ : ByteArray) = sb ++ ⟨#[58]⟩ ++ tk)) := by
          rcases HAd.out with ⟨h1, h2⟩ | ⟨h1, h2⟩ | ⟨h1, h2⟩
          · exact .inl ⟨h1, Lib.hid h2⟩
          · exact .inr (.inl ⟨h1, Lib.hid h2⟩)
          · exact .inr (.inr ⟨h1, Lib.hid h2⟩)
        clear HAd hkt hkp
        rcases hw3 with e0 | ⟨e0, e1, e2⟩ | ⟨e0, e1, e2, e3⟩
        all_goals
          rcases had with ⟨m1, HS⟩ | ⟨⟨m1, m2, m3⟩, HS⟩ | ⟨⟨m1, m2, m3⟩, HS⟩
          all_goals
            go_wp2_with (go_at_call 25; refine (cT.out _).mono ?_; rintro e w' ⟨rfl, rfl⟩)
            go_roundw
            case rel => first | exact ⟨k + 1, by omega, by go_num, by rw [HS.out], by first | trivial | rfl⟩ | ((repeat apply Exists.intro); exact ⟨⟨k + 1, by omega, by go_num, by rw [HS.out], by first | trivial | rfl⟩, rfl⟩)
            case measure => simp [intOf]; omega
    · obtain rfl : k = 8 := by omega
      rw [HAx.out]
      go_wp2
      go_ret
      exact ⟨rfl, HB2.out⟩
/-- The document's Show, of any pieces. -/
theorem refShow_any (p : List Int) (h8 : p.length = 8) (x : ByteArray) (hx : (⟨(showS p).toArray⟩ : ByteArray) = x) (w : World) : Calls Tryd.prog 17 #[.agg (arr p)] w fun e w' => e = .returned (.string x) ∧ Below w.heap.size w w' := by
  cases hm : mayP p
  · have HX := Lib.hid (show (⟨#[]⟩ : ByteArray) = x by rw [← hx]; unfold showS; rw [hm]; rfl)
    have HP := Lib.hid hm
    have H8 := Lib.hid h8
    have HB0 := Lib.hid (show Below w.heap.size w (w.alloc (.cells (arr p) 22)) from (Below.refl _ w).alloc (Nat.le_refl _) _)
    have HR0 := Lib.hid (RowAt.new w p)
    clear hx hm h8
    go_enter Tryd.func17, Tryd.ntmps17
    go_wp2_with ((with_reducible refine wp_load22 (o := ⟨some 8, .load 22 (.tmp 1), _, _, _, _⟩) ?_ (.tmp 1) ?_ w.heap.size ?_ p H8.out HR0.out ?_); (· rfl); (· rfl); (· rfl))
    refine (refMay_any p H8.out false HP.out _).mono ?_
    rintro e u1 ⟨rfl, hB1⟩
    go_wp2
    go_ret
    exact ⟨congrArg (fun x => Ending.returned (Value.string x)) HX.out, Ascii.below2 HB0.out hB1⟩
  · exact refShow_in p h8 hm x hx w
end Go.Proofs.YtgfhjigalefkmaaDoor.Six

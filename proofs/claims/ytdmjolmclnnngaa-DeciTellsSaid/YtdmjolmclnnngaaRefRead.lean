/-
  The document's Read(s, most).
-/
import Derived.Test.YtdmjolmclnnngaaRefShow
namespace Go.Proofs.Ytdmjolmclnnngaa
open Go.RowKit
set_option linter.unusedSimpArgs false
set_option linter.unusedVariables false

theorem valF_low (a : Nat) (l : List UInt8) : a * 10 ^ l.length ≤ valF a l := by
  induction l generalizing a with
  | nil => simp [valF_nil]
  | cons c l ih =>
    rw [valF_cons]
    refine Nat.le_trans ?_ (ih _)
    rw [List.length_cons, Nat.pow_succ, Nat.mul_comm (10 ^ l.length) 10, ← Nat.mul_assoc]
    exact Nat.mul_le_mul_right _ (by omega)
theorem valF_less {a b : Nat} (h : a < b) (x y : List UInt8) (hx : x.all digB = true) (hl : x.length = y.length) : valF a x < valF b y := by
  have h1 := valF_lt a x hx
  have h2 := valF_low b y
  rw [← hl] at h2
  exact Nat.lt_of_lt_of_le h1 (Nat.le_trans (Nat.mul_le_mul_right _ h) h2)
/-- Of two texts of digits as long as one another the lesser one tells less. -/
theorem less_val (a : Nat) (x y : List UInt8) (hx : x.all digB = true) (hy : y.all digB = true) (hl : x.length = y.length) : Op.bytesLess x y = decide (valF a x < valF a y) := by
  induction x generalizing y a with
  | nil => cases y with
    | nil => simp [Op.bytesLess]
    | cons d y => simp at hl
  | cons c x ih => cases y with
    | nil => simp at hl
    | cons d y =>
      rw [List.all_cons, Bool.and_eq_true] at hx hy
      have hc := digB_iff.1 hx.1
      have hd := digB_iff.1 hy.1
      have hl' : x.length = y.length := by simpa using hl
      rw [Op.bytesLess, valF_cons, valF_cons]
      by_cases h1 : c < d
      · have h1' : c.toNat < d.toNat := by simpa [UInt8.lt_iff_toNat_lt] using h1
        have := valF_less (a := 10 * a + (c.toNat - 48)) (b := 10 * a + (d.toNat - 48)) (by omega) x y hx.2 hl'
        simp [h1, this]
      · by_cases h2 : c = d
        · subst h2
          simp [ih (10 * a + (c.toNat - 48)) y hx.2 hy.2 hl']
        · have h1' : ¬ c.toNat < d.toNat := by simpa [UInt8.lt_iff_toNat_lt] using h1
          have h2' : c.toNat ≠ d.toNat := fun e => h2 (UInt8.toNat_inj.1 e)
          have := valF_less (a := 10 * a + (d.toNat - 48)) (b := 10 * a + (c.toNat - 48)) (by omega) y x hy.2 hl'.symm
          have e := decide_eq_false (show ¬ valF (10 * a + (c.toNat - 48)) x < valF (10 * a + (d.toNat - 48)) y by omega)
          rw [e]
          simp [h1, h2]

/-- Digits without zeros ahead are what is shown. -/
theorem bare_shown (l : List UInt8) (hne : l ≠ []) (h : l.all digB = true) (hb : l.length ≤ 1 ∨ ∃ c r, l = c :: r ∧ c ≠ 48) : l = showN (valN l) := by
  obtain ⟨k, hk⟩ := showN_valN l hne h
  cases k with
  | zero => simpa using hk
  | succ k =>
    have hp := showN_pos (valN l)
    rcases hb with hb | ⟨c, r, e, hc⟩
    · rw [hk, List.length_append, List.length_replicate] at hb
      omega
    · rw [List.replicate_succ, List.cons_append] at hk
      rw [e] at hk
      exact absurd (List.cons.inj hk).1 hc
theorem shown_len {V M : Nat} (h : (showN V).length < (showN M).length) : V < M := by
  rcases Nat.lt_or_ge V M with h' | h'
  · exact h'
  · have := showN_len_mono h'
    omega

theorem valN_split (l : List UInt8) (k : Nat) : valN l = valF (valN (l.take k)) (l.drop k) := by
  unfold valN
  rw [← valF_append, List.take_append_drop]
theorem valN_take_le (l : List UInt8) (k : Nat) : valN (l.take k) ≤ valN l := by
  rw [valN_split l k]
  exact valF_ge _ _
theorem text_take (s : ByteArray) (k : Nat) (h : k < s.size) : s.data.toList.take (k + 1) = s.data.toList.take k ++ [s[k]] := by
  rw [List.take_succ_eq_append_getElem (by simpa using h)]; rfl
theorem text_all (s : ByteArray) : s.data.toList.take s.size = s.data.toList := List.take_of_length_le (by exact Nat.le_refl _)
theorem text_mem (s : ByteArray) (k : Nat) (h : k < s.size) : s[k] ∈ s.data.toList := List.getElem_mem (l := s.data.toList) (n := k) h

/-- The ways in which a text of digits without zeros ahead is not above another one, and is. -/
theorem cmp_le (c lb : ByteArray) (V M : Nat) (hc : c.data.toList = showN V) (hl : lb.data.toList = showN M) (h : V ≤ M) :
    decide (lb.size < c.size) = false ∧ (((c.size : Int) == (lb.size : Int)) = false ∨ (((c.size : Int) == (lb.size : Int)) = true ∧ Op.bytesLess c.toList lb.toList = true ∧ (c.toList == lb.toList) = false) ∨
      (((c.size : Int) == (lb.size : Int)) = true ∧ Op.bytesLess c.toList lb.toList = false ∧ (c.toList == lb.toList) = true)) := by
  have h1 : c.size = (showN V).length := by rw [← hc]; rfl
  have h2 : lb.size = (showN M).length := by rw [← hl]; rfl
  have hm := showN_len_mono h
  refine ⟨by simp; omega, ?_⟩
  by_cases e : c.size = lb.size
  · have e' : ((c.size : Int) == (lb.size : Int)) = true := by rw [e]; simp
    have hless := less_val 0 _ _ (showN_all V) (showN_all M) (by omega)
    have hv : decide (valF 0 (showN V) < valF 0 (showN M)) = decide (V < M) := by
      show decide (valN (showN V) < valN (showN M)) = _
      rw [valN_showN, valN_showN]
    rw [hv] at hless
    rw [ByteArray.toList_eq, ByteArray.toList_eq, hc, hl, hless]
    rcases Nat.lt_or_ge V M with h' | h'
    · refine .inr (.inl ⟨e', by simpa using h', ?_⟩)
      rw [beq_eq_false_iff_ne]
      intro e
      have := showN_inj e
      omega
    · obtain rfl : V = M := by omega
      exact .inr (.inr ⟨e', by simp, by simp⟩)
  · refine .inl ?_
    rw [beq_eq_false_iff_ne]
    omega
theorem cmp_gt (c lb : ByteArray) (V M : Nat) (hc : c.data.toList = showN V) (hl : lb.data.toList = showN M) (h : M < V) :
    (decide (lb.size < c.size) = true) ∨ (decide (lb.size < c.size) = false ∧ ((c.size : Int) == (lb.size : Int)) = true ∧ Op.bytesLess c.toList lb.toList = false ∧ (c.toList == lb.toList) = false) := by
  have h1 : c.size = (showN V).length := by rw [← hc]; rfl
  have h2 : lb.size = (showN M).length := by rw [← hl]; rfl
  have hm := showN_len_mono (Nat.le_of_lt h)
  by_cases e : c.size = lb.size
  · refine .inr ⟨by simp; omega, by rw [e]; simp, ?_⟩
    have hless := less_val 0 _ _ (showN_all V) (showN_all M) (by omega)
    have hv : decide (valF 0 (showN V) < valF 0 (showN M)) = decide (V < M) := by
      show decide (valN (showN V) < valN (showN M)) = _
      rw [valN_showN, valN_showN]
    rw [hv] at hless
    rw [ByteArray.toList_eq, ByteArray.toList_eq, hc, hl, hless]
    refine ⟨by simp; omega, ?_⟩
    rw [beq_eq_false_iff_ne]
    intro e
    have := showN_inj e
    omega
  · exact .inl (by simp; omega)

def sizeOf (v : Value) : Nat := match v with
  | .string c => c.size
  | _ => 0

theorem digit_sub (c : UInt8) (a : Nat) (h : digB c = true) : 10 * (a : Int) + (c.toNat : Int) - 48 = ((10 * a + (c.toNat - 48) : Nat) : Int) := by
  have := digB_iff.1 h
  omega
theorem wrap_sub (x : Int) (h0 : 0 ≤ x - 48) (h1 : x - 48 ≤ 9223372036854775807) : wrap64 (wrap64 x - 48) = x - 48 := by
  unfold wrap64
  omega

set_option maxRecDepth 100000 in
set_option maxHeartbeats 4000000 in
theorem refRead_plain (s : ByteArray) (hs : s.size ≤ maxLen) (most : Int) (m0 : 0 ≤ most) (m1 : most ≤ 9223372036854775807) (hp : Hid (plainB s.data.toList = true)) (w : World) :
    Calls Try.prog 11 #[.string s, .int .i64 most] w fun e W' => e = .returned (.tuple #[.int .i64 (readI s.data.toList most), .bool (readB s.data.toList most)]) ∧ Below w.heap.size w W' := by
  unfold maxLen at hs
  have g0 : decide (most < 0) = false := by simp; omega
  obtain ⟨lb, hlb⟩ : ∃ lb, (⟨(showI most).toArray⟩ : ByteArray) = lb := ⟨_, rfl⟩
  have HLB := Lib.hid hlb
  clear hlb
  go_enter Try.func11, Try.ntmps11
  go_wp2_with (go_at_call 12; refine (refPlain_any s (by unfold maxLen; omega) _).mono ?_; rintro e w' ⟨rfl, rfl⟩; rw [hp.out])
  go_loop [0] (fun v => ∃ c : ByteArray, v = .string c ∧ c.size ≤ s.size ∧ 0 < c.size ∧ Hid (c.data.toList.all digB = true) ∧ Hid (valN c.data.toList = valN s.data.toList)) (fun v => sizeOf v)
  case atStart =>
    have h0 := (plain_iff _).1 hp.out
    have hz : 0 < s.size := by
      rcases Nat.eq_zero_or_pos s.size with h | h
      · exact absurd ((text_nil s).2 h) h0.1
      · exact h
    exact ⟨s, rfl, Nat.le_refl _, hz, Lib.hid h0.2, Lib.hid rfl⟩
  case round =>
    obtain ⟨c, rfl, hcs, hc0, hall, hval⟩ := hrel
    by_cases h1 : 1 < c.size ∧ c[0] = 48
    · obtain ⟨h2, h3⟩ := h1
      have g1 : decide ((1 : Int) < c.size) = true := by simp; omega
      have g2 : ((c[0].toNat : Int) == 48) = true := by rw [h3]; rfl
      have hcons := first_cons c hc0
      have hall2 := Lib.hid (show (c.extract 1 c.size).data.toList.all digB = true by have := hall.out; rw [hcons, List.all_cons, Bool.and_eq_true] at this; exact this.2)
      have hval2 := Lib.hid (show valN (c.extract 1 c.size).data.toList = valN s.data.toList by rw [← hval.out, hcons, h3]; unfold valN; rw [valF_cons]; rfl)
      clear hcons h3
      go_wp2
      go_round
      case rel => exact ⟨_, rfl, by simp; omega, by simp; omega, hall2, hval2⟩
      case measure => simp [sizeOf]; omega
    · have hbare := bare_shown c.data.toList (fun h => by have := (text_nil c).1 h; omega) hall.out (by
        by_cases h2 : 1 < c.size
        · refine .inr ⟨c[0], _, first_cons c hc0, fun h => h1 ⟨h2, h⟩⟩
        · refine .inl ?_
          show c.size ≤ 1
          omega)
      rw [hval.out] at hbare
      have hw : (decide ((1 : Int) < c.size) = false) ∨ (decide ((1 : Int) < c.size) = true ∧ ((c[0].toNat : Int) == 48) = false) := by
        by_cases h2 : 1 < c.size
        · refine .inr ⟨by simp; omega, ?_⟩
          have : c[0] ≠ 48 := fun h => h1 ⟨h2, h⟩
          rw [beq_eq_false_iff_ne]
          intro e
          exact this (UInt8.toNat_inj.1 (by show _ = 48; omega))
        · exact .inl (by simp; omega)
      clear h1
      have hbl : lb.data.toList = showN most.toNat := by rw [← HLB.out]; exact showI_nonneg m0
      have hlz : lb.size ≤ 19 := by
        have : lb.data.toList.length = lb.size := rfl
        rw [hbl] at this
        have := showN_len most.toNat (by omega)
        omega
      by_cases hle : valN s.data.toList ≤ most.toNat
      · have hcmp := cmp_le c lb _ _ hbare hbl hle
        have hr := Lib.hid (read_yes _ most hp.out _ rfl (by omega))
        have HV := Lib.hid hle
        clear hbare hbl hle
        rcases hw with g1 | ⟨g1, g2⟩
        all_goals rcases hcmp with ⟨k1, k2 | ⟨k2, k3, k4⟩ | ⟨k2, k3, k4⟩⟩
        all_goals
          go_wp2_with fail
          refine (refShow_calls most (by omega) m1 _).mono ?_
          rintro e u1 ⟨rfl, hB1⟩
          rw [HLB.out]
          go_wp2
          go_loop [8, 9] (fun v i => ∃ k : Nat, i = .int .i64 k ∧ k ≤ c.size ∧ v = .int .i64 ((valN (c.data.toList.take k) : Nat) : Int)) (fun _ i => c.size - (intOf i).toNat)
          case atStart => exact ⟨0, rfl, Nat.zero_le _, rfl⟩
          case round =>
            obtain ⟨k, rfl, hk, rfl⟩ := hrel
            obtain ⟨a, ha⟩ : ∃ a, a = valN (c.data.toList.take k) := ⟨_, rfl⟩
            have hav : a ≤ 9223372036854775807 := by
              have h1 := valN_take_le c.data.toList k
              have h2 := hval.out
              have h3 := HV.out
              omega
            rw [← ha]
            by_cases hlt : k < c.size
            · have p0 : decide ((k : Int) < c.size) = true := by simpa using hlt
              have hd : digB c[k] = true := List.all_eq_true.1 hall.out _ (text_mem c k hlt)
              have hsn : valN (c.data.toList.take (k + 1)) = 10 * a + (c[k].toNat - 48) := by rw [text_take c k hlt, valN_snoc, ← ha]
              have hnb : 10 * a + (c[k].toNat - 48) ≤ 9223372036854775807 := by
                have h1 := valN_take_le c.data.toList (k + 1)
                have h2 := hval.out
                have h3 := HV.out
                omega
              have hdd := digB_iff.1 hd
              have hstep := Lib.hid (show wrap64 (wrap64 (10 * (a : Int) + wrap64 (c[k].toNat : Int)) - 48) = ((10 * a + (c[k].toNat - 48) : Nat) : Int) by
                rw [show wrap64 (c[k].toNat : Int) = (c[k].toNat : Int) by unfold wrap64; omega, wrap_sub _ (by omega) (by omega), digit_sub _ _ hd])
              have ha10 : 10 * a ≤ 9223372036854775807 := by omega
              have HSN := Lib.hid hsn
              have HA := Lib.hid ha
              clear hsn ha hnb hdd
              go_wp2
              go_round
              case rel =>
                refine ⟨k + 1, by go_num, by omega, ?_⟩
                rw [HSN.out, ← hstep.out]
              case measure => simp [intOf]; omega
            · obtain rfl : k = c.size := by omega
              have hfin := Lib.hid (show ((a : Nat) : Int) = readI s.data.toList most by rw [hr.out.2, ha, text_all, hval.out])
              clear ha
              go_wp2
              go_ret2
              exact ⟨by rw [hr.out.1, ← hfin.out]; rfl, hB1⟩
      · have hcmp := cmp_gt c lb _ _ hbare hbl (by omega)
        have hr := Lib.hid (read_no _ most hp.out _ (Nat.le_refl _) (by omega))
        clear hbare hbl hle
        rcases hw with g1 | ⟨g1, g2⟩
        all_goals rcases hcmp with k1 | ⟨k1, k2, k3, k4⟩
        all_goals
          go_wp2_with fail
          refine (refShow_calls most (by omega) m1 _).mono ?_
          rintro e u1 ⟨rfl, hB1⟩
          rw [HLB.out]
          go_wp2
          go_ret2
          exact ⟨by rw [hr.out.1, hr.out.2]; rfl, hB1⟩

set_option maxHeartbeats 1000000 in
theorem refRead_calls (s : ByteArray) (hs : s.size ≤ maxLen) (most : Int) (m1 : most ≤ 9223372036854775807) (w : World) :
    Calls Try.prog 11 #[.string s, .int .i64 most] w fun e W' => e = .returned (.tuple #[.int .i64 (readI s.data.toList most), .bool (readB s.data.toList most)]) ∧ Below w.heap.size w W' := by
  cases hp : plainB s.data.toList
  · have hno := Lib.hid (read_notplain _ most hp)
    have HP := Lib.hid hp
    clear hp
    go_enter Try.func11, Try.ntmps11
    go_wp2_with (go_at_call 12; refine (refPlain_any s hs _).mono ?_; rintro e w' ⟨rfl, rfl⟩; rw [HP.out])
    go_ret2
    exact ⟨by rw [hno.out.1, hno.out.2]; rfl, Below.refl _ _⟩
  · by_cases m0 : most < 0
    · have hno := Lib.hid (read_no _ most hp 0 (Nat.zero_le _) (by omega))
      have HP := Lib.hid hp
      have g0 : decide (most < 0) = true := by simpa using m0
      clear hp
      go_enter Try.func11, Try.ntmps11
      go_wp2_with (go_at_call 12; refine (refPlain_any s hs _).mono ?_; rintro e w' ⟨rfl, rfl⟩; rw [HP.out])
      go_ret2
      exact ⟨by rw [hno.out.1, hno.out.2]; rfl, Below.refl _ _⟩
    · exact refRead_plain s hs most (by omega) m1 (Lib.hid hp) w

end Go.Proofs.Ytdmjolmclnnngaa

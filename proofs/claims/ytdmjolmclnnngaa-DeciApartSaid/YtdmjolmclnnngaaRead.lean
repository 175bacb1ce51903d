/-
  Read(s, most): the number that plain digits tell, up to most.
-/
import Derived.Test.YtdmjolmclnnngaaSmall
import Derived.Test.YtdmjolmclnnngaaGoto
namespace Go.Proofs.Ytdmjolmclnnngaa
open Go.RowKit
set_option linter.unusedSimpArgs false
set_option linter.unusedVariables false

def boxS (B : Nat) (w : World) : Nat := match w.cell? ⟨B, 0, none⟩ with
  | some (.string s) => s.size
  | _ => 0
theorem boxS_of {B : Nat} {w : World} {s : ByteArray} (h : Boxed w B 9 (.string s)) : boxS B w = s.size := by
  unfold boxS
  rw [h.cell]

/-- What holds at the label. -/
def ReadAt (s : ByteArray) (most : Int) (B : Nat) (w0 : World) (a : Act) (w : World) : Prop :=
  ∃ (r : ByteArray) (acc : Nat) (u9 u15 u16 u17 u18 u19 u20 u21 u22 u23 u24 u25 u26 u27 : Value),
    a = { tmps := #[.string s, .int .i64 most, undef, undef, .int .i64 0, .bool false, .int .i64 (acc : Int), .pointer (some ⟨B, 0, none⟩), .func (.func 16) #[] #[.pointer (some ⟨B, 0, none⟩)], u9, .string s, .bool true, .bool false, .string s, .func (.func 16) #[] #[.pointer (some ⟨B, 0, none⟩)], u15, u16, u17, u18, u19, u20, u21, u22, u23, u24, u25, u26, u27, undef], defers := [] } ∧
    Boxed w B 9 (.string r) ∧ 0 < r.size ∧ r.size ≤ maxLen ∧ acc ≤ 9223372036854775807 ∧ Hid (r.data.toList.all digB = true) ∧ Hid (valN s.data.toList = valF acc r.data.toList) ∧ Below w0.heap.size w0 w

theorem first_cons (r : ByteArray) (h : 0 < r.size) : r.data.toList = r[0] :: (r.extract 1 r.size).data.toList := by
  have e : r.data.toList = r[0] :: r.data.toList.drop 1 := List.drop_eq_getElem_cons (l := r.data.toList) (i := 0) h
  have e2 : (r.extract 1 r.size).data.toList = r.data.toList.drop 1 := by
    rw [ByteArray.data_extract, Array.toList_extract, List.extract_eq_take_drop, List.take_of_length_le]
    rw [List.length_drop]
    exact Nat.le_refl _
  rw [e2]
  exact e

theorem takeFirst_at (r q : ByteArray) (d : Nat) (h0 : 0 < r.size) (hs : r.size ≤ maxLen) (hq : q = r.extract 1 r.size) (hd : digB r[0] = true) (hdv : d = r[0].toNat - 48) (B : Nat) (w : World) (hB : Boxed w B 9 (.string r)) :
    Calls Try.prog 16 #[.pointer (some ⟨B, 0, none⟩)] w fun e w' => e = .returned (.int .i64 (d : Int)) ∧ w.setCell ⟨B, 0, none⟩ (.string q) = w' := by
  subst hq; subst hdv
  exact takeFirst_any r h0 hs hd B w hB

theorem isEmpty_iff (q : ByteArray) : q.toList.isEmpty = decide (q.size = 0) := by
  rw [ByteArray.toList_eq]
  have h : q.data.toList.length = q.size := rfl
  cases hl : q.data.toList with
  | nil => rw [hl] at h; simp at h; simp [← h]
  | cons a r => rw [hl] at h; simp at h; simp [← h]

theorem read_no (l : List UInt8) (most : Int) (hp : plainB l = true) (x : Nat) (hx : x ≤ valN l) (h : most < x) : readB l most = false ∧ readI l most = 0 := by
  have : readB l most = false := by unfold readB; rw [hp]; simp; omega
  exact ⟨this, by unfold readI; rw [this]; rfl⟩
theorem read_yes (l : List UInt8) (most : Int) (hp : plainB l = true) (x : Nat) (hx : valN l = x) (h : (x : Int) ≤ most) : readB l most = true ∧ readI l most = x := by
  have : readB l most = true := by unfold readB; rw [hp, hx]; simpa using h
  exact ⟨this, by unfold readI; rw [this, if_pos rfl, hx]⟩
theorem read_notplain (l : List UInt8) (most : Int) (hp : plainB l = false) : readB l most = false ∧ readI l most = 0 := by
  have : readB l most = false := by unfold readB; rw [hp]; rfl
  exact ⟨this, by unfold readI; rw [this]; rfl⟩

set_option maxHeartbeats 4000000 in
set_option maxRecDepth 100000 in
theorem read_calls (s : ByteArray) (hs : s.size ≤ maxLen) (most : Int) (m1 : most ≤ 9223372036854775807) (w : World) :
    Calls Try.prog 10 #[.string s, .int .i64 most] w fun e W' => e = .returned (.tuple #[.int .i64 (readI s.data.toList most), .bool (readB s.data.toList most)]) ∧ Below w.heap.size w W' := by
  cases hp : plainB s.data.toList
  · have hno := Lib.hid (read_notplain _ most hp)
    go_enter Try.func10, Try.ntmps10
    go_wp2
    go_step3
    go_wp2_with (go_at_call 15; refine (plain_any s hs _).mono ?_; rintro e w' ⟨rfl, rfl⟩)
    rw [Exit.noGoto_ret]
    go_ret2
    exact ⟨by rw [hno.out.1, hno.out.2]; rfl, Below.refl _ _⟩
  · have HP := Lib.hid hp
    go_enter Try.func10, Try.ntmps10
    go_wp2
    refine wp_scope_label 0 (ReadAt s most w.heap.size w) (fun _ w' => boxS w.heap.size w') rfl ?_ ?_
    · rintro a W ⟨r, acc, u9, u15, u16, u17, u18, u19, u20, u21, u22, u23, u24, u25, u26, u27, rfl, hbox, hr0, hrs, hacc, hall, hval, hB⟩
      obtain ⟨q, hq⟩ : ∃ q, q = r.extract 1 r.size := ⟨_, rfl⟩
      obtain ⟨d, hd⟩ : ∃ d, d = r[0].toNat - 48 := ⟨_, rfl⟩
      have hcons := first_cons r hr0
      rw [← hq] at hcons
      have hdig : digB r[0] = true ∧ q.data.toList.all digB = true := by
        have := hall.out
        rw [hcons] at this
        simpa using this
      have hval2 := hval.out
      rw [hcons, valF_cons, ← hd] at hval2
      have hd9 : d ≤ 9 := by have := digB_iff.1 hdig.1; omega
      have hqs : q.size < r.size := by rw [hq]; simp; omega
      obtain ⟨acc', hacc'⟩ : ∃ x, x = 10 * acc + d := ⟨_, rfl⟩
      rw [← hacc'] at hval2
      have hge := valF_ge acc' q.data.toList
      rw [← hval2] at hge
      obtain ⟨W1, hW1⟩ : ∃ W1, W1 = W.setCell ⟨w.heap.size, 0, none⟩ (.string q) := ⟨_, rfl⟩
      have hbox1 : Boxed W1 w.heap.size 9 (.string q) := by rw [hW1]; exact hbox.set _
      have hc1 := hbox1.cell
      have hB1 : Below w.heap.size w W1 := by rw [hW1]; exact hB.setCell (p := ⟨w.heap.size, 0, none⟩) (Nat.le_refl _) (.string q)
      have hμ := Lib.hid (boxS_of hbox)
      have HQ := Lib.hid hq
      have HD := Lib.hid hd
      have HBOX := Lib.hid hbox
      have HW1 := Lib.hid hW1
      have HDIG := Lib.hid hdig
      have HV := Lib.hid hval2
      have hdec : decide (10 * (acc : Int) + d ≤ most) = decide ((acc' : Int) ≤ most) := by rw [hacc']; simp
      have hsum : (acc : Int) * 10 + d = acc' := by omega
      by_cases hf : (acc' : Int) ≤ most
      · have f1 : decide (10 * (acc : Int) + d ≤ most) = true := by rw [hdec]; simpa using hf
        have hb10 : (acc : Int) * 10 ≤ 9223372036854775807 := by omega
        cases he : q.toList.isEmpty
        · clear hq hd hbox hW1 hdig hval2 hcons hdec hacc' hge hB
          go_wp2_with (first | (go_at_call 16; refine (takeFirst_at r q d hr0 hrs HQ.out HDIG.out.1 HD.out _ _ HBOX.out).mono ?_; rintro e w' ⟨rfl, hw'⟩; obtain rfl := HW1.out.trans hw') | (go_at_call 17; refine (fits_any _ _ _ (by omega) (by omega) (by omega) m1 _).mono ?_; rintro e w' ⟨rfl, rfl⟩))
          go_step3
          have hq0 : 0 < q.size := by
            rcases Nat.eq_zero_or_pos q.size with h | h
            · rw [isEmpty_iff, h] at he; cases he
            · exact h
          refine ⟨rfl, ⟨q, acc', _, _, _, _, _, _, _, _, _, _, _, _, _, _, rfl, hbox1, hq0, by omega, by omega, Lib.hid HDIG.out.2, HV, hB1⟩, ?_⟩
          rw [boxS_of hbox1, hμ.out]
          exact hqs
        · clear hq hd hbox hW1 hdig hval2 hcons hdec hacc' hge hB
          go_wp2_with (first | (go_at_call 16; refine (takeFirst_at r q d hr0 hrs HQ.out HDIG.out.1 HD.out _ _ HBOX.out).mono ?_; rintro e w' ⟨rfl, hw'⟩; obtain rfl := HW1.out.trans hw') | (go_at_call 17; refine (fits_any _ _ _ (by omega) (by omega) (by omega) m1 _).mono ?_; rintro e w' ⟨rfl, rfl⟩))
          have hq0 : q.data.toList = [] := by rw [ByteArray.toList_eq] at he; simpa using he
          have hyes := read_yes _ most HP.out acc' (by rw [HV.out, hq0, valF_nil]) hf
          simp only [Exit.jump]
          go_ret2
          exact ⟨by rw [hyes.1, hyes.2]; rfl, hB1⟩
      · have f1 : decide (10 * (acc : Int) + d ≤ most) = false := by rw [hdec]; simpa using hf
        have hno := Lib.hid (read_no _ most HP.out acc' hge (by omega))
        clear hq hd hbox hW1 hdig hval2 hcons hdec hacc' hge hB hsum
        go_wp2_with (first | (go_at_call 16; refine (takeFirst_at r q d hr0 hrs HQ.out HDIG.out.1 HD.out _ _ HBOX.out).mono ?_; rintro e w' ⟨rfl, hw'⟩; obtain rfl := HW1.out.trans hw') | (go_at_call 17; refine (fits_any _ _ _ (by omega) (by omega) (by omega) m1 _).mono ?_; rintro e w' ⟨rfl, rfl⟩))
        simp only [Exit.jump]
        go_ret2
        exact ⟨by rw [hno.out.1, hno.out.2]; rfl, hB1⟩
    · intro hpass
      go_wp2_with (go_at_call 15; refine (plain_any s hs _).mono ?_; rintro e w' ⟨rfl, rfl⟩)
      go_step3
      rename_i K hK
      have h0 : 0 < s.size ∧ s.data.toList.all digB = true := by
        have := HP.out
        unfold plainB at this
        have hl : s.data.toList.length = s.size := rfl
        cases he : s.data.toList with
        | nil => rw [he] at this; cases this
        | cons a r =>
          rw [he] at this hl
          simp at this hl
          refine ⟨by omega, by simpa using this⟩
      refine hK _ _ (hpass _ _ ⟨s, 0, _, _, _, _, _, _, _, _, _, _, _, _, _, _, rfl, Boxed.new w 9 (.string s), h0.1, hs, by omega, Lib.hid h0.2, Lib.hid rfl, (Below.refl _ w).alloc (Nat.le_refl _) _⟩)

end Go.Proofs.Ytdmjolmclnnngaa

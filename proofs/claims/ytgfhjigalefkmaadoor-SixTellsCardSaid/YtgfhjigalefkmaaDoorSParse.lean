/-
  Parse(s).
-/
import Derived.Test.YtgfhjigalefkmaaDoorSPieces
import Derived.Test.YtgfhjigalefkmaaDoorSShow
namespace Go.Proofs.YtgfhjigalefkmaaDoor.Six
open Go.RowKit
set_option linter.unusedSimpArgs false
set_option linter.unusedVariables false

theorem fit_any (n : Nat) (b : Bool) (x : Bool) (hx : fitB n b = x) (z : Int) (hz : z = (n : Int)) (w : World) : Calls Tryd.prog 20 #[.int .i64 z, .bool b] w fun e w' => e = .returned (.bool x) ∧ w = w' := by
  subst hz; subst hx
  cases b
  · by_cases h : n = 8
    · have t : ((n : Int) == 8) = true := by rw [beq_iff_eq]; omega
      go_enter Tryd.func20, Tryd.ntmps20
      go_wp2
      go_ret
      exact ⟨by simp [fitB, h], rfl⟩
    · have t : ((n : Int) == 8) = false := beq_false_of_ne (by omega)
      go_enter Tryd.func20, Tryd.ntmps20
      go_wp2
      go_ret
      exact ⟨by simp [fitB, h], rfl⟩
  · by_cases h : n < 8
    · have t : decide ((n : Int) < 8) = true := decide_eq_true (by omega)
      go_enter Tryd.func20, Tryd.ntmps20
      go_wp2
      go_ret
      exact ⟨by simp [fitB, h], rfl⟩
    · have t : decide ((n : Int) < 8) = false := decide_eq_false (by omega)
      go_enter Tryd.func20, Tryd.ntmps20
      go_wp2
      go_ret
      exact ⟨by simp [fitB, h], rfl⟩
theorem drewN_below (w : World) (n : Nat) : Below w.heap.size w (w.drewN n) := by
  induction n with
  | zero => exact Below.refl _ _
  | succ n ih => exact ih.drew
theorem cut_at (s : ByteArray) (hs : s.size ≤ 1000000) (a b : ByteArray) (c : Bool) (ha : (⟨(cutL s.data.toList).1.toArray⟩ : ByteArray) = a) (hb : (⟨(cutL s.data.toList).2.1.toArray⟩ : ByteArray) = b) (hc : (cutL s.data.toList).2.2 = c) (m : Int) (w : World) (hm : At m w) :
    Calls Tryd.prog 18 #[.string s, .string ⟨#[58, 58]⟩] w fun e w' => e = .returned (.tuple #[.string a, .string b, .bool c]) ∧ Below w.heap.size w w' := by
  subst ha; subst hb; subst hc
  refine (Tryd.strings_Cut s ⟨#[58, 58]⟩ m w (by omega) hm.max).mono fun e w' h => ?_
  obtain ⟨h1, n, rfl⟩ := h
  rw [show (⟨#[58, 58]⟩ : ByteArray).data.toList = [58, 58] from rfl, cut_lib] at h1
  exact ⟨h1, drewN_below w n⟩
theorem cut_size (l : List UInt8) : (cutL l).1.length ≤ l.length ∧ (cutL l).2.1.length ≤ l.length := by
  rcases cutL_spec l with ⟨_, h⟩ | ⟨_, h1, h2⟩
  · have := congrArg List.length h
    simp at this
    omega
  · rw [h1, h2]; simp
theorem valK_len (l : List UInt8) : (valK l).length ≤ 9 := by
  unfold valK
  split
  · rename_i h
    unfold okK at h
    rw [Bool.and_eq_true, decide_eq_true_iff] at h
    exact h.2
  · simp
theorem Ints.slice {W : World} {v : Value} {l : List Nat} (h : Ints W v l) : ∃ A c, v = .slice A l.length c := by
  rcases h with ⟨rfl, rfl⟩ | ⟨g, c, rfl, _⟩
  · exact ⟨_, _, rfl⟩
  · exact ⟨_, _, rfl⟩
theorem off_copy (P : List Int) (h8 : P.length = 8) (V : List Nat) (q : Nat) (hq : q + V.length = 8) : P.take (offOf q) ++ ints V ++ P.drop (offOf q + V.length) = P.take q ++ ints V ++ P.drop (q + V.length) := by
  unfold offOf
  split
  · rename_i e
    have hv : V = [] := List.length_eq_zero_iff.1 (by omega)
    subst hv
    rw [e]
    have h1 : P.take 8 = P := List.take_of_length_le (by omega)
    have h2 : P.drop 8 = [] := List.drop_eq_nil_of_le (by omega)
    simp [ints, h1, h2]
  · rfl
/-- Both results: an array and whether it is one. -/
theorem results10 (tmps : Array Value) (w : World) (g : Nat) (l : List Int) (h8 : l.length = 8) (b : Bool) (hp : tmps.getD 2 undef = .pointer (some ⟨g, 0, none⟩)) (hb : tmps.getD 3 undef = .bool b) (hr : RowAt w g l) :
    (results Tryd.f10 tmps).run Tryd.prog w = .ok (.tuple #[.agg (arr l), .bool b]) w := by
  have hp' : tmps[2]?.getD undef = .pointer (some ⟨g, 0, none⟩) := by simpa using hp
  have hb' : tmps[3]?.getD undef = .bool b := by simpa using hb
  simp [results, Tryd.results10, hp', hb', asAddr, hr.load h8]

set_option maxRecDepth 100000 in
set_option maxHeartbeats 4000000 in
theorem parse_any (s : ByteArray) (hs : s.size ≤ 1000000) (p : List Int) (x : Bool) (hp : parI s.data.toList = p) (hx : parB s.data.toList = x) (m : Int) (w : World) (hm : At m w) :
    Calls Tryd.prog 10 #[.string s] w fun e W' => e = .returned (.tuple #[.agg (arr p), .bool x]) ∧ Below w.heap.size w W' := by
  have hk := par_K s.data.toList
  have hI : parI s.data.toList = if parB s.data.toList then ints (fill (valL (cutL s.data.toList).1) (valL (cutL s.data.toList).2.1)) else zero8 := rfl
  rw [hx] at hk hI
  rw [hp] at hI
  have hsz := cut_size s.data.toList
  have HB0 := Lib.hid (show Below w.heap.size w (w.alloc (.cells (arr zero8) 22)) from (Below.refl _ w).alloc (Nat.le_refl _) _)
  have HR0 := Lib.hid (RowAt.new w zero8)
  have HM0 := Lib.hid (hm.later HB0.out)
  obtain ⟨a, ha⟩ : ∃ a : ByteArray, (⟨(cutL s.data.toList).1.toArray⟩ : ByteArray) = a := ⟨_, rfl⟩
  obtain ⟨b, hb⟩ : ∃ b : ByteArray, (⟨(cutL s.data.toList).2.1.toArray⟩ : ByteArray) = b := ⟨_, rfl⟩
  obtain ⟨c, hc⟩ : ∃ c, (cutL s.data.toList).2.2 = c := ⟨_, rfl⟩
  have ea : (cutL s.data.toList).1 = a.data.toList := by rw [← ha]
  have eb : (cutL s.data.toList).2.1 = b.data.toList := by rw [← hb]
  have hcut := Lib.hid (fun u (hu : At m u) => cut_at s hs a b c ha hb hc m u hu)
  rw [ea, eb] at hk hI hsz
  rw [hc] at hk
  have hl : s.data.toList.length = s.size := rfl
  have hpa := Lib.hid (fun u (hu : At m u) => pieces_any a (by have : a.data.toList.length = a.size := rfl; omega) m u hu)
  have hpb := Lib.hid (fun u (hu : At m u) => pieces_any b (by have : b.data.toList.length = b.size := rfl; omega) m u hu)
  have HVa := Lib.hid (show okK a.data.toList = true → valK a.data.toList = valL a.data.toList from fun h => by unfold valK; rw [h]; rfl)
  have HVb := Lib.hid (show okK b.data.toList = true → valK b.data.toList = valL b.data.toList from fun h => by unfold valK; rw [h]; rfl)
  have HLa := Lib.hid (valK_len a.data.toList)
  have HLb := Lib.hid (valK_len b.data.toList)
  have HK := Lib.hid hk
  have HI := Lib.hid hI
  clear hk hI hsz ha hb hc ea eb hl hm hp hx hs
  generalize valL a.data.toList = La at HVa HI
  generalize valL b.data.toList = Lb at HVb HI
  generalize okK a.data.toList = oa at hpa HVa HK
  generalize okK b.data.toList = ob at hpb HVb HK
  generalize valK a.data.toList = Va at hpa HVa HK HLa
  generalize valK b.data.toList = Vb at hpb HVb HK HLb
  go_enter Tryd.func10, Tryd.ntmps10
  go_wp2_with fail
  rw [zero_arr]
  generalize w.alloc (.cells (arr zero8) 22) = W at HB0 HR0 HM0 ⊢
  refine (hcut.out _ HM0.out).mono ?_
  rintro e w1 ⟨rfl, hB1⟩
  go_wp2_with fail
  refine (hpa.out _ (HM0.out.later hB1)).mono ?_
  rintro e w2 ⟨va, rfl, hIa, hB2⟩
  go_wp2_with fail
  refine (hpb.out _ ((HM0.out.later hB1).later hB2)).mono ?_
  rintro e w3 ⟨vb, rfl, hIb, hB3⟩
  have HR3 := Lib.hid (((HR0.out.later hB1).later hB2).later hB3)
  have HB3 := Lib.hid (Ascii.below4 HB0.out hB1 hB2 hB3)
  have HIa := Lib.hid (hIa.later hB3)
  have HIb := Lib.hid hIb
  clear hIa hIb hB1 hB2 hB3 HR0 HB0 HM0 hcut hpa hpb
  have HBS := Lib.hid (show ∀ k : List Int, Below w.heap.size w (w3.setRow w.heap.size (arr k)) from fun k => below_setRow HB3.out (Nat.le_refl _) _)
  have HRS := Lib.hid (show ∀ k : List Int, RowAt (w3.setRow w.heap.size (arr k)) w.heap.size k from fun k => HR3.out.row k)
  cases oa
  · have HNo := Lib.hid (show x = false ∧ p = zero8 by
      have h1 := HK.out
      simp only [Bool.false_and] at h1
      have h2 := HI.out
      rw [h1] at h2
      exact ⟨h1, h2⟩)
    go_wp2_with (refine wp_store22 rfl _ _ rfl _ rfl zero8 rfl rfl zero8 rfl HR3.out ?_)
    obtain ⟨rfl, rfl⟩ := HNo.out
    exact bodyPost_ret (results10 _ _ _ zero8 rfl false rfl rfl (HRS.out zero8)) rfl ⟨rfl, HBS.out zero8⟩
  cases ob
  · have HNo := Lib.hid (show x = false ∧ p = zero8 by
      have h1 := HK.out
      simp only [Bool.false_and, Bool.and_false] at h1
      have h2 := HI.out
      rw [h1] at h2
      exact ⟨h1, h2⟩)
    go_wp2_with (refine wp_store22 rfl _ _ rfl _ rfl zero8 rfl rfl zero8 rfl HR3.out ?_)
    obtain ⟨rfl, rfl⟩ := HNo.out
    exact bodyPost_ret (results10 _ _ _ zero8 rfl false rfl rfl (HRS.out zero8)) rfl ⟨rfl, HBS.out zero8⟩
  obtain ⟨Aa, ca, rfl⟩ := HIa.out.slice
  obtain ⟨Ab, cb, rfl⟩ := HIb.out.slice
  obtain ⟨na, hna⟩ : ∃ na, Va.length = na := ⟨_, rfl⟩
  obtain ⟨nb, hnb⟩ : ∃ nb, Vb.length = nb := ⟨_, rfl⟩
  have hba : na ≤ 9 := by have := HLa.out; omega
  have hbb : nb ≤ 9 := by have := HLb.out; omega
  rw [hna] at HIa ⊢
  rw [hnb] at HIb ⊢
  cases hfit : fitB (na + nb) c
  · have HNo := Lib.hid (show x = false ∧ p = zero8 by
      have h1 := HK.out
      rw [hna, hnb, hfit] at h1
      simp only [Bool.and_false] at h1
      have h2 := HI.out
      rw [h1] at h2
      exact ⟨h1, h2⟩)
    have HF := Lib.hid hfit
    clear hfit hna hnb
    go_wp2_with (first | (go_at_call 20; refine (fit_any (na + nb) c false HF.out _ (by omega) _).mono ?_; rintro e w' ⟨rfl, rfl⟩) | refine wp_store22 rfl _ _ rfl _ rfl zero8 rfl rfl zero8 rfl HR3.out ?_)
    obtain ⟨rfl, rfl⟩ := HNo.out
    exact bodyPost_ret (results10 _ _ _ zero8 rfl false rfl rfl (HRS.out zero8)) rfl ⟨rfl, HBS.out zero8⟩
  · have HYes := Lib.hid (show x = true ∧ p = ints (fill Va Vb) by
      have h1 := HK.out
      rw [hna, hnb, hfit] at h1
      simp only [Bool.and_true] at h1
      have h2 := HI.out
      rw [h1, ← HVa.out rfl, ← HVb.out rfl] at h2
      exact ⟨h1, h2⟩)
    have hle : na + nb ≤ 8 := by
      unfold fitB at hfit
      cases c
      · simp at hfit; omega
      · simp at hfit; omega
    obtain ⟨q, hq⟩ : ∃ q, q + nb = 8 := ⟨8 - nb, by omega⟩
    have eq8 : (8 : Int) - (nb : Int) = (q : Int) := by omega
    have HF := Lib.hid hfit
    have hR5 := RowAt.new w3 zero8
    have hB5 : Below w3.heap.size w3 (w3.alloc (.cells (arr zero8) 22)) := (Below.refl _ w3).alloc (Nat.le_refl _) _
    have hIa5 : Ints (w3.alloc (.cells (arr zero8) 22)) (.slice Aa na ca) Va := by have := HIa.out.later hB5; exact this
    have hIb5 : Ints (w3.alloc (.cells (arr zero8) 22)) (.slice Ab nb cb) Vb := by have := HIb.out.later hB5; exact this
    obtain ⟨W6, hc6, hR6, hB6⟩ := copy_ints rfl hR5 hIa5 0 8 8 (by omega) (by omega)
    have hIb6 : Ints W6 (.slice Ab nb cb) Vb := by
      rcases HIb.out with ⟨h1, h2⟩ | ⟨g, cap, h1, h2, h3, h4⟩
      · exact .inl ⟨h1, h2⟩
      · exact .inr ⟨g, cap, h1, by have := hB6.size; have := hB5.size; omega, h3, fun j hj => (hB6.cell (p := ⟨g, j, none⟩) h2).trans ((hB5.cell (p := ⟨g, j, none⟩) h2).trans (h4 j hj))⟩
    have ho : offOf q + nb ≤ 8 := by unfold offOf; split <;> omega
    obtain ⟨W7, hc7, hR7, hB7⟩ := copy_ints (by simp [ints, zero8]; omega) hR6 hIb6 (offOf q) (8 - q) (8 - q) (by omega) (by omega)
    have hfin : (zero8.take 0 ++ ints Va ++ zero8.drop (0 + Va.length)).take (offOf q) ++ ints Vb ++ (zero8.take 0 ++ ints Va ++ zero8.drop (0 + Va.length)).drop (offOf q + Vb.length) = ints (fill Va Vb) := by
      rw [← fill_copy Va Vb (by omega) q (by omega)]
      exact off_copy _ (by simp [ints, zero8]; omega) Vb q (by omega)
    rw [hfin] at hR7
    have hlF : (ints (fill Va Vb)).length = 8 := by unfold fill; simp [ints]; omega
    have hlt3 : w.heap.size < w3.heap.size := HR3.out.lt
    have hRz : RowAt W7 w.heap.size zero8 := ((HR3.out.below hB5 hlt3).below hB6 hlt3).below hB7 hlt3
    have HE := Lib.hid (show RowAt W7 w3.heap.size (ints (fill Va Vb)) ∧ RowAt W7 w.heap.size zero8 ∧ (ints (fill Va Vb)).length = 8 ∧ RowAt (W7.setRow w.heap.size (arr (ints (fill Va Vb)))) w.heap.size (ints (fill Va Vb)) ∧ Below w.heap.size w (W7.setRow w.heap.size (arr (ints (fill Va Vb)))) from
      ⟨hR7, hRz, hlF, hRz.row _, below_setRow (HB3.out.trans ((hB5.mono (by omega)).trans ((hB6.mono (by omega)).trans (hB7.mono (by omega))))) (Nat.le_refl _) _⟩)
    have hc6' : ∀ ty, (Builtin.copy_ #[38, 38] ty #[.slice (some ⟨w3.heap.size, 0, none⟩) 8 8, .slice Aa na ca]).run Tryd.prog (w3.alloc (.cells #[.int .i64 0, .int .i64 0, .int .i64 0, .int .i64 0, .int .i64 0, .int .i64 0, .int .i64 0, .int .i64 0] 22)) = .ok (goInt Va.length) W6 := hc6
    have hcA := cut8_all w3.heap.size
    have hcF := cut8_from w3.heap.size q (by omega)
    generalize offOf q = O at hc7 hcF
    generalize ints (fill Va Vb) = F at HYes HE
    clear hc6 hR5 hB5 hIa5 hIb5 hIb6 hR6 hB6 hR7 hB7 hfin hlF hRz ho hfit hna hnb hlt3
    go_wp2_with (first | (go_at_call 20; refine (fit_any (na + nb) c true HF.out _ (by omega) _).mono ?_; rintro e w' ⟨rfl, rfl⟩) | refine wp_load22 rfl _ rfl _ rfl F HE.out.2.2.1 HE.out.1 ?_ | refine wp_store22 rfl _ _ rfl _ rfl F rfl HE.out.2.2.1 zero8 rfl HE.out.2.1 ?_)
    obtain ⟨rfl, rfl⟩ := HYes.out
    exact bodyPost_ret (results10 _ _ _ p HE.out.2.2.1 true rfl rfl HE.out.2.2.2.1) rfl ⟨rfl, HE.out.2.2.2.2⟩
end Go.Proofs.YtgfhjigalefkmaaDoor.Six

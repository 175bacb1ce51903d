/-
  host's Parse.
-/
import Derived.Test.YtidmlhefdjpafaaDoorHSmall
namespace Go.Proofs.YtidmlhefdjpafaaDoor.Host
open Go.RowKit
open Six (arr RowAt zero8)
set_option linter.unusedSimpArgs false
set_option linter.unusedVariables false
theorem pre_iff (l : List UInt8) : Lib.hasPrefix l [91] = true ↔ ∃ r, l = 91 :: r := by
  unfold Lib.hasPrefix
  cases l with
  | nil => simp
  | cons c r =>
    simp only [List.isPrefixOf, Bool.and_true, beq_iff_eq]
    constructor
    · rintro rfl; exact ⟨r, rfl⟩
    · rintro ⟨r', h⟩; exact (List.cons.inj h).1.symm
theorem suf_iff (l : List UInt8) : Lib.hasSuffix l [93] = true ↔ ∃ r, l = r ++ [93] := by
  unfold Lib.hasSuffix
  rw [List.isSuffixOf_iff_suffix]
  constructor
  · rintro ⟨r, rfl⟩; exact ⟨r, rfl⟩
  · rintro ⟨r, rfl⟩; exact ⟨r, rfl⟩
theorem brk_iff (l : List UInt8) : brkB l = true ↔ ∃ x, l = 91 :: (x ++ [93]) := by
  unfold brkB
  rw [Bool.and_eq_true, pre_iff, suf_iff]
  constructor
  · rintro ⟨⟨r, rfl⟩, q, hq⟩
    cases q with
    | nil => simp at hq
    | cons d q => simp at hq; exact ⟨q, by rw [hq.2]⟩
  · rintro ⟨x, rfl⟩
    exact ⟨⟨_, rfl⟩, 91 :: x, rfl⟩
theorem inner_of (x : List UInt8) : inner (91 :: (x ++ [93])) = x := by simp [inner]
theorem brk_size (l : List UInt8) (h : brkB l = true) : 2 ≤ l.length := by
  obtain ⟨x, rfl⟩ := (brk_iff l).1 h
  simp
set_option maxRecDepth 100000 in
set_option maxHeartbeats 1000000 in
theorem brk_no (s : ByteArray) (hs : s.size ≤ 1000000) (h : brkB s.data.toList = false) (w : World) : Calls Tryd.prog 40 #[.string s] w fun e w' => e = .returned (.tuple #[.string ⟨#[]⟩, .bool false]) ∧ w = w' := by
  have cP := Lib.hid (fun u => Tryd.strings_HasPrefix s ⟨#[91]⟩ u)
  have cS := Lib.hid (fun u => Tryd.strings_HasSuffix s ⟨#[93]⟩ u (by omega))
  rw [show (⟨#[91]⟩ : ByteArray).data.toList = [91] from rfl] at cP
  rw [show (⟨#[93]⟩ : ByteArray).data.toList = [93] from rfl] at cS
  unfold brkB at h
  generalize Lib.hasPrefix s.data.toList [91] = a at cP h
  generalize Lib.hasSuffix s.data.toList [93] = b at cS h
  cases a
  · go_enter Tryd.func40, Tryd.ntmps40
    go_wp2_with fail
    refine (cP.out _).mono ?_
    rintro e u ⟨rfl, hu⟩
    rw [hu]
    go_wp2
    go_ret2
    exact ⟨rfl, rfl⟩
  · obtain rfl : b = false := by simpa using h
    go_enter Tryd.func40, Tryd.ntmps40
    go_wp2_with fail
    refine (cP.out _).mono ?_
    rintro e u ⟨rfl, hu⟩
    rw [hu]
    go_wp2_with fail
    refine (cS.out _).mono ?_
    rintro e v ⟨rfl, hv⟩
    rw [hv]
    go_wp2
    go_ret2
    exact ⟨rfl, rfl⟩
set_option maxRecDepth 100000 in
set_option maxHeartbeats 1000000 in
theorem brk_yes (s : ByteArray) (hs : s.size ≤ 1000000) (h : brkB s.data.toList = true) (x : ByteArray) (hx : (⟨(inner s.data.toList).toArray⟩ : ByteArray) = x) (w : World) : Calls Tryd.prog 40 #[.string s] w fun e w' => e = .returned (.tuple #[.string x, .bool true]) ∧ w = w' := by
  have h2 : 2 ≤ s.size := brk_size _ h
  have HX := Lib.hid (show s.extract 1 (s.size - 1) = x by
    rw [← hx]
    apply ByteArray.ext
    apply Array.toList_inj.1
    show _ = inner s.data.toList
    rw [Ascii.extract_list]
    rfl)
  have cP := Lib.hid (fun u => Tryd.strings_HasPrefix s ⟨#[91]⟩ u)
  have cS := Lib.hid (fun u => Tryd.strings_HasSuffix s ⟨#[93]⟩ u (by omega))
  rw [show (⟨#[91]⟩ : ByteArray).data.toList = [91] from rfl] at cP
  rw [show (⟨#[93]⟩ : ByteArray).data.toList = [93] from rfl] at cS
  unfold brkB at h
  rw [Bool.and_eq_true] at h
  rw [h.1] at cP
  rw [h.2] at cS
  clear h hx
  go_enter Tryd.func40, Tryd.ntmps40
  go_wp2_with fail
  refine (cP.out _).mono ?_
  rintro e u ⟨rfl, hu⟩
  rw [hu]
  go_wp2_with fail
  refine (cS.out _).mono ?_
  rintro e v ⟨rfl, hv⟩
  rw [hv]
  clear hu hv
  go_wp2
  go_ret2
  exact ⟨by rw [← HX.out]; rfl, rfl⟩
/-! ### read -/
set_option maxRecDepth 100000 in
set_option maxHeartbeats 2000000 in
theorem read_brk (s : ByteArray) (hs : s.size ≤ 1000) (h : brkB s.data.toList = true) (p : List Int) (c : Bool) (hp : Six.parI (inner s.data.toList) = p) (hc : Six.parB (inner s.data.toList) = c) (m : Int) (w : World) (hm : Six.At m w) :
    Calls Tryd.prog 20 #[.string s] w fun e w' => e = .returned (.tuple #[.iface 46 (.agg (arr p)), .bool c]) ∧ Below w.heap.size w w' := by
  obtain ⟨x, hx⟩ : ∃ x : ByteArray, (⟨(inner s.data.toList).toArray⟩ : ByteArray) = x := ⟨_, rfl⟩
  have hxl : x.data.toList = inner s.data.toList := by rw [← hx]
  have hxs : x.size ≤ 1000 := by
    have e1 : x.size = (inner s.data.toList).length := by rw [← hx]; rfl
    have e2 : s.data.toList.length = s.size := rfl
    rw [e1]
    unfold inner
    rw [List.length_drop, List.length_take]
    omega
  have cB := Lib.hid (fun u => brk_yes s (by omega) h x hx u)
  have cP := Lib.hid (fun u (hu : Six.At m u) => Six.parse_any x (by omega) p c (by rw [hxl]; exact hp) (by rw [hxl]; exact hc) m u hu)
  have hp8 : p.length = 8 := by
    rw [← hp]
    cases e : Six.parB (inner s.data.toList)
    · unfold Six.parI; rw [e]; rfl
    · exact (Six.par_may _ e).1
  have HP8 := Lib.hid hp8
  have HM := Lib.hid hm
  have HZ := Lib.hid (fun u : World => RowAt.new u zero8)
  clear hm hp hc hx hxl hp8 h
  go_enter Tryd.func20, Tryd.ntmps20
  go_wp2_with fail
  refine (cB.out _).mono ?_
  rintro e u1 ⟨rfl, rfl⟩
  go_wp2_with fail
  refine (cP.out _ HM.out).mono ?_
  rintro e u2 ⟨rfl, hB2⟩
  have HB2 := Lib.hid hB2
  have hBn : Below u2.heap.size u2 ((u2.alloc (.cells (arr zero8) 22)).setRow u2.heap.size (arr p)) := Six.below_setRow ((Below.refl _ u2).alloc (Nat.le_refl _) _) (Nat.le_refl _) _
  have HBn := Lib.hid hBn
  have HR := Lib.hid ((HZ.out u2).row p)
  clear hB2 hBn cB cP
  go_wp2_with (first
    | refine Six.wp_store22 rfl _ _ rfl u2.heap.size rfl p rfl HP8.out zero8 rfl (HZ.out _) ?_
    | refine Six.wp_load22 rfl _ rfl u2.heap.size rfl p HP8.out HR.out ?_)
  go_ret2
  exact ⟨rfl, Ascii.below2 HB2.out HBn.out⟩
set_option maxRecDepth 100000 in
set_option maxHeartbeats 2000000 in
theorem read_num (s : ByteArray) (hs : s.size ≤ 1000) (h : brkB s.data.toList = false) (hl : Four.lookB s.data.toList = true) (n : Int) (c : Bool) (hn : Four.parI s.data.toList = n) (hc : Four.parB s.data.toList = c) (m : Int) (w : World) (hm : Six.At m w) :
    Calls Tryd.prog 20 #[.string s] w fun e w' => e = .returned (.tuple #[.iface 44 (.int .i64 n), .bool c]) ∧ Below w.heap.size w w' := by
  have cB := Lib.hid (fun u => brk_no s (by omega) h u)
  have cL := Lib.hid (fun u => Four.looks_at s (by omega) true hl u)
  have cP := Lib.hid (Four.parse_at s (by omega) n c hn hc m w hm.max)
  clear hm hn hc h hl
  go_enter Tryd.func20, Tryd.ntmps20
  go_wp2_with fail
  refine (cB.out _).mono ?_
  rintro e u1 ⟨rfl, rfl⟩
  go_wp2_with fail
  refine (cL.out _).mono ?_
  rintro e u1 ⟨rfl, rfl⟩
  go_wp2_with fail
  refine cP.out.mono ?_
  rintro e u2 ⟨rfl, hB2⟩
  go_wp2
  go_ret2
  exact ⟨rfl, hB2⟩
set_option maxRecDepth 100000 in
set_option maxHeartbeats 2000000 in
theorem read_dom (s : ByteArray) (hs : s.size ≤ 1000) (h : brkB s.data.toList = false) (hl : Four.lookB s.data.toList = false) (x : ByteArray) (c : Bool) (hx : (⟨(Ascii.lower s.data.toList).toArray⟩ : ByteArray) = x) (hc : domB (Ascii.lower s.data.toList) = c) (m : Int) (w : World) (hm : Six.At m w) :
    Calls Tryd.prog 20 #[.string s] w fun e w' => e = .returned (.tuple #[.iface 42 (.string x), .bool c]) ∧ Below w.heap.size w w' := by
  have cB := Lib.hid (fun u => brk_no s (by omega) h u)
  have cL := Lib.hid (fun u => Four.looks_at s (by omega) false hl u)
  have cLow := Lib.hid (fun u => Ascii.lower_calls s (by unfold maxLen; omega) (by omega) u)
  rw [hx] at cLow
  have hxs : x.size ≤ 1000 := by
    have e1 : x.size = (Ascii.lower s.data.toList).length := by rw [← hx]; rfl
    have e2 : s.data.toList.length = s.size := rfl
    rw [e1]; unfold Ascii.lower; rw [List.length_map]; omega
  have cD := Lib.hid (fun u (hu : Six.At m u) => dmay_any x (by omega) c (by rw [← hx]; exact hc) m u hu)
  have HM := Lib.hid hm
  clear hm hx hc h hl
  go_enter Tryd.func20, Tryd.ntmps20
  go_wp2_with fail
  refine (cB.out _).mono ?_
  rintro e u1 ⟨rfl, rfl⟩
  go_wp2_with fail
  refine (cL.out _).mono ?_
  rintro e u1 ⟨rfl, rfl⟩
  go_wp2_with fail
  refine (cLow.out _).mono ?_
  rintro e u2 ⟨rfl, hB2⟩
  have HB2 := Lib.hid hB2
  clear hB2
  go_wp2_with fail
  refine (cD.out _ (HM.out.later HB2.out)).mono ?_
  rintro e u3 ⟨rfl, hB3⟩
  go_wp2
  go_ret2
  exact ⟨rfl, Ascii.below2 HB2.out hB3⟩
end Go.Proofs.YtidmlhefdjpafaaDoor.Host

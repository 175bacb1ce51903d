/-
  Parse(s).
-/
import Derived.Test.YtknlahgcpnhaiaaDoorFShow
import Derived.Deep.RegionWith
import Derived.BigRegion
namespace Go.Proofs.YtknlahgcpnhaiaaDoor.Four
open Go.RowKit
set_option linter.unusedSimpArgs false
set_option linter.unusedVariables false

/-- Box b holds a slice of the texts l, that lie in block g. -/
structure Cut (W : World) (g b : Nat) (v : Value) (l : List ByteArray) : Prop where
  lt : g < W.heap.size
  ltb : b < W.heap.size
  box : W.cell? ⟨b, 0, none⟩ = some v
  at_ : ∀ j (h : j < l.length), W.cell? ⟨g, j, none⟩ = some (.string l[j])
theorem Cut.below {W W' : World} {g b : Nat} {v : Value} {l : List ByteArray} (h : Cut W g b v l) {B : Nat} (hB : Below B W W') (hg : g < B) (hb : b < B) : Cut W' g b v l :=
  ⟨Nat.lt_of_lt_of_le h.lt hB.size, Nat.lt_of_lt_of_le h.ltb hB.size, (hB.cell (p := ⟨b, 0, none⟩) hb).trans h.box, fun j hj => (hB.cell (p := ⟨g, j, none⟩) hg).trans (h.at_ j hj)⟩
theorem Cut.later {W W' : World} {g b : Nat} {v : Value} {l : List ByteArray} (h : Cut W g b v l) (hB : Below W.heap.size W W') : Cut W' g b v l := h.below hB h.lt h.ltb
theorem Cut.drew {W : World} {g b : Nat} {v : Value} {l : List ByteArray} (h : Cut W g b v l) : Cut W.drew g b v l := ⟨h.lt, h.ltb, h.box, h.at_⟩

set_option maxRecDepth 100000 in
set_option maxHeartbeats 2000000 in
theorem shows_at (g b cap : Nat) (l : List ByteArray) (h4 : l.length = 4) (W : World) (hc : Cut W g b (.slice (some ⟨g, 0, none⟩) 4 cap) l) (k : Nat) (hk : k < 4) (p : ByteArray) (hp : ∀ h : k < l.length, l[k] = p) (v : Nat) (hv : v ≤ 255) (sx : ByteArray) (hsx : (⟨(Deci.showN v).toArray⟩ : ByteArray) = sx) (x : Bool) (hx : (p.toList == sx.toList) = x) :
    Calls Tryd.prog 20 #[.int .i64 k, .int .i64 v, .pointer (some ⟨b, 0, none⟩)] W fun e W' => e = .returned (.bool x) ∧ Below W.heap.size W W' := by
  have HC := Lib.hid hc
  have hbox := hc.box
  have hcell := hc.at_ k (by omega)
  rw [hp (by omega)] at hcell
  have HP := Lib.hid hp
  have HS := Lib.hid hsx
  have HV := Lib.hid hv
  have H4 := Lib.hid h4
  have t1 : (k : Int) < 4 := by omega
  clear hc hp hsx hv h4
  go_enter Tryd.func20, Tryd.ntmps20
  go_wp2_with fail
  go_region_with (go_at_call 18; refine (show_at v (by have := HV.out; omega) sx HS.out _).mono ?_; rintro e w2 ⟨rfl, hB2⟩; have hbox2 := (HC.out.drew.later hB2).box; have hcell2 := ((HC.out.drew.later hB2).at_ k (by have := H4.out; omega)).trans (congrArg (fun z => some (Value.string z)) (HP.out (by have := H4.out; omega))))
  all_goals
    go_wp2
    go_ret
    exact ⟨rfl, (Below.refl W.heap.size W).drew.trans hB2⟩

/-- The parts of a text, at most five. -/
def pieces (s : ByteArray) : List ByteArray := Lib.splitB ⟨#[46]⟩ 0 (min 5 (s.size + 1) - 1) s
theorem pieces_cuts (s : ByteArray) : (pieces s).map (·.data.toList) = cuts s.data.toList := Lib.splitB_data _ _ _ _
theorem split_at (s : ByteArray) (hs : s.size ≤ 1000000) (m : Int) (w : World) (hm : w.cell? ⟨0, 0, none⟩ = some (.int .i64 m)) :
    Calls Tryd.prog 19 #[.string s, .string ⟨#[46]⟩, .int .i64 5] w fun e w' => e = .returned (.slice (some ⟨w.heap.size, 0, none⟩) (pieces s).length (min 5 (s.size + 1))) ∧ w.alloc (.cells (Lib.cellsOf (pieces s) (min 5 (s.size + 1))) 9) = w' :=
  (Tryd.strings_SplitN s ⟨#[46]⟩ 5 m w (by omega) hm (by decide) (by decide) (by decide)).mono fun e w' h => ⟨h.1, h.2.symm⟩
theorem cells_at (l : List ByteArray) (N : Nat) (j : Nat) (h : j < l.length) : (Lib.cellsOf l N)[j]? = some (.string l[j]) := by
  unfold Lib.cellsOf
  rw [List.getElem?_toArray, List.getElem?_append_left (by simpa using h), List.getElem?_map, List.getElem?_eq_getElem h]
  rfl
theorem cut_new (w : World) (C : Array Value) (l : List ByteArray) (hC : ∀ j (h : j < l.length), C[j]? = some (.string l[j])) (v : Value) :
    Cut ((w.alloc (.cells C 9)).alloc (.cells #[v] 33)) w.heap.size (w.heap.size + 1) v l := by
  refine ⟨by simp; omega, by simp, ?_, fun j hj => ?_⟩
  · rw [World.cell?_alloc_at _ _ _ _ (by simp)]
    rfl
  · rw [World.cell?_alloc_past _ _ _ (by simp), World.cell?_alloc_at _ _ _ _ rfl]
    exact hC j hj

theorem read_at (p : ByteArray) (hs : p.size ≤ 1000000) (x : Int) (b : Bool) (hx : Deci.readI p.data.toList 255 = x) (hb : Deci.readB p.data.toList 255 = b) (w : World) :
    Calls Tryd.prog 21 #[.string p, .int .i64 255] w fun e W' => e = .returned (.tuple #[.int .i64 x, .bool b]) ∧ Below w.heap.size w W' := by
  subst hx; subst hb
  exact Deci.read_calls p (by unfold maxLen; omega) 255 (by omega) w

def acc (l : List (List UInt8)) : Nat := l.foldl (fun n p => n * 256 + Deci.valN p) 0
theorem acc_snoc (l : List (List UInt8)) (p : List UInt8) : acc (l ++ [p]) = acc l * 256 + Deci.valN p := by simp [acc]
theorem ok4_all (l : List (List UInt8)) : ok4 l = (decide (l.length = 4) && l.all okB) := by
  unfold ok4
  split
  · simp
  · rename_i h
    by_cases h4 : l.length = 4
    · match l, h4 with
      | [a, b, c, d], _ => exact absurd rfl (h a b c d)
    · simp [h4]
theorem val4_acc (l : List (List UInt8)) (h4 : l.length = 4) : val4 l = acc l := by
  match l, h4 with
  | [a, b, c, d], _ => simp [val4, num4, acc]

set_option maxRecDepth 100000 in
set_option maxHeartbeats 2000000 in
theorem parseShort (s : ByteArray) (hs : s.size ≤ 1000000) (h4 : (((pieces s).length : Int) == 4) = false) (m : Int) (w : World) (hm : w.cell? ⟨0, 0, none⟩ = some (.int .i64 m)) :
    Calls Tryd.prog 9 #[.string s] w fun e W' => e = .returned (.tuple #[.int .i64 0, .bool false]) ∧ Below w.heap.size w W' := by
  have hsp := split_at s hs m w hm
  generalize Lib.cellsOf (pieces s) (min 5 (s.size + 1)) = C at hsp
  generalize (min 5 (s.size + 1)) = N at hsp
  generalize (pieces s).length = L at hsp h4
  clear hs hm
  go_enter Tryd.func9, Tryd.ntmps9
  go_wp2_with (go_at_call 19; refine hsp.mono ?_; rintro e w' ⟨rfl, rfl⟩)
  go_ret2
  exact ⟨rfl, ((Below.refl _ w).alloc (Nat.le_refl _) _).alloc (by simp) _⟩
theorem split_le (k : Nat) (l p : List UInt8) (h : p ∈ Lib.splitK [46] 0 k l) : p.length ≤ l.length := by
  induction k generalizing l with
  | zero => simp [Lib.splitK] at h; rw [h]; exact Nat.le_refl _
  | succ k ih =>
    rcases first_dot l with hn | ⟨a, r, rfl, hn⟩
    · rw [split_none _ _ hn] at h
      simp at h
      rw [h]; exact Nat.le_refl _
    · rw [split_dot _ _ _ hn, List.mem_cons] at h
      simp
      rcases h with rfl | h
      · omega
      · have := ih r h; omega
theorem piece_le (s p : ByteArray) (h : p ∈ pieces s) : p.size ≤ s.size := by
  have : p.data.toList ∈ cuts s.data.toList := by rw [← pieces_cuts]; exact List.mem_map_of_mem h
  exact split_le _ _ _ this
theorem acc_take (l : List (List UInt8)) (k : Nat) (h : k < l.length) : acc (l.take (k + 1)) = acc (l.take k) * 256 + Deci.valN l[k] := by
  rw [List.take_succ_eq_append_getElem h, acc_snoc]
theorem all_take (l : List (List UInt8)) (k : Nat) (h : k < l.length) : (l.take (k + 1)).all okB = ((l.take k).all okB && okB l[k]) := by
  rw [List.take_succ_eq_append_getElem h, List.all_append]
  simp
theorem readB_true (l : List UInt8) (h : Deci.readB l 255 = true) : Deci.readI l 255 = (Deci.valN l : Int) ∧ Deci.valN l ≤ 255 := by
  refine ⟨by unfold Deci.readI; rw [if_pos h], ?_⟩
  unfold Deci.readB at h
  rw [Bool.and_eq_true, decide_eq_true_iff] at h
  omega
theorem readB_false (l : List UInt8) (h : Deci.readB l 255 = false) : Deci.readI l 255 = 0 := by
  unfold Deci.readI
  rw [h]
  rfl
theorem par_all (l : List UInt8) (h4 : (cuts l).length = 4) : parB l = (cuts l).all okB := by
  unfold parB
  rw [ok4_all, h4]
  simp
theorem not_all {l : List (List UInt8)} (k : Nat) (h : k < l.length) (hn : okB l[k] = false) : l.all okB = false := by
  rw [List.all_eq_false]
  exact ⟨l[k], List.getElem_mem h, by rw [hn]; simp⟩

set_option maxRecDepth 100000 in
set_option maxHeartbeats 4000000 in
theorem parseLong (s : ByteArray) (hs : s.size ≤ 1000000) (h4 : (pieces s).length = 4) (m : Int) (w : World) (hm : w.cell? ⟨0, 0, none⟩ = some (.int .i64 m)) :
    Calls Tryd.prog 9 #[.string s] w fun e W' => e = .returned (.tuple #[.int .i64 (parI s.data.toList), .bool (parB s.data.toList)]) ∧ Below w.heap.size w W' := by
  have hsp := split_at s hs m w hm
  have hcut := cut_new w (Lib.cellsOf (pieces s) (min 5 (s.size + 1))) (pieces s) (fun j h => cells_at _ _ j h) (.slice (some ⟨w.heap.size, 0, none⟩) 4 (min 5 (s.size + 1)))
  have hpc := pieces_cuts s
  have hcl : (cuts s.data.toList).length = 4 := by rw [← hpc, List.length_map, h4]
  have HPar := Lib.hid (par_all _ hcl)
  have HVal := Lib.hid (val4_acc _ hcl)
  have HI := Lib.hid (show parI s.data.toList = if parB s.data.toList then (val4 (cuts s.data.toList) : Int) else 0 from rfl)
  have HLe := Lib.hid (fun (p : ByteArray) (h : p ∈ pieces s) => Nat.le_trans (piece_le s p h) hs)
  have HAt := Lib.hid (show ∀ k (h : k < (pieces s).length) (h' : k < (cuts s.data.toList).length), (cuts s.data.toList)[k] = (pieces s)[k].data.toList from fun k h h' => by simp only [← hpc, List.getElem_map])
  rw [h4] at hsp
  have H4 := Lib.hid h4
  have HC4 := Lib.hid hcl
  clear hpc hcl h4
  generalize cuts s.data.toList = cs at HPar HVal HI HAt HC4
  generalize parI s.data.toList = rI at HI
  generalize parB s.data.toList = rB at HI HPar
  generalize Lib.cellsOf (pieces s) (min 5 (s.size + 1)) = C at hsp hcut
  generalize (min 5 (s.size + 1)) = N at hsp hcut
  generalize pieces s = l at hcut H4 HAt HLe
  clear hs hm
  have hB0 : Below w.heap.size w ((w.alloc (.cells C 9)).alloc (.cells #[.slice (some ⟨w.heap.size, 0, none⟩) 4 N] 33)) := ((Below.refl _ w).alloc (Nat.le_refl _) _).alloc (by simp) _
  go_enter Tryd.func9, Tryd.ntmps9
  go_wp2_with (go_at_call 19; refine hsp.mono ?_; rintro e w' ⟨rfl, rfl⟩)
  clear hsp
  go_loopw [6, 7, 8, 9, 16] (fun n _ _ _ i wr => ∃ k a : Nat, k ≤ 4 ∧ i = .int .i64 k ∧ n = .int .i64 a ∧ Hid (a = acc (cs.take k) ∧ a < 256 ^ k ∧ (cs.take k).all okB = true) ∧ Hid (Cut wr w.heap.size (w.heap.size + 1) (.slice (some ⟨w.heap.size, 0, none⟩) 4 N) l) ∧ Below w.heap.size w wr) (fun _ _ _ _ i _ => 4 - (intOf i).toNat)
  case atStart => exact ⟨0, 0, Nat.zero_le _, rfl, rfl, Lib.hid ⟨rfl, by decide, rfl⟩, Lib.hid hcut, hB0⟩
  case round =>
    clear hcut hB0
    obtain ⟨k, a, hk, rfl, rfl, HA, HCut, hw⟩ := hrel
    by_cases hlt : k < 4
    · have t1 : (k : Int) < 4 := by omega
      have hkl : k < l.length := by have := H4.out; omega
      have hkc : k < cs.length := by have := HC4.out; omega
      obtain ⟨p, hp⟩ : ∃ p, l[k] = p := ⟨_, rfl⟩
      have hpe : cs[k] = p.data.toList := by rw [HAt.out k hkl hkc, hp]
      have hple : p.size ≤ 1000000 := HLe.out p (by rw [← hp]; exact List.getElem_mem hkl)
      have hbox := HCut.out.box
      have hcell := HCut.out.at_ k hkl
      rw [hp] at hcell
      have HP := Lib.hid (show ∀ h : k < l.length, l[k] = p from fun _ => hp)
      have HKC := Lib.hid hkc
      have HPE := Lib.hid (show ∀ h : k < cs.length, cs[k] = p.data.toList from fun _ => hpe)
      have HPL := Lib.hid hple
      clear hp hpe hple hkl hkc
      cases hb : Deci.readB p.data.toList 255
      · have hr := read_at p HPL.out 0 false (readB_false _ hb) hb wr
        have hno := Lib.hid (show rB = false by
          rw [HPar.out]
          refine not_all k HKC.out ?_
          rw [HPE.out]
          unfold okB
          rw [hb]
          rfl)
        clear hb
        go_wp2_with (go_at_call 21; refine hr.mono ?_; rintro e w2 ⟨rfl, hB2⟩)
        go_ret2
        refine ⟨?_, hw.trans (hB2.mono hw.size)⟩
        rw [HI.out, hno.out]
        rfl
      · obtain ⟨e1, e2⟩ := readB_true _ hb
        obtain ⟨v, hv⟩ : ∃ v, Deci.valN p.data.toList = v := ⟨_, rfl⟩
        rw [hv] at e1 e2
        have hr := read_at p HPL.out v true e1 hb wr
        have HV := Lib.hid hv
        have HV2 := Lib.hid e2
        have HB := Lib.hid hb
        obtain ⟨sx, hsx⟩ : ∃ sx : ByteArray, (⟨(Deci.showN v).toArray⟩ : ByteArray) = sx := ⟨_, rfl⟩
        have HSX := Lib.hid hsx
        have HOK := Lib.hid (show okB p.data.toList = (p.toList == sx.toList) by
          unfold okB
          rw [hb, hv, ← hsx, ByteArray.toList_eq, ByteArray.toList_eq]
          rfl)
        clear e1 e2 hv hsx hb
        cases hx : (p.toList == sx.toList)
        · have hno := Lib.hid (show rB = false by
            rw [HPar.out]
            refine not_all k HKC.out ?_
            rw [HPE.out, HOK.out, hx])
          go_wp2_with (first | (go_at_call 21; refine hr.mono ?_; rintro e w2 ⟨rfl, hB2⟩) | (go_at_call 20; refine (shows_at w.heap.size (w.heap.size + 1) N l H4.out _ (HCut.out.later hB2) k hlt p HP.out v HV2.out sx HSX.out false hx).mono ?_; rintro e w3 ⟨rfl, hB3⟩))
          go_ret2
          refine ⟨?_, (hw.trans (hB2.mono hw.size)).trans (hB3.mono (Nat.le_trans hw.size hB2.size))⟩
          rw [HI.out, hno.out]
          rfl
        · have ha : a ≤ 4294967295 := by
            have h1 := HA.out.2.1
            have h2 : 256 ^ k ≤ 256 ^ 3 := Nat.pow_le_pow_right (by omega) (by omega)
            omega
          have ha24 : a ≤ 16777215 := by
            have h1 := HA.out.2.1
            have h2 : 256 ^ k ≤ 256 ^ 3 := Nat.pow_le_pow_right (by omega) (by omega)
            omega
          have hor := i64_or8 a v ha (by have := HV2.out; omega)
          clear ha
          go_wp2_with (first | (go_at_call 21; refine hr.mono ?_; rintro e w2 ⟨rfl, hB2⟩) | (go_at_call 20; refine (shows_at w.heap.size (w.heap.size + 1) N l H4.out _ (HCut.out.later hB2) k hlt p HP.out v HV2.out sx HSX.out true hx).mono ?_; rintro e w3 ⟨rfl, hB3⟩))
          go_roundw
          case rel =>
            refine ⟨k + 1, a * 256 + v, by omega, by go_num, by go_num, Lib.hid ⟨?_, ?_, ?_⟩, Lib.hid ((HCut.out.later hB2).later hB3), (hw.trans (hB2.mono hw.size)).trans (hB3.mono (Nat.le_trans hw.size hB2.size))⟩
            · rw [acc_take cs k HKC.out, ← HA.out.1, HPE.out, HV.out]
            · have h1 := HA.out.2.1
              have h2 := HV2.out
              rw [Nat.pow_succ]
              omega
            · rw [all_take cs k HKC.out, HA.out.2.2, HPE.out, HOK.out, hx]
              rfl
          case measure => simp [intOf]; omega
    · obtain rfl : k = 4 := by omega
      go_wp2
      go_ret2
      refine ⟨?_, hw⟩
      obtain ⟨h1, _, h3⟩ := HA.out
      have ht : cs.take 4 = cs := List.take_of_length_le (by have := HC4.out; omega)
      rw [ht] at h1 h3
      rw [HI.out, HPar.out, h3, HVal.out, ← h1]
      rfl

/-- Parse, of any text. -/
theorem parse_at (s : ByteArray) (hs : s.size ≤ 1000000) (x : Int) (b : Bool) (hx : parI s.data.toList = x) (hb : parB s.data.toList = b) (m : Int) (w : World) (hm : w.cell? ⟨0, 0, none⟩ = some (.int .i64 m)) :
    Calls Tryd.prog 9 #[.string s] w fun e W' => e = .returned (.tuple #[.int .i64 x, .bool b]) ∧ Below w.heap.size w W' := by
  subst hx; subst hb
  by_cases h4 : (pieces s).length = 4
  · exact parseLong s hs h4 m w hm
  · have hb : parB s.data.toList = false := by
      have hl : (cuts s.data.toList).length ≠ 4 := by rw [← pieces_cuts, List.length_map]; exact h4
      unfold parB
      rw [ok4_all]
      simp [hl]
    rw [parI_none _ hb, hb]
    exact parseShort s hs (beq_false_of_ne (by omega)) m w hm
end Go.Proofs.YtknlahgcpnhaiaaDoor.Four

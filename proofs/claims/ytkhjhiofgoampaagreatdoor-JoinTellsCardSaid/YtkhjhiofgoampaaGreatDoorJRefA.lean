/-
  The document's Merge, Whole and Inherit.
-/
import Derived.Test.YtkhjhiofgoampaaGreatDoorJInh
import Derived.Test.YtkhjhiofgoampaaGreatDoorRef
namespace Go.Proofs.YtkhjhiofgoampaaGreatDoor.Join
set_option linter.unusedSimpArgs false
set_option linter.unusedVariables false
set_option maxRecDepth 100000


open Go.RowKit Go.Shelf

open Url Show

open Host (none0)

open Path (Strs)

set_option maxRecDepth 100000

theorem segs_sizes (s : ByteArray) (hs : s.size ≤ 9000) : (Path.segs s.data.toList).length ≤ 28000 ∧ ∀ t ∈ Path.segs s.data.toList, t.length ≤ 30000 := by
  have e1 := Path.split_len (Path.enc (Path.strip s.data.toList))
  have e2 := Path.split_sum (Path.enc (Path.strip s.data.toList))
  have e3 : (Path.enc (Path.strip s.data.toList)).length ≤ 3 * (Path.strip s.data.toList).length := Pct.encode_len 3 _
  have e4 := Path.strip_len s.data.toList
  rw [size_list] at e4
  exact ⟨by show (Path.split _).length ≤ _; omega, fun t ht => by have := e2 t ht; omega⟩

set_option maxHeartbeats 8000000 in
theorem refMerge_any (v0 : Value) (L : List T) (hL : L.length ≤ 1000) (hLs : ∀ t ∈ L, t.length ≤ 30000) (s : ByteArray) (hs : s.size ≤ 9000) (w : World) (h0 : Strs w v0 L) :
    Calls Tryz.prog 81 #[v0, .string s] w (GotL w (Path.merge L s.data.toList)) := by
  obtain ⟨i0, hi, hz0, hz1, hz2⟩ := info_parts Path.infoText
  have hsz := segs_sizes s hs
  have CS := Lib.hid (fun u => refSegs_any s (by omega) (Path.segs s.data.toList) rfl u)
  have hm : Path.merge L s.data.toList = Path.norm [] (L.dropLast ++ Path.segs s.data.toList) := rfl
  have CN := Lib.hid (fun v u (hu : Strs u v (L.dropLast ++ Path.segs s.data.toList)) => refNorm_any v (L.dropLast ++ Path.segs s.data.toList) (by rw [List.length_append, List.length_dropLast]; omega) (fun t ht => (List.mem_append.1 ht).elim (fun h => hLs t ((List.dropLast_sublist L).subset h)) (hsz.2 t)) u hu)
  rw [← hm] at CN
  generalize Path.merge L s.data.toList = M at CN ⊢
  have hsl := hsz.1
  have hne : Path.segs s.data.toList ≠ [] := Path.segs_ne _
  generalize Path.segs s.data.toList = G at CS CN hsl hne
  have HS := Lib.hid h0
  have HHs := Lib.hid hLs
  have HNE := Lib.hid hne
  obtain ⟨a, cap, rfl, hc1, hc2, hc3, hc4⟩ := h0
  clear hc4 hc3 hsz hm hLs hne
  go_enter Tryz.func81, Tryz.ntmps81
  go_wp2
  go_loopw [5, 6] (fun v i wr => ∃ k : Nat, k ≤ L.length - 1 ∧ i = .int .i64 k ∧ wr.ownsRow w.heap.size 9 1 v k ((L.take k).map Path.tx) ∧ Below w.heap.size w wr) (fun _ i _ => L.length - (intOf i).toNat)
  case atStart => exact ⟨0, Nat.zero_le _, rfl, World.ownsRow_nil _ _ _ _, Below.refl _ _⟩
  case round =>
    obtain ⟨k, hk, rfl, hrow, hw⟩ := hrel
    by_cases hlt : k < L.length - 1
    · have hkl : k < L.length := by omega
      have q1 : decide ((k : Int) < (L.length : Int) - 1) = true := decide_eq_true (by omega)
      obtain ⟨a1, c1, hv, _, _, _, h4⟩ := HS.out.later hw
      injection hv with e1 e2 e3
      subst e1; subst e3
      obtain ⟨b, off, rfl, hcell⟩ := h4 (by intro e; rw [e] at hkl; simp at hkl)
      have g0 := hcell k hkl
      have hts := HHs.out _ (List.getElem_mem hkl)
      have hkc : k < cap := by omega
      unfold maxLen at hc2
      obtain ⟨t, ht⟩ : ∃ t, (⟨L[k].toArray⟩ : ByteArray) = t := ⟨_, rfl⟩
      have HT := Lib.hid (show (L.take (k + 1)).map Path.tx = (L.take k).map Path.tx ++ [.string t] by
        rw [List.take_add_one, List.map_append, List.getElem?_eq_getElem hkl, ← ht]; rfl)
      rw [ht] at g0
      clear ht hts hcell h4
      go_wp2_with (at_builtin; refine wpList_append_own _ rfl _ _ 25 rfl w.heap.size 9 i0 (.string ⟨#[]⟩) 1 16 Tryz.underlying25 hi hz0 hz1 hz2 rfl (by decide) _ _ _ rfl (hrow.alloc (.cells #[.string t] 9)) ⟨wr.heap.size, 0, none⟩ 1 1 [.string t] rfl rfl (cell_one_new _ _ _) (by simp [Value.oneCell']) (by unfold maxLen; omega) (by omega) (by have := hw.size; simp; omega) ?_; intro v' w2 hown' hgrow hnil)
      have HB2 := (hw.alloc hw.size (.cells #[.string t] 9)).grown hgrow (by have := hw.size; simp; omega) (fun j e => (hrow.lt j e).1)
      rw [← HT.out] at hown'
      go_roundw
      case rel => exact ⟨k + 1, by omega, by go_num, hown', HB2⟩
      case measure => simp [intOf]; omega
    · have q1 : decide ((k : Int) < (L.length : Int) - 1) = false := decide_eq_false (by omega)
      obtain rfl : k = L.length - 1 := by omega
      rw [← List.dropLast_eq_take] at hrow
      have HW := Lib.hid hw
      have HR := Lib.hid hrow
      clear hrow hw
      go_wp2_with fail
      refine (CS.out _).mono ?_
      rintro e w1 ⟨v1, rfl, hst, hnw, hB1⟩
      have hrow1 := Path.owns_below HR.out hB1
      have hw1 := Ascii.below2 HW.out hB1
      obtain ⟨a2, c2, rfl, k1, k2, k3, k4⟩ := hst
      obtain ⟨b2, off2, rfl, k5⟩ := k4 HNE.out
      clear k4 hB1 CS
      have hnews : ∀ (j : Nat) (u : Value), (G.map Path.tx)[j]? = some u → w1.cell? ((⟨b2, off2, none⟩ : Addr).add j) = some u := by
        intro j u hj
        rw [List.getElem?_map] at hj
        obtain ⟨x, hx, rfl⟩ := Option.map_eq_some_iff.1 hj
        obtain ⟨hlt, rfl⟩ := List.getElem?_eq_some_iff.1 hx
        rw [show (⟨b2, off2, none⟩ : Addr).add j = ⟨b2, off2 + j, none⟩ from by unfold Addr.add; split <;> simp_all]
        exact k5 j hlt
      have hones : ∀ u ∈ G.map Path.tx, u.oneCell' = true := by
        intro u hu
        obtain ⟨x, _, rfl⟩ := List.mem_map.1 hu
        rfl
      have hGl : (G.map Path.tx).length = G.length * 1 := by rw [List.length_map, Nat.mul_one]
      have HNW := Lib.hid hnews
      have HON := Lib.hid hones
      clear hnews hones k5
      go_wp2_with (at_builtin; refine wpList_append_own _ rfl _ _ 25 rfl w.heap.size 9 i0 (.string ⟨#[]⟩) 1 16 Tryz.underlying25 hi hz0 hz1 hz2 rfl (by decide) _ _ _ rfl hrow1 ⟨b2, off2, none⟩ G.length c2 (G.map Path.tx) rfl hGl HNW.out HON.out (by unfold maxLen; omega) (by omega) hw1.size ?_; intro v' w2 hown' hgrow hnil)
      have HB2 := hw1.grown hgrow (by have := hw1.size; omega) (fun j e => (hrow1.lt j e).1)
      rw [← List.map_append] at hown'
      have hlen : (L.dropLast ++ G).length = L.length - 1 + G.length := by rw [List.length_append, List.length_dropLast]
      rw [← hlen] at hown'
      have hst2 := Path.owns_strs hown'
      refine (CN.out _ _ hst2).mono ?_
      rintro e w3 ⟨v3, rfl, hst3, hnw3, hB3⟩
      have hfin : Strs w3 v3 M ∧ Path.New w.heap.size v3 ∧ Below w.heap.size w w3 := ⟨hst3, hnw3.mono HB2.size, Ascii.below2 HB2 hB3⟩
      have HF := Lib.hid hfin
      clear hst2 hst3 hnw3 hB3 HB2 hgrow hown' hfin hrow1 hw1
      go_wp2
      go_ret
      exact ⟨_, rfl, HF.out.1, HF.out.2.1, HF.out.2.2⟩

set_option maxHeartbeats 8000000 in
theorem refWhole_any (s : ByteArray) (hs : s.size ≤ 30000) (b : Bool) (hb : wholeB s.data.toList = b) (w : World) :
    Calls Tryz.prog 16 #[.string s] w fun e w' => e = .returned (.bool b) ∧ Below w.heap.size w w' := by
  obtain ⟨c, hc⟩ : ∃ c, tb (Ascii.clean s.data.toList) = c := ⟨_, rfl⟩
  have hc1 : c.size ≤ 30000 := by rw [size_tb hc]; exact Nat.le_trans (clean_len _) hs
  have CC := Lib.hid (fun u => show Calls Tryz.prog 33 #[.string s] u fun e w' => e = .returned (.string c) ∧ Below u.heap.size u w' from by rw [← hc]; exact Ascii.refClean_any s hs u)
  obtain ⟨x, hx⟩ : ∃ x, tb (schS c.data.toList) = x := ⟨_, rfl⟩
  obtain ⟨y, hy⟩ : ∃ x, tb (schR c.data.toList) = x := ⟨_, rfl⟩
  have hb' : schB c.data.toList = b := by rw [list_tb hc]; exact hb
  have CS := Lib.hid (fun u => refScheme_any c hc1 x y b hx hy hb' u)
  clear hc hc1 hx hy hb' hb hs
  go_enter Tryz.func16, Tryz.ntmps16
  go_wp2_with fail
  refine (CC.out _).mono ?_
  rintro e u1 ⟨rfl, hB1⟩
  go_wp2_with fail
  refine (CS.out _).mono ?_
  rintro e u2 ⟨rfl, hB2⟩
  go_wp2
  go_ret
  exact ⟨rfl, Ascii.below2 hB1 hB2⟩

end Go.Proofs.YtkhjhiofgoampaaGreatDoor.Join

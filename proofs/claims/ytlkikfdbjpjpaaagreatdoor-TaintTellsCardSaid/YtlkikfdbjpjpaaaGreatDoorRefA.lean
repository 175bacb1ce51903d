/-
  The document's functions of layer 8: Show and May of paths.
-/
import Derived.Test.YtlkikfdbjpjpaaaGreatDoorRefP
namespace Go.Proofs.YtlkikfdbjpjpaaaGreatDoor.Url
set_option linter.unusedSimpArgs false
set_option linter.unusedVariables false
set_option maxRecDepth 100000


open Go.RowKit Go.Shelf

set_option maxRecDepth 100000

open Host (H mayH showH)

theorem show_snoc_le (L : List T) (k : Nat) (h : k < L.length) : Path.show1 (L.take (k + 1)) = Path.show1 (L.take k) ++ 47 :: L[k] := by
  rw [List.take_succ_eq_append_getElem h, Path.show_snoc]

theorem show_take_le (L : List T) (n : Nat) : (Path.show1 (L.take n)).length ≤ (Path.show1 L).length := by
  induction L generalizing n with
  | nil => simp
  | cons t r ih =>
    cases n with
    | zero => exact Nat.zero_le _
    | succ n =>
      rw [List.take_succ_cons]
      show (47 :: t ++ Path.show1 (r.take n)).length ≤ (47 :: t ++ Path.show1 r).length
      rw [List.length_append, List.length_append]
      have := ih n
      omega

theorem show1_le (K : Nat) (l : List T) (h : ∀ t ∈ l, t.length ≤ K) : (Path.show1 l).length ≤ l.length * (K + 1) := by
  induction l with
  | nil => exact Nat.zero_le _
  | cons a r ih =>
    have h1 := h a (List.mem_cons_self ..)
    have h2 := ih fun t ht => h t (List.mem_cons_of_mem _ ht)
    show (47 :: (a ++ Path.show1 r)).length ≤ (r.length + 1) * (K + 1)
    rw [List.length_cons, List.length_append, Nat.succ_mul]
    omega

set_option maxHeartbeats 8000000 in
theorem refPathMay_any (v0 : Value) (L : List T) (hL : L.length ≤ 30000) (hs : ∀ t ∈ L, t.length ≤ 30000) (b : Bool) (hb : Path.mayP L = b) (w : World) (h0 : Path.Strs w v0 L) :
    Calls Tryz.prog 81 #[v0] w fun e w' => e = .returned (.bool b) ∧ Below w.heap.size w w' := by
  have HS := Lib.hid h0
  obtain ⟨a, cap, rfl, hc1, hc2, hc3, hc4⟩ := h0
  have HHs := Lib.hid hs
  have HB := Lib.hid (show ((L.drop 0).all Path.okT && !L.isEmpty) = b from hb)
  clear hc4 hc3 hs hb
  go_enter Tryz.func81, Tryz.ntmps81
  go_wp2
  go_loopw [3] (fun i wr => ∃ k : Nat, k ≤ L.length ∧ i = .int .i64 k ∧ Hid (((L.drop k).all Path.okT && !L.isEmpty) = b) ∧ Below w.heap.size w wr) (fun i _ => L.length - (intOf i).toNat)
  case atStart => exact ⟨0, Nat.zero_le _, rfl, HB, Below.refl _ _⟩
  case round =>
    obtain ⟨k, hk, rfl, HJ, hw⟩ := hrel
    by_cases hlt : k < L.length
    · have HW := Lib.hid hw
      obtain ⟨a1, c1, hv, _, _, _, h4⟩ := HS.out.later hw
      injection hv with e1 e2 e3
      subst e1; subst e3
      obtain ⟨b0, off, rfl, hcell⟩ := h4 (by intro e; rw [e] at hlt; simp at hlt)
      have g0 := hcell k hlt
      have hts := HHs.out _ (List.getElem_mem hlt)
      have hkc : k < cap := by omega
      unfold maxLen at hc2
      obtain ⟨t, ht⟩ : ∃ t : T, L[k] = t := ⟨_, rfl⟩
      obtain ⟨E, hE⟩ : ∃ E, tb t = E := ⟨_, rfl⟩
      have hdr : L.drop k = t :: L.drop (k + 1) := by rw [← ht]; exact List.drop_eq_getElem_cons hlt
      have HD := Lib.hid (show (Path.okT t && ((L.drop (k + 1)).all Path.okT && !L.isEmpty)) = b from by
        rw [← HJ.out, hdr, List.all_cons, Bool.and_assoc])
      rw [ht] at g0 hts
      have g : wr.cell? ⟨b0, off + k, none⟩ = some (.string E) := by rw [g0, ← hE]; rfl
      have hEs : E.size ≤ 30000 := by rw [size_tb hE]; exact hts
      obtain ⟨r, hr⟩ : ∃ r, Pct.readyB 3 t = r := ⟨_, rfl⟩
      obtain ⟨d, hd⟩ : ∃ d, Path.dotsN t = d := ⟨_, rfl⟩
      have CR := Lib.hid (fun u => refReady_at E (by omega) 3 r (by rw [list_tb hE]; exact hr) u)
      have CD := Lib.hid (fun u => refDots_big E hEs d (by rw [list_tb hE]; exact hd) u)
      have HO := Lib.hid (show Path.okT t = (r && (!t.contains 47 && decide (d = 0))) from by
        unfold Path.okT; rw [hr, hd]; rfl)
      have HE := Lib.hid hE
      clear h4 hcell g0 hts ht hE hdr hr hd hw HJ
      go_wp2_with fail
      refine (CR.out _).mono ?_
      rintro e w1 ⟨rfl, rfl⟩
      clear CR
      cases r
      · have hb : b = false := by rw [← HD.out, HO.out]; rfl
        subst hb
        clear HD HO
        go_wp2
        go_ret
        exact ⟨rfl, HW.out⟩
      go_wp2_with fail
      refine (CD.out _).mono ?_
      rintro e w1 ⟨rfl, hB1⟩
      have hw1 := Ascii.below2 HW.out hB1
      have HW1 := Lib.hid hw1
      have g1 : w1.cell? ⟨b0, off + k, none⟩ = some (.string E) := (hB1.cell (World.block_lt_of_cell? _ _ g)).trans g
      clear CD g hB1 hw1
      by_cases hd0 : d = 0
      case neg =>
        have hb : b = false := by rw [← HD.out, HO.out, decide_eq_false hd0]; simp
        have q0 : decide (0 < d) = true := decide_eq_true (by omega)
        subst hb
        clear HD HO hd0
        go_wp2
        go_ret
        exact ⟨rfl, HW1.out⟩
      have q0 : decide (0 < d) = false := decide_eq_false (by omega)
      have HN := Lib.hid (show ((!(E.data.toList.drop 0).contains 47) && ((L.drop (k + 1)).all Path.okT && !L.isEmpty)) = b from by
        rw [← HD.out, HO.out, decide_eq_true hd0, List.drop_zero, list_tb HE.out]; simp)
      clear HD HO hd0
      go_wp2
      clear q0
      go_loop [5] (fun i => ∃ j : Nat, j ≤ E.size ∧ i = .int .i64 j ∧ Hid (((!(E.data.toList.drop j).contains 47) && ((L.drop (k + 1)).all Path.okT && !L.isEmpty)) = b)) (fun i => E.size - (intOf i).toNat)
      case atStart => exact ⟨0, Nat.zero_le _, rfl, HN⟩
      case round =>
        obtain ⟨j, hj, rfl, HM⟩ := hrel
        by_cases hjl : j < E.size
        · have e := Pct.drop_cons E j hjl
          by_cases h47 : E[j] = 47
          · have q1 : ((E[j].toNat : Int) == 47) = true := by rw [h47]; rfl
            have hb : b = false := by rw [← HM.out, e, h47]; simp
            subst hb
            clear HM e h47
            go_wp2
            go_ret
            exact ⟨rfl, HW1.out⟩
          · have q1 : ((E[j].toNat : Int) == 47) = false := beq_eq_false_iff_ne.2 (fun q => h47 (UInt8.toNat_inj.1 (by simpa using (by omega : E[j].toNat = 47))))
            have HM2 := Lib.hid (show ((!(E.data.toList.drop (j + 1)).contains 47) && ((L.drop (k + 1)).all Path.okT && !L.isEmpty)) = b from by
              rw [← HM.out, e, List.contains_cons, beq_eq_false_iff_ne.2 (Ne.symm h47), Bool.false_or])
            clear HM e h47
            go_wp2
            go_round
            case rel => exact ⟨j + 1, by omega, by go_num, HM2⟩
            case measure => simp [intOf]; omega
        · obtain rfl : j = E.size := by omega
          have HJ := Lib.hid (show ((L.drop (k + 1)).all Path.okT && !L.isEmpty) = b from by
            have e : E.data.toList.drop E.size = [] := List.drop_of_length_le (Nat.le_refl _)
            rw [← HM.out, e]; simp)
          clear HM HN
          go_wp2
          go_roundw
          case rel => exact ⟨k + 1, by omega, by go_num, HJ, HW1.out⟩
          case measure => simp [intOf]; omega
    · obtain rfl : k = L.length := by omega
      have e : decide (0 < L.length) = b := by
        rw [← HJ.out, List.drop_of_length_le (Nat.le_refl _)]
        cases L with
        | nil => rfl
        | cons a r => simp
      clear HJ
      go_wp2
      go_ret
      exact ⟨by first | rfl | rw [e], hw⟩

end Go.Proofs.YtlkikfdbjpjpaaaGreatDoor.Url

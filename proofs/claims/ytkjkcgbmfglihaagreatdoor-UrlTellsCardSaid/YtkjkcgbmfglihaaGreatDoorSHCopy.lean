/-
  show's copy of an address: its own memory.
-/
import Derived.Test.YtkjkcgbmfglihaaGreatDoorSHPut
namespace Go.Proofs.YtkjkcgbmfglihaaGreatDoor.Show
open Go.RowKit Go.Shelf
open Url
open Host (none0)
open Path (Strs)
set_option linter.unusedSimpArgs false
set_option linter.unusedVariables false
set_option maxRecDepth 100000

/-- What is written where it stands already changes nothing. -/
theorem set_same {w : World} {g o : Nat} {v : Value} (h : w.cell? ⟨g, o, none⟩ = some v) : w.setCell ⟨g, o, none⟩ v = w := by
  have e : (w.setCell ⟨g, o, none⟩ v).heap = w.heap := by
    unfold World.cell? at h
    unfold World.setCell
    apply Array.ext_getElem?
    intro i
    simp only [Array.getElem?_modify]
    split
    · rename_i hi
      subst hi
      cases hg : w.heap[g]? with
      | none => rfl
      | some ob =>
        rw [hg] at h
        cases ob with
        | cells cs t fr =>
          simp at h
          simp
          apply Array.ext_getElem?
          intro k
          rw [Array.getElem?_setIfInBounds]
          split
          · rename_i hk
            subst hk
            have : o < cs.size := (Array.getElem?_eq_some_iff.1 h).1
            rw [if_pos this, h]
          · rfl
        | _ => rfl
    · rfl
  have e2 : w.setCell ⟨g, o, none⟩ v = { w with heap := (w.setCell ⟨g, o, none⟩ v).heap } := rfl
  rw [e2, e]
/-- The pointers to an address's texts. -/
def offs : List Nat := [0, 1, 2, 4, 16, 17, 18]
def ptrs (g : Nat) : Array Value := (offs.map fun o => Value.pointer (some ⟨g, o, none⟩)).toArray
theorem text_cell (u : U) (pv : Value) (hf : Fit u) (k : Nat) (hk : k < 7) : ∃ o s, offs[k]? = some o ∧ (cU u pv)[o]? = some (.string s) ∧ s.size ≤ 1000000 := by
  have c := cU_at u pv hf.h8
  match k, hk with
  | 0, _ => exact ⟨0, _, rfl, c.1, hf.sch⟩
  | 1, _ => exact ⟨1, _, rfl, c.2.1, hf.usr⟩
  | 2, _ => exact ⟨2, _, rfl, c.2.2.1, hf.pas⟩
  | 3, _ => exact ⟨4, _, rfl, c.2.2.2.1, by have := hf.hs; omega⟩
  | 4, _ => exact ⟨16, _, rfl, c.2.2.2.2.2.2.1, hf.opq⟩
  | 5, _ => exact ⟨17, _, rfl, c.2.2.2.2.2.2.2.1, hf.qry⟩
  | 6, _ => exact ⟨18, _, rfl, c.2.2.2.2.2.2.2.2.1, hf.frg⟩
theorem ptr_cell {W : World} {g q k o : Nat} (h : W.heap[q]? = some (.cells (ptrs g) 96 (0, 0))) (ho : offs[k]? = some o) : W.cell? ⟨q, 0 + k, none⟩ = some (.pointer (some ⟨g, o, none⟩)) := by
  rw [cell_of_row W q (0 + k) _ 96 (0, 0) h]
  simp [ptrs, ho]
theorem row_frozen {W : World} {g : Nat} {cs : Array Value} {t : TypeId} (h : W.heap[g]? = some (.cells cs t (0, 0))) (o : Nat) : W.frozen? ⟨g, o, none⟩ = false := Lib.frozen_of_heap h o
set_option maxHeartbeats 16000000 in
theorem copied_any (u : U) (pv : Value) (hf : Fit u) (w : World) (hs : Strs w pv u.path) : Calls Tryz.prog 63 #[.agg (cU u pv)] w (Got w u) := by
  obtain ⟨i0, hi, hz0, hz1, hz2⟩ := info_parts Path.infoText
  have HF := Lib.hid hf
  have h1 := UrlAt.new w u pv
  have hb1 := (Below.refl w.heap.size w).alloc (Nat.le_refl _) (.cells (cU u pv) 27)
  have hs1 : (w.alloc (.cells (cU u pv) 27)).heap.size = w.heap.size + 1 := Array.size_push _
  have h2 := UrlAt.new (w.alloc (.cells (cU u pv) 27)) none1 (.slice none 0 0)
  rw [hs1] at h2
  have h12 := h1.past (.cells (cU none1 (.slice none 0 0)) 27)
  have hb2 := hb1.alloc (by omega) (.cells (cU none1 (.slice none 0 0)) 27)
  have hs2 : ((w.alloc (.cells (cU u pv) 27)).alloc (.cells (cU none1 (.slice none 0 0)) 27)).heap.size = w.heap.size + 1 + 1 := by
    rw [show ((w.alloc (.cells (cU u pv) 27)).alloc (.cells (cU none1 (.slice none 0 0)) 27)).heap.size = (w.alloc (.cells (cU u pv) 27)).heap.size + 1 from Array.size_push _, hs1]
  have HB0 := Lib.hid (hb2.alloc (by omega) (.cells (ptrs w.heap.size) 96))
  have HU := Lib.hid (h12.past (.cells (ptrs w.heap.size) 96))
  have HZ := Lib.hid (h2.past (.cells (ptrs w.heap.size) 96))
  have HP := Lib.hid (heap_alloc_new ((w.alloc (.cells (cU u pv) 27)).alloc (.cells (cU none1 (.slice none 0 0)) 27)) (.cells (ptrs w.heap.size) 96))
  rw [hs2] at HP
  have HN := Lib.hid (show (((w.alloc (.cells (cU u pv) 27)).alloc (.cells (cU none1 (.slice none 0 0)) 27)).alloc (.cells (ptrs w.heap.size) 96)).heap.size = w.heap.size + 3 by
    rw [show (((w.alloc (.cells (cU u pv) 27)).alloc (.cells (cU none1 (.slice none 0 0)) 27)).alloc (.cells (ptrs w.heap.size) 96)).heap.size = ((w.alloc (.cells (cU u pv) 27)).alloc (.cells (cU none1 (.slice none 0 0)) 27)).heap.size + 1 from Array.size_push _, hs2])
  have HS := Lib.hid (hs.later HB0.out)
  clear h1 h2 h12 hb1 hb2 hs1 hs2
  obtain ⟨a, cap, rfl, hc1, hc2, _, _⟩ := hs
  go_enter Tryz.func63, Tryz.ntmps63
  go_wp2_with fail
  rw [zero_url, show (#[.pointer (some ⟨w.heap.size, 0, none⟩), .pointer (some ⟨w.heap.size, 1, none⟩), .pointer (some ⟨w.heap.size, 2, none⟩), .pointer (some ⟨w.heap.size, 4, none⟩), .pointer (some ⟨w.heap.size, 16, none⟩), .pointer (some ⟨w.heap.size, 17, none⟩), .pointer (some ⟨w.heap.size, 18, none⟩)] : Array Value) = ptrs w.heap.size from rfl]
  generalize ((w.alloc (.cells (cU u (.slice a u.path.length cap)) 27)).alloc (.cells (cU none1 (.slice none 0 0)) 27)).alloc (.cells (ptrs w.heap.size) 96) = V at HB0 HU HZ HP HN HS ⊢
  go_loopw [18] (fun i wr => ∃ k : Nat, k ≤ 7 ∧ i = .int .i64 k ∧ Hid (Below V.heap.size V wr)) (fun i _ => 7 - (intOf i).toNat)
  case atStart => exact ⟨0, by omega, rfl, Lib.hid (Below.refl _ _)⟩
  case round =>
    obtain ⟨k, hk, rfl, HB⟩ := hrel
    by_cases hlt : k < 7
    · obtain ⟨o, s, ho, hcell, hsz⟩ := text_cell u (.slice a u.path.length cap) HF.out k hlt
      have gp : wr.cell? ⟨w.heap.size + 1 + 1, k, none⟩ = some (.pointer (some ⟨w.heap.size, o, none⟩)) := by
        have := ptr_cell ((HB.out.block _ (Array.getElem?_eq_some_iff.1 HP.out).1).trans HP.out) ho
        rwa [Nat.zero_add] at this
      have HUr := Lib.hid (HU.out.later HB.out)
      have gs : wr.cell? ⟨w.heap.size, o, none⟩ = some (.string s) := (HUr.out.cell o).trans hcell
      clear hcell ho
      go_wp2_with (go_at_call 49; refine (Path.clone_any s (by omega) _).mono ?_; rintro e u1 ⟨rfl, hB1⟩; have HU1 := HUr.out.later hB1; have gs1 : u1.cell? ⟨w.heap.size, o, none⟩ = some (.string s) := (hB1.cell (World.block_lt_of_cell? _ _ gs)).trans gs; have gf1 := row_frozen HU1 o)
      rw [set_same gs1]
      have HB1 := Lib.hid (Ascii.below2 HB.out hB1)
      clear HU1 gs1 gf1 hB1 HB gp gs HUr
      go_roundw
      case rel => exact ⟨k + 1, by omega, by go_num, HB1⟩
      case measure => simp [intOf]; omega
    · obtain rfl : k = 7 := by omega
      have c15 := (HU.out.later HB.out).cell 15
      rw [(cU_at u (.slice a u.path.length cap) HF.out.h8).2.2.2.2.2.1] at c15
      have HSr := Lib.hid (HS.out.later HB.out)
      go_wp2_with fail
      clear c15
      go_loopw [5, 32] (fun v i x => ∃ k : Nat, k ≤ u.path.length ∧ i = .int .i64 k ∧ x.ownsRow V.heap.size 9 1 v k ((u.path.take k).map Path.tx) ∧ Hid (Below V.heap.size V x)) (fun _ i _ => u.path.length - (intOf i).toNat)
      case atStart => exact ⟨0, Nat.zero_le _, rfl, World.ownsRow_nil _ _ _ _, HB⟩
      case round =>
        obtain ⟨k, hk, rfl, hrow, HB⟩ := hrel
        by_cases hlt : k < u.path.length
        · obtain ⟨a1, c1, hv, _, _, _, h4⟩ := HS.out.later HB.out
          injection hv with e1 e2 e3
          subst e1; subst e3
          obtain ⟨b, off, rfl, hcell⟩ := h4 (by intro e; rw [e] at hlt; simp at hlt)
          have g := hcell k hlt
          have hts := HF.out.pt _ (List.getElem_mem hlt)
          have hpn := HF.out.pn
          have hkc : k < cap := by omega
          unfold maxLen at hc2
          obtain ⟨t, ht⟩ : ∃ t, (⟨u.path[k].toArray⟩ : ByteArray) = t := ⟨_, rfl⟩
          have HT := Lib.hid (show (u.path.take (k + 1)).map Path.tx = (u.path.take k).map Path.tx ++ [.string t] by
            rw [List.take_add_one, List.map_append, List.getElem?_eq_getElem hlt, ← ht]; rfl)
          have htz : t.size ≤ 1000000 := by rw [← ht]; exact hts
          rw [ht] at g
          clear ht hts hcell h4
          go_wp2_with (first | (go_at_call 49; refine (Path.clone_any t (by omega) _).mono ?_; rintro e w1 ⟨rfl, hB1⟩; have hrow1 := Path.owns_below hrow hB1; have hw1 := Ascii.below2 HB.out hB1) | (at_builtin; refine wpList_append_own _ rfl _ _ 25 rfl V.heap.size 9 i0 (.string ⟨#[]⟩) 1 16 Tryz.underlying25 hi hz0 hz1 hz2 rfl (by decide) _ _ _ rfl (hrow1.alloc (.cells #[.string t] 9)) ⟨w1.heap.size, 0, none⟩ 1 1 [.string t] rfl rfl (cell_one_new _ _ _) (by simp [Value.oneCell']) (by unfold maxLen; omega) (by omega) (by have := hw1.size; simp; omega) ?_; intro v' w2 hown' hgrow hnil))
          have HB2 := Lib.hid ((hw1.alloc hw1.size (.cells #[.string t] 9)).grown hgrow (by have := hw1.size; simp; omega) (fun j e => (hrow1.lt j e).1))
          rw [← HT.out] at hown'
          go_roundw
          case rel => (repeat apply Exists.intro); exact ⟨⟨k + 1, by omega, by go_num, hown', HB2⟩, rfl⟩
          case measure => simp [intOf]; omega
        · obtain rfl : k = u.path.length := by omega
          rw [List.take_of_length_le (Nat.le_refl _)] at hrow
          have HUx := HU.out.later HB.out
          have HZx := HZ.out.later HB.out
          have c15 := HUx.cell 15
          rw [(cU_at u (.slice a u.path.length cap) HF.out.h8).2.2.2.2.2.1] at c15
          have f15 := row_frozen HUx 15
          have hst := Path.owns_strs hrow
          have hnw := Path.owns_new hrow
          rw [HN.out] at hnw
          have HB1 := Ascii.below2 HB0.out HB.out
          obtain ⟨a2, c2, rfl, _, _, _⟩ := Path.owns_shape hrow
          have hU2 : UrlAt (wr.setCell ⟨w.heap.size, 15, none⟩ (.slice a2 u.path.length c2)) w.heap.size u (.slice a2 u.path.length c2) := HUx.pth HF.out.h8 u.path (.slice a2 u.path.length c2)
          have hZ2 : UrlAt (wr.setCell ⟨w.heap.size, 15, none⟩ (.slice a2 u.path.length c2)) (w.heap.size + 1) none1 (.slice none 0 0) := by
            unfold UrlAt
            rw [Below.heap_setCell _ _ _ _ (by show w.heap.size + 1 ≠ w.heap.size; omega)]
            exact HZx
          have hB2 := below_set HB1 (Nat.le_refl w.heap.size) 15 (.slice a2 u.path.length c2)
          have hst2 := strs_other (V := wr.setCell ⟨w.heap.size, 15, none⟩ (.slice a2 u.path.length c2)) w.heap.size hst (hnw.mono (by omega)) (fun k hk => Below.heap_setCell _ _ _ _ hk)
          have hfin := hZ2.row u (.slice a2 u.path.length c2)
          have hB3 := below_row hB2 (Nat.le_succ w.heap.size) (cU u (.slice a2 u.path.length c2))
          have hst3 := strs_other (V := (wr.setCell ⟨w.heap.size, 15, none⟩ (.slice a2 u.path.length c2)).setRow (w.heap.size + 1) (cU u (.slice a2 u.path.length c2))) (w.heap.size + 1) hst2 (hnw.mono (by omega)) (fun k hk => Url.setRow_other _ _ _ (Ne.symm hk))
          clear HUx HZx hrow hst
          go_wp2_with (first | ((with_reducible refine wp_load27 (o := ⟨some 44, .load 27 (.tmp 1), _, _, _, _⟩) ?_ (.tmp 1) ?_ w.heap.size ?_ u (.slice a2 u.path.length c2) HF.out.h8 hU2 ?_); (· rfl); (· rfl); (· rfl); simp only [Act.put, List.setIfInBounds_toArray, List.set_cons_zero, List.set_cons_succ]) | ((with_reducible refine wp_store27 (o := ⟨none, .store 27 (.tmp 2) (.tmp 44), _, _, _, _⟩) ?_ (.tmp 2) (.tmp 44) ?_ (w.heap.size + 1) ?_ u (.slice a2 u.path.length c2) ?_ HF.out.h8 rfl none1 (.slice none 0 0) rfl hZ2 ?_); (· rfl); (· rfl); (· rfl); (· rfl); simp only [Act.put, List.setIfInBounds_toArray, List.set_cons_zero, List.set_cons_succ]))
          exact bodyPost_ret (ret_url rfl (w.heap.size + 1) u (.slice a2 u.path.length c2) HF.out.h8 rfl hfin) rfl ⟨_, rfl, hst3, hnw.mono (by omega), hB3⟩
end Go.Proofs.YtkjkcgbmfglihaaGreatDoor.Show

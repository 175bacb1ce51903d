/-
  Value(s), field(line).
-/
import Derived.Laws.ResultCell
import Derived.Test.YtagmmdnfbjgmcaaDoorHdSame
namespace Go.Proofs.YtagmmdnfbjgmcaaDoor.Head
set_option linter.unusedSimpArgs false
set_option linter.unusedVariables false
set_option maxRecDepth 100000


open Go.RowKit Go.Shelf

open Url


set_option maxRecDepth 100000 in
set_option maxHeartbeats 1000000 in
theorem value_any (s : ByteArray) (hs : s.size ≤ 1000000) (w : World) :
    Calls Tryd.prog 27 #[.string s] w fun e w' => e = .returned (.bool (valB s.data.toList)) ∧ Below w.heap.size w w' := by
  have hd := Lib.hid (val_def s.data.toList)
  have cc := containsAny_any s hs w
  cases h1 : s.data.toList.any bads.contains
  · rw [h1] at cc
    have hv := Lib.hid (show valB s.data.toList = (trimB s.data.toList == s.data.toList) by rw [hd.out, h1]; rfl)
    have ct := fun u => trim_any s hs u
    obtain ⟨R, hR⟩ : ∃ R : ByteArray, (⟨(trimB s.data.toList).toArray⟩ : ByteArray) = R := ⟨_, rfl⟩
    rw [hR] at ct
    have HR := Lib.hid (show trimB s.data.toList = R.data.toList by rw [← hR])
    clear hd h1 hR
    go_enter Tryd.func27, Tryd.ntmps27
    go_wp2_with fail
    refine cc.mono ?_
    rintro e w1 ⟨rfl, hB1⟩
    go_wp2_with fail
    refine (ct _).mono ?_
    rintro e w2 ⟨rfl, hB2⟩
    have hB := Lib.hid (Ascii.below2 hB1 hB2)
    clear hB1 hB2
    go_wp2
    go_ret
    exact ⟨by rw [hv.out, HR.out, ← ByteArray.toList_eq, ← ByteArray.toList_eq]; rfl, hB.out⟩
  · rw [h1] at cc
    have hv := Lib.hid (show valB s.data.toList = false by rw [hd.out, h1]; rfl)
    clear hd h1
    go_enter Tryd.func27, Tryd.ntmps27
    go_wp2_with fail
    refine cc.mono ?_
    rintro e w1 ⟨rfl, hB1⟩
    go_wp2
    go_ret
    exact ⟨by rw [hv.out]; rfl, hB1⟩

/-- What a line tells, as an answer. -/
def fieldV : Option F → Value
  | some f => .tuple #[.agg #[.string (tb f.1), .string (tb f.2)], .bool true]
  | none => .tuple #[.agg #[.string ⟨#[]⟩, .string ⟨#[]⟩], .bool false]

theorem ret_field2 {fn : Func} {d u : Tmp} (h : fn.results = #[.cell d 42, .tmp u]) {tmps : Array Value} {W : World} {g : Nat} {a b : ByteArray} (hp : tmps.getD d undef = .pointer (some ⟨g, 0, none⟩)) (hg : FAt W g a b) :
    (results fn tmps).run Tryd.prog W = .ok (.tuple #[.agg #[.string a, .string b], tmps.getD u undef]) W := by
  rw [results_cell_tmp h tmps, hp]
  simp [asAddr, Result.andThen, hg.load]

theorem field_no {s : T} (h : s.contains 58 = false ∨ nameB (bef 58 s) = false ∨ valB (trimB (aft 58 s)) = false) : fieldO s = none := by
  unfold fieldO
  rcases h with h | h | h <;> rw [h] <;> simp

theorem field_yes {s : T} (h1 : s.contains 58 = true) (h2 : nameB (bef 58 s) = true) (h3 : valB (trimB (aft 58 s)) = true) : fieldO s = some (bef 58 s, trimB (aft 58 s)) := by
  unfold fieldO
  rw [h1, h2, h3]; rfl

set_option maxRecDepth 100000 in
set_option maxHeartbeats 2000000 in
theorem field_any (s : ByteArray) (hs : s.size ≤ 1000000) (m : Int) (w : World) (hm : Path.MaxAt m w) :
    Calls Tryd.prog 31 #[.string s] w fun e w' => e = .returned (fieldV (fieldO s.data.toList)) ∧ Below w.heap.size w w' := by
  have h0 := FAt.new w ⟨#[]⟩ ⟨#[]⟩
  have hB0 := (Below.refl w.heap.size w).alloc (Nat.le_refl _) (.cells #[.string ⟨#[]⟩, .string ⟨#[]⟩] 42)
  have hc := Tryd.strings_Cut s ⟨#[58]⟩ m _ (by omega) (hm.later hB0)
  rw [show (⟨#[58]⟩ : ByteArray).data.toList = [58] from rfl, cut_is] at hc
  have hbl := bef_len 58 s.data.toList
  have hal := aft_len 58 s.data.toList
  have hsl : s.data.toList.length = s.size := rfl
  have htl := trim_len (aft 58 s.data.toList)
  have cT := fun u => trim_any (tb (aft 58 s.data.toList)) (by rw [tb_size]; omega) u
  rw [tb_list] at cT
  have cN := fun u => name_any (tb (bef 58 s.data.toList)) (by unfold maxLen; rw [tb_size]; omega) u
  rw [tb_list] at cN
  have cV := fun u => value_any (tb (trimB (aft 58 s.data.toList))) (by rw [tb_size]; omega) u
  rw [tb_list] at cV
  have cO := fun u => own_any (tb (bef 58 s.data.toList)) (tb (trimB (aft 58 s.data.toList))) (by rw [tb_size]; omega) (by rw [tb_size]; omega) u
  have HN := Lib.hid (field_no (s := s.data.toList))
  have HY := Lib.hid (field_yes (s := s.data.toList))
  change Calls _ _ _ _ (fun e w' => e = .returned (.tuple #[.string (tb (bef 58 s.data.toList)), .string (tb (aft 58 s.data.toList)), .bool _]) ∧ _) at hc
  change ∀ u, Calls _ _ _ u (fun e w' => e = .returned (.string (tb (trimB (aft 58 s.data.toList)))) ∧ _) at cT
  clear hm hbl hal hsl htl
  generalize hA : tb (bef 58 s.data.toList) = A at hc cN cO
  generalize hV : tb (trimB (aft 58 s.data.toList)) = V at cT cV cO
  generalize tb (aft 58 s.data.toList) = B at hc cT
  have HA := Lib.hid hA
  have HV := Lib.hid hV
  clear hA hV
  generalize s.data.toList.contains 58 = c at hc HN HY
  generalize nameB (bef 58 s.data.toList) = n at cN HN HY
  generalize valB (trimB (aft 58 s.data.toList)) = v at cV HN HY
  go_enter Tryd.func31, Tryd.ntmps31
  go_wp2_with fail
  refine hc.mono ?_
  rintro e w1 ⟨rfl, q, rfl⟩
  have h1 := h0.later (Path.drewN_below (Below.refl _ _) q)
  have hB1 := Path.drewN_below hB0 q
  clear hc h0 hB0
  generalize World.drewN _ q = w1 at h1 hB1 ⊢
  go_wp2_with fail
  refine (cT _).mono ?_
  rintro e w2 ⟨rfl, hB2⟩
  have h2 := h1.later hB2
  have hb2 := Ascii.below2 hB1 hB2
  clear h1 hB1 hB2
  have fin : ∀ (W : World), FAt W w.heap.size ⟨#[]⟩ ⟨#[]⟩ → Below w.heap.size w W → FAt (W.setRow w.heap.size #[.string ⟨#[]⟩, .string ⟨#[]⟩]) w.heap.size ⟨#[]⟩ ⟨#[]⟩ ∧ Below w.heap.size w (W.setRow w.heap.size #[.string ⟨#[]⟩, .string ⟨#[]⟩]) := fun W h hb => ⟨h.row _ _, below_field hb (Nat.le_refl _) _⟩
  cases c
  · have hn := Lib.hid (HN.out (.inl rfl))
    clear HN HY
    go_wp2_with ((with_reducible refine wp_store42 (o := ⟨none, .store 42 (.tmp 2) (.tmp 27), _, _, _, _⟩) ?_ (.tmp 2) (.tmp 27) ?_ w.heap.size ?_ ⟨#[]⟩ ⟨#[]⟩ ?_ ⟨#[]⟩ ⟨#[]⟩ h2 ?_); (· rfl); (· rfl); (· rfl); (· rfl); simp only [Act.put, List.setIfInBounds_toArray, List.set_cons_zero, List.set_cons_succ])
    refine bodyPost_ret (ret_field2 Tryd.results31 rfl (fin w2 h2 hb2).1) rfl ⟨?_, (fin w2 h2 hb2).2⟩
    rw [hn.out]; rfl
  · cases n
    · have hn := Lib.hid (HN.out (.inr (.inl rfl)))
      clear HN HY
      go_wp2_with (first
        | (go_at_call 26; refine (cN _).mono ?_; rintro e w' ⟨rfl, rfl⟩)
        | ((with_reducible refine wp_store42 (o := ⟨none, .store 42 (.tmp 2) (.tmp 27), _, _, _, _⟩) ?_ (.tmp 2) (.tmp 27) ?_ w.heap.size ?_ ⟨#[]⟩ ⟨#[]⟩ ?_ ⟨#[]⟩ ⟨#[]⟩ h2 ?_); (· rfl); (· rfl); (· rfl); (· rfl); simp only [Act.put, List.setIfInBounds_toArray, List.set_cons_zero, List.set_cons_succ]))
      refine bodyPost_ret (ret_field2 Tryd.results31 rfl (fin w2 h2 hb2).1) rfl ⟨?_, (fin w2 h2 hb2).2⟩
      rw [hn.out]; rfl
    · go_wp2_with (go_at_call 26; refine (cN _).mono ?_; rintro e w' ⟨rfl, rfl⟩)
      refine (cV _).mono ?_
      rintro e w3 ⟨rfl, hB3⟩
      have h3 := h2.later hB3
      have hb3 := Ascii.below2 hb2 hB3
      clear h2 hb2 hB3
      cases v
      · have hn := Lib.hid (HN.out (.inr (.inr rfl)))
        clear HN HY
        go_wp2_with ((with_reducible refine wp_store42 (o := ⟨none, .store 42 (.tmp 2) (.tmp 27), _, _, _, _⟩) ?_ (.tmp 2) (.tmp 27) ?_ w.heap.size ?_ ⟨#[]⟩ ⟨#[]⟩ ?_ ⟨#[]⟩ ⟨#[]⟩ h3 ?_); (· rfl); (· rfl); (· rfl); (· rfl); simp only [Act.put, List.setIfInBounds_toArray, List.set_cons_zero, List.set_cons_succ])
        refine bodyPost_ret (ret_field2 Tryd.results31 rfl (fin w3 h3 hb3).1) rfl ⟨?_, (fin w3 h3 hb3).2⟩
        rw [hn.out]; rfl
      · have hn := Lib.hid (HY.out (by trivial) (by trivial) (by trivial))
        clear HN HY
        go_wp2_with fail
        refine (cO _).mono ?_
        rintro e w4 ⟨rfl, hB4⟩
        have h4 := h3.later hB4
        have hb4 := Ascii.below2 hb3 hB4
        clear h3 hb3 hB4
        go_wp2_with ((with_reducible refine wp_store42 (o := ⟨none, .store 42 (.tmp 2) (.tmp 30), _, _, _, _⟩) ?_ (.tmp 2) (.tmp 30) ?_ w.heap.size ?_ A V ?_ ⟨#[]⟩ ⟨#[]⟩ h4 ?_); (· rfl); (· rfl); (· rfl); (· rfl); simp only [Act.put, List.setIfInBounds_toArray, List.set_cons_zero, List.set_cons_succ])
        refine bodyPost_ret (ret_field2 Tryd.results31 rfl (h4.row A V)) rfl ⟨?_, below_field hb4 (Nat.le_refl _) _⟩
        rw [hn.out]
        show _ = Ending.returned (.tuple #[.agg #[.string (tb (bef 58 s.data.toList)), .string (tb (trimB (aft 58 s.data.toList)))], .bool true])
        rw [HA.out, HV.out]
        rfl

end Go.Proofs.YtagmmdnfbjgmcaaDoor.Head

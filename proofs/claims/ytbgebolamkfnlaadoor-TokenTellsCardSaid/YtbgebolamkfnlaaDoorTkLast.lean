/-
  last(l, told): a range from the end that leaves at the first policy; Last(s).
-/
import Derived.Test.YtbgebolamkfnlaaDoorTkBack
namespace Go.Proofs.YtbgebolamkfnlaaDoor.Token
set_option linter.unusedSimpArgs false
set_option linter.unusedVariables false
set_option maxRecDepth 100000


open Go.RowKit Go.Shelf

open Url

open Path (Strs tx MaxAt)

open Head (F tb tb_of tb_list tb_toList tb_size Flds FAt trimB trim_any trim_len)

attribute [local go_sem] Oper.semAt_some

theorem keeps_below {W W' : World} (h : Below W.heap.size W W') (D : Nat) : KeepsFrom D W W' := ⟨h.size, fun k o _ hk _ => (h.block k (Array.getElem?_eq_some_iff.1 hk).1).trans hk⟩

/-- What is told of these, from the end. -/
def seen (ps : List Item) : Nat := lastN (ps.map fun x => polB x.1.2).reverse

theorem seen_snoc (ps : List Item) (x : Item) (h : seen ps = 0) : seen (ps ++ [x]) = polB x.1.2 := by
  unfold seen at *
  rw [List.map_append, List.reverse_append]
  show (if lastN (ps.map fun x => polB x.1.2).reverse = 0 then polB x.1.2 else _) = _
  rw [if_pos h]

theorem seen_all (ys : List Item) (L : List T) (h : vals ys = revs L) : seen ys = lastL L := by
  unfold seen lastL
  have e : (ys.map fun x => polB x.1.2) = ((vals ys).map (·.2)).map polB := by simp [vals]
  rw [e, h, revs_snd, List.map_reverse, List.reverse_reverse]

theorem seen_part (ps : List Item) (L : List T) (h : vals ps <+: revs L) (h0 : seen ps ≠ 0) : seen ps = lastL L := by
  obtain ⟨t, ht⟩ := h
  unfold seen lastL at *
  have e : (ps.map fun x => polB x.1.2) = ((vals ps).map (·.2)).map polB := by simp [vals]
  have e2 : (L.map polB) = ((t.map (·.2)).map polB).reverse ++ (ps.map fun x => polB x.1.2).reverse := by
    have h2 := revs_snd L
    rw [← ht, List.map_append] at h2
    have h3 := congrArg List.reverse h2
    rw [List.reverse_reverse] at h3
    rw [← h3, e]
    simp
  rw [e2, lastN_app, if_neg h0]

set_option maxRecDepth 100000 in
set_option maxHeartbeats 8000000 in
theorem last_in (v : Value) (L : List T) (hs : ∀ t ∈ L, t.length ≤ 1000000) (B : Nat) (w : World) (h : Strs w v L) (hP : PolsAt w B) :
    CallsIn Fence.wide 5 Tryd.prog 30 #[v, .func (.func 46) #[] #[.pointer (some ⟨B, 0, none⟩)]] w fun e W' => e = .returned (.int .i64 (lastL L : Nat)) ∧ Below w.heap.size w W' := by
  have hS := Lib.hid h
  obtain ⟨a, c, rfl, h1, h2, h3, h4⟩ := h
  clear h3 h4
  refine callsIn_of_wp_marks Tryd.func30 rfl trivial ?_ rfl
  simp only [Tryd.ntmps30, List.size_toArray, List.length_cons, List.length_nil, Nat.reduceAdd, Nat.reduceSub, Array.replicate_succ, Array.replicate_zero, List.push_toArray, List.append_toArray, List.nil_append, List.cons_append]
  have b0 := (Boxed.new w 28 (.func (.func 46) #[] #[.pointer (some ⟨B, 0, none⟩)])).alloc (.cells #[.int .i64 0] 3)
  have b1 := Boxed.new (w.alloc (.cells #[.func (.func 46) #[] #[.pointer (some ⟨B, 0, none⟩)]] 28)) 3 (.int .i64 0)
  have b2 := Boxed.new ((w.alloc (.cells #[.func (.func 46) #[] #[.pointer (some ⟨B, 0, none⟩)]] 28)).alloc (.cells #[.int .i64 0] 3)) 3 (.int .i64 0)
  have bS := Boxed.new (((w.alloc (.cells #[.func (.func 46) #[] #[.pointer (some ⟨B, 0, none⟩)]] 28)).alloc (.cells #[.int .i64 0] 3)).alloc (.cells #[.int .i64 0] 3)) 26 (.slice a L.length c)
  simp only [World.size_alloc] at b1 b2 bS
  have hB0 : Below w.heap.size w ((((w.alloc (.cells #[.func (.func 46) #[] #[.pointer (some ⟨B, 0, none⟩)]] 28)).alloc (.cells #[.int .i64 0] 3)).alloc (.cells #[.int .i64 0] 3)).alloc (.cells #[.slice a L.length c] 26)) := ((((Below.refl _ w).alloc (Nat.le_refl _) _).alloc (by simp) _).alloc (by simp; omega) _).alloc (by simp; omega) _
  have hsz : ((((w.alloc (.cells #[.func (.func 46) #[] #[.pointer (some ⟨B, 0, none⟩)]] 28)).alloc (.cells #[.int .i64 0] 3)).alloc (.cells #[.int .i64 0] 3)).alloc (.cells #[.slice a L.length c] 26)).heap.size = w.heap.size + 4 := by simp
  have a0 := (b0.alloc (.cells #[.int .i64 0] 3)).alloc (.cells #[.slice a L.length c] 26)
  have a1 := (b1.alloc (.cells #[.int .i64 0] 3)).alloc (.cells #[.slice a L.length c] 26)
  have a2 := b2.alloc (.cells #[.slice a L.length c] 26)
  clear b0 b1 b2
  gi_wp2_with fail
  refine ⟨trivial, (back_in Fence.wide _ trivial rfl _ _ _ _).mono ?_⟩
  rintro e w4 ⟨rfl, rfl⟩
  simp only [World.size_alloc]
  generalize (((w.alloc (.cells #[.func (.func 46) #[] #[.pointer (some ⟨B, 0, none⟩)]] 28)).alloc (.cells #[.int .i64 0] 3)).alloc (.cells #[.int .i64 0] 3)).alloc (.cells #[.slice a L.length c] 26) = W0 at a0 a1 a2 bS hB0 hsz ⊢
  gi_wp2_with fail
  refine wpIn_rangeFunc_ownG rfl (by omega) (gf := 62) (lb := #[.pointer (some ⟨w.heap.size + 1 + 1 + 1, 0, none⟩)]) rfl trivial (enters_of Tryd.func62 (by kernel_rfl) rfl)
    (back_stops Fence.wide 4 trivial rfl (by omega) (w.heap.size + 1 + 1 + 1) (.slice a L.length c) L hs W0 ⟨bS.cell, hS.out.later hB0⟩) keepsL_t keepsL_b (Below.refl _ _) (fun _ => rfl)
    (fun pre W => (((((seen pre = 0) ∧ Boxed W w.heap.size 28 (.func (.func 46) #[] #[.pointer (some ⟨B, 0, none⟩)])) ∧ Boxed W (w.heap.size + 1) 3 (.int .i64 0)) ∧ Boxed W (w.heap.size + 1 + 1) 3 (.int .i64 0)) ∧ Below w.heap.size w W))
    (fun c pre W => (((c = .ret ∧ seen pre ≠ 0) ∧ Boxed W (w.heap.size + 1) 3 (.int .i64 (seen pre : Nat))) ∧ Below w.heap.size w W))
    (OwnFrom.and (OwnFrom.and (OwnFrom.and (OwnFrom.and (ownFrom_pure _ _) (Own.from (boxed_own _ _ _) _)) (Own.from (boxed_own _ _ _) _)) (Own.from (boxed_own _ _ _) _)) (ownFrom_below (Nat.le_refl _) (by omega)))
    (fun c => OwnFrom.and (OwnFrom.and (ownFrom_pure _ _) (Own.from (boxed_own _ _ (fun pre => .int .i64 (seen pre : Nat))) _)) (ownFrom_below (Nat.le_refl _) (by omega)))
    ⟨⟨⟨⟨rfl, a0⟩, a1⟩, a2⟩, hB0⟩
    (fun x => { tmps := #[.slice a L.length c, .func (.func 46) #[] #[.pointer (some ⟨B, 0, none⟩)], undef, .pointer (some ⟨w.heap.size, 0, none⟩), .pointer (some ⟨w.heap.size + 1, 0, none⟩), .pointer (some ⟨w.heap.size + 1 + 1, 0, none⟩), undef, .string (tb x.1.2), undef, .slice a L.length c, .func (.func 62) #[] #[.pointer (some ⟨w.heap.size + 1 + 1 + 1, 0, none⟩)], .int .i64 (x.1.1 : Nat), .string (tb x.1.2), undef, undef, undef, undef, undef, undef, undef, undef], defers := [] }) ?assign ?body ?done ?stop
  case assign =>
    intro l x W K hK
    gi_wp2
    exact hK
  case body =>
    rintro l pre ⟨⟨i, x⟩, hx⟩ W ⟨⟨⟨⟨hok, c0⟩, c1⟩, c2⟩, hB⟩ hlt
    have ct := tells_any (tb x) (by rw [tb_size]; exact hx) B W (hP.later hB)
    rw [tb_list] at ct
    have HS := Lib.hid (seen_snoc pre ⟨(i, x), hx⟩ hok)
    simp only at HS hx
    have hlt9 := pol_lt x
    generalize polB x = p at ct HS hlt9
    have g0 := c0.cell
    have g2 := c2.cell
    have hBs := hB.size
    generalize tb x = X at ct ⊢
    gi_wp2_with fail
    refine ⟨trivial, (CallsIn.inRound l (callsIn_wide.2 ct)).mono ?_⟩
    rintro e W1 ⟨rfl, hB1⟩
    have h1 := hB.trans (hB1.mono hBs)
    have e0 := Path.boxed_below c0 hB1
    have e1 := Path.boxed_below c1 hB1
    have e2 := Path.boxed_below c2 hB1
    have k2 := e2.cell
    have k1 := e1.cell
    have f1 := e1.frozen
    have hkf := keeps_below hB1 W0.heap.size
    have HKL := Lib.hid (fun hh : HeldL (w.heap.size + 1 + 1 + 1) (.slice a L.length c) L W => hh.later hB1)
    by_cases h0 : p = 0
    · subst h0
      gi_wp2
      exact ⟨hkf, HKL.out, ⟨⟨⟨HS.out, e0⟩, e1⟩, e2⟩, h1⟩
    · have q : ((p : Int) != 0) = true := by simpa using h0
      have HN := Lib.hid h0
      clear h0
      have e3 := e1.set (.int .i64 (p : Nat))
      have h3 := h1.setCell (p := ⟨w.heap.size + 1, 0, none⟩) (by simp) (.int .i64 (p : Nat))
      have hk3 := hkf.trans ((KeepsOthers.setCell W1 ⟨w.heap.size + 1, 0, none⟩ (.int .i64 (p : Nat))).from _)
      gi_wp2
      refine ⟨hk3, ⟨⟨rfl, ?_⟩, ?_⟩, h3⟩
      · rw [HS.out]; exact HN.out
      · rw [HS.out]; exact e3
  case done =>
    rintro D ys W hD hys ⟨⟨⟨⟨hok, c0⟩, c1⟩, c2⟩, hB⟩ hK
    have hR : Hid (lastL L = 0) := Lib.hid (by rw [← seen_all ys L hys]; exact hok)
    have g2 := c2.cell
    have g1 := c1.cell
    have f1 := c1.frozen
    have k1 := c1.set (.int .i64 0)
    have hb3 := hB.setCell (p := ⟨w.heap.size + 1, 0, none⟩) (by simp) (.int .i64 0)
    have hK3 := (KeepsOthers.setCell W ⟨w.heap.size + 1, 0, none⟩ (.int .i64 0)).same D _ hK rfl
    gi_wp2
    refine ⟨by simp, .inl ⟨_, _, rfl, run_takeDeferred hK3, ?_⟩⟩
    have m1 := cell_kept k1.cell (grownBy_putObj' _ D (.deferred none)) (fun r e => by cases e; exact ⟨_, hK3, rfl⟩)
    refine ⟨.int .i64 0, ?_, by rw [hR.out]; rfl, hb3.trans (belowK_b (w := w) (Nat.le_refl _) _ D _ _ (by omega) hK3 rfl rfl)⟩
    simp [results, Tryd.f30, go_sem, m1]
  case stop =>
    rintro D c pre W hD hpre ⟨⟨⟨rfl, hno⟩, c1⟩, hB⟩ hK
    have hR : Hid (seen pre = lastL L) := Lib.hid (seen_part pre L hpre hno)
    gi_wp2
    refine ⟨by simp, .inl ⟨_, _, rfl, run_takeDeferred hK, ?_⟩⟩
    have m1 := cell_kept c1.cell (grownBy_putObj' _ D (.deferred none)) (fun r e => by cases e; exact ⟨_, hK, rfl⟩)
    refine ⟨.int .i64 (seen pre : Nat), ?_, by rw [hR.out], hB.trans (belowK_b (w := w) (Nat.le_refl _) W D _ _ (by omega) hK rfl rfl)⟩
    simp [results, Tryd.f30, go_sem, m1]

set_option maxRecDepth 100000 in
set_option maxHeartbeats 2000000 in
theorem last_any (s : ByteArray) (hs : s.size ≤ 1000000) (m : Int) (w : World) (hm : TokAt m w) :
    Calls Tryd.prog 18 #[.string s] w fun e w' => e = .returned (.int .i64 (lastB s.data.toList : Nat)) ∧ Below w.heap.size w w' := by
  go_enter Tryd.func18, Tryd.ntmps18
  go_wp2_with fail
  refine (split_any s hs m w hm.max).mono ?_
  rintro e w1 ⟨v, rfl, hS, hB1⟩
  go_wp2_with fail
  refine (policies_any m w1 (hm.later hB1)).mono ?_
  rintro e w2 ⟨B, rfl, hP, hB2⟩
  have hS2 := hS.later hB2
  have hb2 := Ascii.below2 hB1 hB2
  have hsl : s.data.toList.length = s.size := rfl
  go_wp2_with fail
  refine (callsIn_wide.1 (last_in v (splitL s.data.toList) (fun t ht => by have := (split_mem s.data.toList t ht).2.2.2; omega) B w2 hS2 hP)).mono ?_
  rintro e w3 ⟨rfl, hB3⟩
  go_wp2
  go_ret
  exact ⟨rfl, Ascii.below2 hb2 hB3⟩

end Go.Proofs.YtbgebolamkfnlaaDoor.Token

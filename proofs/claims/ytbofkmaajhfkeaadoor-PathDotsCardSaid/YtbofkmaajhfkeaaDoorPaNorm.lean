/-
  Norm: segments without dots: a range over each(l), the closure that puts behind, the slice that is cut back.
-/
import Derived.Test.YtbofkmaajhfkeaaDoorPaEach
namespace Go.Proofs.YtbofkmaajhfkeaaDoor.Path
open Go.RowKit Go.Shelf
set_option linter.unusedSimpArgs false
set_option linter.unusedVariables false
attribute [local go_sem] Oper.semAt_some

/-- What is out behind some segments. -/
def outP (ps : List (T × Bool)) : List T := ps.foldl (fun o p => step o p.2 p.1) []
theorem outP_snoc (ps : List (T × Bool)) (x : T × Bool) : outP (ps ++ [x]) = step (outP ps) x.2 x.1 := by simp [outP]
theorem outP_len (ps : List (T × Bool)) : (outP ps).length ≤ ps.length := by
  refine snocInd (p := fun ps => (outP ps).length ≤ ps.length) (by simp [outP]) (fun l c ih => ?_) ps
  show (outP (l ++ [c])).length ≤ _
  rw [outP_snoc]
  have := step_len (outP l) c.2 c.1
  simp
  omega
theorem fold_pairs (L : List T) (out : List T) (h : L ≠ []) : (pairs L).foldl (fun o p => step o p.2 p.1) out = norm out L := by
  induction L generalizing out with
  | nil => exact absurd rfl h
  | cons s r ih =>
    by_cases hr : r = []
    · subst hr
      rw [norm_one]
      simp [pairs]
    · rw [norm_cons out s r hr, ← ih _ hr]
      have : pairs (s :: r) = (s, false) :: pairs r := by
        have h1 : r.length ≠ 0 := fun e => hr (List.length_eq_zero_iff.1 e)
        simp [pairs, List.mapIdx_cons]
        omega
      rw [this]
      rfl
theorem outP_all (L : List T) : outP (pairs L) = norm [] L := by
  by_cases h : L = []
  · subst h; rw [norm_nil]; rfl
  · exact fold_pairs L [] h

theorem keeps_below {W W' : World} (h : Below W.heap.size W W') (D : Nat) : KeepsFrom D W W' := ⟨h.size, fun k o _ hk _ => (h.block k (Array.getElem?_eq_some_iff.1 hk).1).trans hk⟩
theorem Turned.keeps {Bo B : Nat} {W W' : World} {t : TypeId} {u v : Value} {k : Nat} {xs : List Value} (h : Turned Bo v.ownBlock W W') (hv : Boxed W Bo t u) (hr : W.ownsRow B 9 1 v k xs) (D : Nat) : KeepsFrom D W W' := by
  refine ⟨h.size, fun j o _ hj ho => (h.block j (Array.getElem?_eq_some_iff.1 hj).1 (fun e => ?_) (fun e => ?_)).trans hj⟩
  · subst e
    rw [show W.heap[j]? = _ from hv] at hj; cases hj; cases ho
  · rcases hr.2 with ⟨rfl, _⟩ | ⟨g, cap, cur, rfl, _, hgb, _⟩
    · simp [Value.ownBlock] at e
    · obtain rfl : j = g := by simpa [Value.ownBlock] using e
      rw [hgb] at hj; cases hj; cases ho
theorem Turned.below {Bo B : Nat} {W W' : World} {v : Value} {k : Nat} {xs : List Value} (h : Turned Bo v.ownBlock W W') (hr : W.ownsRow B 9 1 v k xs) (hB : B ≤ Bo) (hw : B ≤ W.heap.size) : Below B W W' := by
  refine ⟨h.os, h.tape, h.output, h.size, fun j hj => h.block j (by omega) (by omega) (fun e => ?_)⟩
  rcases hr.2 with ⟨rfl, _⟩ | ⟨g, cap, cur, rfl, hg, hgb, _⟩
  · simp [Value.ownBlock] at e
  · obtain rfl : j = g := by simpa [Value.ownBlock] using e
    omega
theorem Turned.boxed {Bo B b : Nat} {W W' : World} {t : TypeId} {u v : Value} {k : Nat} {xs : List Value} (h : Turned Bo v.ownBlock W W') (hr : W.ownsRow B 9 1 v k xs) (hb : Boxed W b t u) (hne : b ≠ Bo) (ht : t ≠ 9) : Boxed W' b t u :=
  (h.block b hb.lt hne (hb.not_row ht hr)).trans hb

/-- A slice that owns its row, as a slice that holds texts. -/
theorem owns_strs {W : World} {B : Nat} {v : Value} {l : List T} (h : W.ownsRow B 9 1 v l.length (l.map tx)) : Strs W v l := by
  rcases h.2 with ⟨rfl, hn⟩ | ⟨g, cap, cur, rfl, _, hg, h1, h2, h3, h4⟩
  · obtain rfl : l = [] := List.length_eq_zero_iff.1 hn
    exact Strs.nil W
  · refine ⟨_, cap, rfl, h1, h2, (fun e => by cases e), fun _ => ⟨g, 0, rfl, fun j hj => ?_⟩⟩
    rw [World.cell?, hg]
    have e : cur[j]? = some (tx l[j]) := by
      have h5 : (cur.toList.take (l.length * 1))[j]? = (l.map tx)[j]? := by rw [h4]
      rw [List.getElem?_take_of_lt (by omega), List.getElem?_map, List.getElem?_eq_getElem hj] at h5
      simpa using h5
    simp [e, tx]
theorem owns_shape {W : World} {B : Nat} {v : Value} {n : Nat} {xs : List Value} (h : W.ownsRow B 9 1 v n xs) : ∃ a c, v = .slice a n c ∧ n ≤ c ∧ c ≤ maxLen ∧ (a = none → c = 0) := by
  rcases h.2 with ⟨rfl, rfl⟩ | ⟨g, cap, cur, rfl, _, hg, h1, h2, h3, h4⟩
  · exact ⟨none, 0, rfl, Nat.le_refl _, Nat.zero_le _, fun _ => rfl⟩
  · exact ⟨_, cap, rfl, h1, h2, fun e => by cases e⟩
theorem owns_cut {W : World} {B : Nat} {a : Option Addr} {c : Nat} {l : List T} (h : W.ownsRow B 9 1 (.slice a l.length c) l.length (l.map tx)) : W.ownsRow B 9 1 (.slice a (l.length - 1) c) l.dropLast.length (l.dropLast.map tx) := by
  refine ⟨by simp, ?_⟩
  rcases h.2 with ⟨e, hn⟩ | ⟨g, cap, cur, e, hb, hg, h1, h2, h3, h4⟩
  · obtain rfl : l = [] := List.length_eq_zero_iff.1 hn
    cases e
    exact .inl ⟨rfl, rfl⟩
  · cases e
    refine .inr ⟨g, _, cur, by simp, hb, hg, by simp; omega, h2, h3, ?_⟩
    have : l.dropLast.map tx = (l.map tx).take (l.length - 1) := by rw [List.dropLast_eq_take, List.map_take]
    rw [this, ← h4, List.take_take]
    congr 1
    simp

theorem dots_at (t : T) (hs : t.length ≤ 1000000) (d : Int) (hd : ((dotsN t : Nat) : Int) = d) (m : Int) (w : World) (hm : MaxAt m w) :
    Calls Tryd.prog 16 #[.string ⟨t.toArray⟩] w fun e w' => e = .returned (.int .i64 d) ∧ Below w.heap.size w w' := by
  subst hd
  exact dots_any ⟨t.toArray⟩ hs m w hm

set_option maxRecDepth 100000 in
set_option maxHeartbeats 4000000 in
theorem norm_in (a : Option Addr) (c : Nat) (L : List T) (hL : L.length ≤ 100000) (hs : ∀ t ∈ L, t.length ≤ 1000000) (m : Int) (w : World) (hm : MaxAt m w) (hv0 : Strs w (.slice a L.length c) L) :
    CallsIn Fence.wide 5 Tryd.prog 15 #[.slice a L.length c] w fun e W' => ∃ v', e = .returned v' ∧ W'.ownsRow w.heap.size 9 1 v' (norm [] L).length ((norm [] L).map tx) ∧ Below w.heap.size w W' := by
  refine callsIn_of_wp_marks Tryd.func15 rfl trivial ?_ rfl
  simp only [Tryd.ntmps15, List.size_toArray, List.length_cons, List.length_nil, Nat.reduceAdd, Nat.reduceSub, Array.replicate_succ, Array.replicate_zero, List.push_toArray, List.append_toArray, List.nil_append, List.cons_append]
  gi_wp2_with (refine ⟨trivial, ?_⟩; gi_at_call 25; refine (each_in Fence.wide _ trivial rfl a L.length c _).mono ?_; rintro e w' ⟨rfl, rfl⟩)
  have bO := ((Boxed.new w 22 (.slice none 0 0)).alloc (.cells #[.func (.func 23) #[] #[.pointer (some ⟨w.heap.size, 0, none⟩)]] 48)).alloc (.cells #[.slice a L.length c] 22)
  have bF := (Boxed.new (w.alloc (.cells #[.slice none 0 0] 22)) 48 (.func (.func 23) #[] #[.pointer (some ⟨w.heap.size, 0, none⟩)])).alloc (.cells #[.slice a L.length c] 22)
  have bS := Boxed.new ((w.alloc (.cells #[.slice none 0 0] 22)).alloc (.cells #[.func (.func 23) #[] #[.pointer (some ⟨w.heap.size, 0, none⟩)]] 48)) 22 (.slice a L.length c)
  have hB0 := (((Below.refl w.heap.size w).alloc (Nat.le_refl _) (.cells #[.slice none 0 0] 22)).alloc (by simp) (.cells #[.func (.func 23) #[] #[.pointer (some ⟨w.heap.size, 0, none⟩)]] 48)).alloc (by simp; omega) (.cells #[.slice a L.length c] 22)
  simp only [World.size_alloc] at bO bF bS
  refine wpIn_rangeFunc_ownG rfl (by omega) (gf := 37) (lb := #[.pointer (some ⟨w.heap.size + 1 + 1, 0, none⟩)]) rfl trivial (enters_of Tryd.func37 (by kernel_rfl) rfl)
    (each_stops Fence.wide 4 trivial rfl (by omega) (w.heap.size + 1 + 1) (.slice a L.length c) L hs _ ⟨bS.cell, hv0.later hB0⟩) keepsL_t keepsL_b (Below.refl _ _) (fun _ => rfl)
    (fun pre W => (∃ u, Boxed W w.heap.size 22 u ∧ W.ownsRow w.heap.size 9 1 u (outP (vals pre)).length ((outP (vals pre)).map tx) ∧ True) ∧ Boxed W (w.heap.size + 1) 48 (.func (.func 23) #[] #[.pointer (some ⟨w.heap.size, 0, none⟩)]) ∧ Boxed W (w.heap.size + 1 + 1) 22 (.slice a L.length c) ∧ Below w.heap.size w W)
    (fun _ _ _ => False)
    (OwnFrom.and (Own.from (holdsRow_own w.heap.size w.heap.size 22 9 1 (fun pre => (outP (vals pre)).length) (fun pre => (outP (vals pre)).map tx) (fun _ _ => True)) _) (OwnFrom.and (Own.from (boxed_own _ _ _) _) (OwnFrom.and (Own.from (boxed_own _ _ _) _) (ownFrom_below (Nat.le_refl _) (by simp; omega)))))
    (fun _ _ _ _ _ hs _ _ => hs)
    ⟨⟨_, bO, ⟨rfl, .inl ⟨rfl, rfl⟩⟩, trivial⟩, bF, bS, hB0⟩
    (fun x => { tmps := #[.slice a L.length c, undef, .slice none 0 0, .pointer (some ⟨w.heap.size, 0, none⟩), .pointer (some ⟨w.heap.size + 1, 0, none⟩), tx x.1.1, .bool x.1.2, undef, .func (.func 23) #[] #[.pointer (some ⟨w.heap.size, 0, none⟩)], .slice a L.length c, .func (.func 37) #[] #[.pointer (some ⟨w.heap.size + 1 + 1, 0, none⟩)], tx x.1.1, .bool x.1.2, undef, undef, undef, undef, undef, undef, undef, undef, undef, undef, undef, undef, undef, undef, undef, undef, undef], defers := [] }) ?assign ?body ?done ?stop
  case assign =>
    intro l x W K hK
    gi_wp2
    exact hK
  case body =>
    rintro l pre ⟨⟨t, q⟩, ht⟩ W ⟨⟨u, hv, hrow, _⟩, hF, hS, hB⟩ hlt
    have hstep : outP (vals (pre ++ [⟨(t, q), ht⟩])) = step (outP (vals pre)) q t := by rw [vals_snoc, outP_snoc]
    have hlen : (outP (vals pre)).length ≤ 100000 := by
      have h1 := outP_len (vals pre)
      have h2 : (vals pre).length = pre.length := by simp [vals]
      omega
    have HS := Lib.hid hstep
    clear hstep
    generalize outP (vals pre) = out at hrow HS hlen
    have hmW := hm.later hB
    have hB0' := hB.size
    simp only at ht
    rcases dots_cases t with ⟨hd, _⟩ | ⟨hd, _⟩ | ⟨hd, _⟩
    · -- one dot
      have HD := dots_at t ht 1 (by rw [hd]; rfl) m W hmW
      have h1 := step_one out q t hd
      clear hd
      cases q
      · gi_wp2_with fail
        refine ⟨trivial, (CallsIn.inRound l (callsIn_wide.2 HD)).mono ?_⟩
        rintro e W1 ⟨rfl, hB1⟩
        gi_wp2
        exact ⟨keeps_below hB1 _, fun h => h.later hB1, ⟨u, boxed_below hv hB1, by rw [HS.out, h1]; exact owns_below hrow hB1, trivial⟩, boxed_below hF hB1, boxed_below hS hB1, hB.trans (hB1.mono hB0')⟩
      · gi_wp2_with fail
        refine ⟨trivial, (CallsIn.inRound l (callsIn_wide.2 HD)).mono ?_⟩
        rintro e W1 ⟨rfl, hB1⟩
        have hv1 := boxed_below hv hB1
        have hrow1 := owns_below hrow hB1
        have hF1 := boxed_below hF hB1
        have hS1 := boxed_below hS hB1
        have hc1 := hF1.cell
        have hsz := hB1.size
        gi_wp2_with fail
        refine ⟨trivial, (CallsIn.inRound l (callsIn_wide.2 (behind_any w.heap.size w.heap.size u out ⟨#[]⟩ W1 (by decide) hv1 hrow1 (by omega) (by omega)))).mono ?_⟩
        rintro e W2 ⟨⟨_, rfl⟩, v', hv2, hrow2, ht2⟩
        have hb2 := ht2.below hrow1 (Nat.le_refl _) (by omega)
        have hB2 := (hB.trans (hB1.mono hB0')).trans hb2
        have hS2 := ht2.boxed hrow1 hS1 (by omega) (by decide)
        gi_wp2
        exact ⟨(keeps_below hB1 _).trans (ht2.keeps hv1 hrow1 _), fun _ => ⟨hS2.cell, hv0.later hB2⟩, ⟨v', hv2, by rw [HS.out, h1]; exact hrow2, trivial⟩, ht2.boxed hrow1 hF1 (by omega) (by decide), hS2, hB2⟩
    · -- two dots
      have HD := dots_at t ht 2 (by rw [hd]; rfl) m W hmW
      have h1 := step_two out q t hd
      clear hd
      obtain ⟨a', c', rfl, k1, k2, k3⟩ := owns_shape hrow
      cases q
      · gi_wp2_with fail
        refine ⟨trivial, (CallsIn.inRound l (callsIn_wide.2 HD)).mono ?_⟩
        rintro e W1 ⟨rfl, hB1⟩
        have hv1 := boxed_below hv hB1
        have hrow1 := owns_below hrow hB1
        have hF1 := boxed_below hF hB1
        have hS1 := boxed_below hS hB1
        have hcv := hv1.cell
        have hfv := hv1.frozen
        have hsz := hB1.size
        gi_wp2_with fail
        refine ⟨trivial, (CallsIn.inRound l (callsIn_wide.2 (ahead_any a' out.length c' k1 k2 k3 W1))).mono ?_⟩
        rintro e W1' ⟨rfl, rfl⟩
        gi_wp2
        have hg := grownBy_setCell' W1 w.heap.size (.slice a' (out.length - 1) c')
        have hb2 := (hB.trans (hB1.mono hB0')).setCell (p := ⟨w.heap.size, 0, none⟩) (Nat.le_refl _) (.slice a' (out.length - 1) c')
        have hS2 := hS1.other (B' := w.heap.size) (by omega) (.slice a' (out.length - 1) c')
        exact ⟨(keeps_below hB1 _).trans ((KeepsOthers.setCell _ _ _).from _), fun _ => ⟨hS2.cell, hv0.later hb2⟩, ⟨_, hv1.set _, by rw [HS.out, h1]; exact (owns_cut hrow1).kept hg (.inr (hv1.not_row (by decide) (owns_cut hrow1)).symm), trivial⟩, hF1.other (by omega) _, hS2, hb2⟩
      · gi_wp2_with fail
        refine ⟨trivial, (CallsIn.inRound l (callsIn_wide.2 HD)).mono ?_⟩
        rintro e W1 ⟨rfl, hB1⟩
        have hv1 := boxed_below hv hB1
        have hrow1 := owns_below hrow hB1
        have hF1 := boxed_below hF hB1
        have hS1 := boxed_below hS hB1
        have hcv := hv1.cell
        have hfv := hv1.frozen
        have hsz := hB1.size
        gi_wp2_with fail
        refine ⟨trivial, (CallsIn.inRound l (callsIn_wide.2 (ahead_any a' out.length c' k1 k2 k3 W1))).mono ?_⟩
        rintro e W1' ⟨rfl, rfl⟩
        have hF2 := hF1.other (B' := w.heap.size) (by omega) (.slice a' (out.length - 1) c')
        have hcF := hF2.cell
        have hg := grownBy_setCell' W1 w.heap.size (.slice a' (out.length - 1) c')
        have hb2 := (hB.trans (hB1.mono hB0')).setCell (p := ⟨w.heap.size, 0, none⟩) (Nat.le_refl _) (.slice a' (out.length - 1) c')
        have hS2 := hS1.other (B' := w.heap.size) (by omega) (.slice a' (out.length - 1) c')
        have hv2 := hv1.set (.slice a' (out.length - 1) c')
        have hrow2 := (owns_cut hrow1).kept hg (.inr (hv1.not_row (by decide) (owns_cut hrow1)).symm)
        have hsz2 := hb2.size
        gi_wp2_with fail
        refine ⟨trivial, (CallsIn.inRound l (callsIn_wide.2 (behind_any w.heap.size w.heap.size _ out.dropLast ⟨#[]⟩ _ (by decide) hv2 hrow2 (by simp; omega) (by omega)))).mono ?_⟩
        rintro e W3 ⟨⟨_, rfl⟩, v', hv3, hrow3, ht3⟩
        have hb3 := hb2.trans (ht3.below hrow2 (Nat.le_refl _) (by omega))
        have hS3 := ht3.boxed hrow2 hS2 (by omega) (by decide)
        gi_wp2
        exact ⟨((keeps_below hB1 _).trans ((KeepsOthers.setCell _ _ _).from _)).trans (ht3.keeps hv2 hrow2 _), fun _ => ⟨hS3.cell, hv0.later hb3⟩, ⟨v', hv3, by rw [HS.out, h1]; exact hrow3, trivial⟩, ht3.boxed hrow2 hF2 (by omega) (by decide), hS3, hb3⟩
    · -- no dots
      have HD := dots_at t ht 0 (by rw [hd]; rfl) m W hmW
      have h1 := step_none out q t hd
      clear hd
      gi_wp2_with fail
      refine ⟨trivial, (CallsIn.inRound l (callsIn_wide.2 HD)).mono ?_⟩
      rintro e W1 ⟨rfl, hB1⟩
      have hv1 := boxed_below hv hB1
      have hrow1 := owns_below hrow hB1
      have hF1 := boxed_below hF hB1
      have hS1 := boxed_below hS hB1
      have hc1 := hF1.cell
      have hsz := hB1.size
      gi_wp2_with fail
      refine ⟨trivial, (CallsIn.inRound l (callsIn_wide.2 (behind_any w.heap.size w.heap.size u out ⟨t.toArray⟩ W1 ht hv1 hrow1 (by omega) (by omega)))).mono ?_⟩
      rintro e W2 ⟨⟨_, rfl⟩, v', hv2, hrow2, ht2⟩
      have hb2 := ht2.below hrow1 (Nat.le_refl _) (by omega)
      have hB2 := (hB.trans (hB1.mono hB0')).trans hb2
      have hS2 := ht2.boxed hrow1 hS1 (by omega) (by decide)
      gi_wp2
      exact ⟨(keeps_below hB1 _).trans (ht2.keeps hv1 hrow1 _), fun _ => ⟨hS2.cell, hv0.later hB2⟩, ⟨v', hv2, by rw [HS.out, h1]; exact hrow2, trivial⟩, ht2.boxed hrow1 hF1 (by omega) (by decide), hS2, hB2⟩
  case done =>
    rintro D ys W hD hys ⟨⟨v, hv, hrow, _⟩, hS, hF, hB⟩ hK
    have hc := hv.cell
    rw [hys, outP_all] at hrow
    gi_wp2
    refine ⟨by simp, .inl ⟨_, _, rfl, run_takeDeferred hK, ?_⟩⟩
    exact ⟨_, results_tmp rfl _ _ _, v, rfl, ownsRow_putObj hrow _ hK rfl, hB.trans (belowK_b (w := w) (Nat.le_refl _) W D _ _ (by simp at hD; omega) hK rfl rfl)⟩
  case stop =>
    rintro D c pre W _ _ h _
    exact h.elim

theorem norm_any (v : Value) (L : List T) (hL : L.length ≤ 100000) (hs : ∀ t ∈ L, t.length ≤ 1000000) (m : Int) (w : World) (hm : MaxAt m w) (h : Strs w v L) :
    Calls Tryd.prog 15 #[v] w fun e W' => ∃ v', e = .returned v' ∧ Strs W' v' (norm [] L) ∧ Below w.heap.size w W' := by
  have h' := h
  obtain ⟨a, c, rfl, _⟩ := h'
  exact (callsIn_wide.1 (norm_in a c L hL hs m w hm h)).mono fun e W' ⟨v', he, hr, hb⟩ => ⟨v', he, owns_strs hr, hb⟩

end Go.Proofs.YtbofkmaajhfkeaaDoor.Path

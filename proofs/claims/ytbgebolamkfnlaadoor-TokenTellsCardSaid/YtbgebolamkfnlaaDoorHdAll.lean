/-
  All(l, name), Drop(l, names...): the closure asked of each field.
-/
import Derived.Deep.AppendLies
import Derived.OwnWalk
import Derived.Test.YtbgebolamkfnlaaDoorHdNamed
namespace Go.Proofs.YtbgebolamkfnlaaDoor.Head
set_option linter.unusedSimpArgs false
set_option linter.unusedVariables false
set_option maxRecDepth 100000


open Go.RowKit Go.Shelf

open Url

open Path (Strs tx infoText)


theorem grown_below {W w2 : World} {base : Nat} {e : TypeId} {size : Nat} {v : Value} {k : Nat} {xs : List Value} (hrow : W.ownsRow base e size v k xs) (hb : base ≤ W.heap.size) (hgrow : W.grownBy w2 v.ownBlock) : Below base W w2 := by
  refine (Below.refl base W).grown hgrow hb fun j ej => ?_
  rcases hrow.2 with ⟨rfl, _⟩ | ⟨g, cap, cur, rfl, hb, _, _⟩
  · simp [Value.ownBlock] at ej
  · obtain rfl : j = g := by simpa [Value.ownBlock] using ej.symm
    exact hb

theorem strs_one (w : World) (a : ByteArray) : Strs (w.alloc (.cells #[.string a] 9)) (.slice (some ⟨w.heap.size, 0, none⟩) 1 1) [a.data.toList] := by
  refine ⟨_, 1, rfl, by simp, by unfold maxLen; omega, (fun e => by cases e), fun _ => ⟨w.heap.size, 0, rfl, fun j hj => ?_⟩⟩
  have h : (w.alloc (.cells #[.string a] 9)).heap[w.heap.size]? = some (.cells #[.string a] 9 (0, 0)) := heap_alloc_new w _
  rw [cell_of_row _ _ _ _ _ _ h]
  match j, hj with
  | 0, _ => simp

theorem all_yes (l : List F) (n : T) (k : Nat) (h : k < l.length) (hg : goesB [n] l[k] = true) : allL (l.take (k + 1)) n = allL (l.take k) n ++ [(l[k]).2] := by
  rw [List.take_succ_eq_append_getElem h, all_app]
  unfold allL
  simp [hg]

theorem all_no (l : List F) (n : T) (k : Nat) (h : k < l.length) (hg : goesB [n] l[k] = false) : allL (l.take (k + 1)) n = allL (l.take k) n := by
  rw [List.take_succ_eq_append_getElem h, all_app]
  unfold allL
  simp [hg]

theorem goes_def (ns : List T) (f : F) : (ns.map Ascii.lower).contains (Ascii.lower (tb f.1).data.toList) = goesB ns f := by rw [tb_list]; rfl

set_option maxRecDepth 100000 in
set_option maxHeartbeats 4000000 in
theorem all_any (v : Value) (l : List F) (hl : l.length ≤ 100000) (hs : ∀ f ∈ l, f.1.length ≤ 1000000 ∧ f.2.length ≤ 1000000) (n : ByteArray) (hn : n.size ≤ 1000000) (w : World) (h : Flds w v l) :
    Calls Tryd.prog 49 #[v, .string n] w fun e w' => ∃ v', e = .returned v' ∧ Strs w' v' (allL l n.data.toList) ∧ Below w.heap.size w w' := by
  obtain ⟨i0, hi, hz0, hz1, hz2⟩ := info_parts infoText
  have HF := Lib.hid h
  obtain ⟨a, c, rfl, h1, h2, h3, h4⟩ := h
  unfold maxLen at h2
  clear h3 h4
  have hB0 := (Below.refl w.heap.size w).alloc (Nat.le_refl _) (.cells #[.string n] 9)
  have cN := named_any _ _ (by simp) (by simpa using hn) _ (strs_one w n)
  go_enter Tryd.func49, Tryd.ntmps49
  go_wp2_with fail
  refine cN.mono ?_
  rintro e w1 ⟨B, rfl, hN, hB1⟩
  have hb1 := Lib.hid (Ascii.below2 hB0 hB1)
  clear hB0 hB1 cN
  go_wp2
  go_loopw [5, 8, 14] (fun o _ i wr => ∃ k : Nat, k ≤ l.length ∧ i = .int .i64 k ∧ wr.ownsRow w1.heap.size 9 1 o (allL (l.take k) n.data.toList).length ((allL (l.take k) n.data.toList).map tx) ∧ Below w1.heap.size w1 wr) (fun _ _ i _ => l.length - (intOf i).toNat)
  case atStart => exact ⟨0, Nat.zero_le _, rfl, ⟨rfl, .inl ⟨rfl, rfl⟩⟩, Below.refl _ _⟩
  case round =>
    obtain ⟨k, hk, rfl, hrow, hB⟩ := hrel
    by_cases hlt : k < l.length
    · have hfl := HF.out.later (Ascii.below2 hb1.out hB)
      obtain ⟨a', c', e', -, -, -, h4⟩ := hfl
      cases e'
      obtain ⟨b, off, rfl, hcell⟩ := h4 (by intro e; rw [e] at hlt; simp at hlt)
      have g0 := (hcell k hlt).1
      have g1 := (hcell k hlt).2
      have hkc : k < c := by omega
      have hsz := hs _ (List.getElem_mem hlt)
      have HY := Lib.hid (all_yes l n.data.toList k hlt)
      have HNo := Lib.hid (all_no l n.data.toList k hlt)
      have hgd := goes_def [n.data.toList] l[k]
      have hal : (allL (l.take k) n.data.toList).length ≤ 100000 := Nat.le_trans (all_len _ _) (by rw [List.length_take]; omega)
      obtain ⟨f, hf⟩ : ∃ f, l[k] = f := ⟨_, rfl⟩
      rw [hf] at g0 g1 hsz HY HNo hgd
      have hBf := hB.alloc hB.size (.cells #[.string (tb f.1), .string (tb f.2)] 36)
      have cG := goes_any (tb f.1) (tb f.2) (by rw [tb_size]; omega) B _ _ (hN.later hBf)
      rw [hgd] at cG
      have cC := fun u => Path.clone_any (tb f.2) (by rw [tb_size]; omega) u
      have hrf := hrow.alloc (.cells #[.string (tb f.1), .string (tb f.2)] 36)
      have HFt := FAt.new wr (tb f.1) (tb f.2)
      have hT : tx f.2 = .string (tb f.2) := rfl
      generalize tb f.1 = X at *
      generalize tb f.2 = Y at *
      have HT := Lib.hid hT
      clear hcell hf h4 hgd hT hrow hsz
      obtain ⟨xs, hxs⟩ : ∃ xs, (allL (l.take k) n.data.toList).map tx = xs := ⟨_, rfl⟩
      obtain ⟨q, hq⟩ : ∃ q, (allL (l.take k) n.data.toList).length = q := ⟨_, rfl⟩
      rw [hxs, hq] at hrf
      rw [hq] at hal
      have HX := Lib.hid hxs
      have HQ := Lib.hid hq
      clear hxs hq
      cases hgb : goesB [n.data.toList] f
      · rw [hgb] at cG
        have hn := Lib.hid (HNo.out hgb)
        clear HY HNo hgb
        go_wp2_with fail
        refine cG.mono ?_
        rintro e w2 ⟨rfl, hB2⟩
        have hr2 := Path.owns_below hrf hB2
        have hb2 := Ascii.below2 hBf hB2
        clear cG cC hrf HFt hBf hB2 hB g0 g1
        go_wp2
        go_roundw
        case rel => exact ⟨k + 1, by omega, by go_num, by rw [hn.out, HX.out, HQ.out]; exact hr2, hb2⟩
        case measure => simp [intOf]; omega
      · rw [hgb] at cG
        have hn := Lib.hid (HY.out hgb)
        clear HY HNo hgb
        go_wp2_with fail
        refine cG.mono ?_
        rintro e w2 ⟨rfl, hB2⟩
        have hr2 := Path.owns_below hrf hB2
        have hb2 := Ascii.below2 hBf hB2
        have hF2 := HFt.later hB2
        have d1 := hF2.c1
        clear cG hrf HFt hBf hB2 hB g0 g1
        go_wp2_with fail
        refine (cC _).mono ?_
        rintro e w3 ⟨rfl, hB3⟩
        have hr3 := Path.owns_below hr2 hB3
        have hb3 := Ascii.below2 hb2 hB3
        have hs3 := hb3.size
        clear cC hr2 hF2 d1 hb2 hB3
        go_wp2_with (at_builtin; refine wpList_append_own _ rfl _ _ 26 rfl w1.heap.size 9 i0 (.string ⟨#[]⟩) 1 16 Tryd.underlying26 hi hz0 hz1 hz2 rfl (by decide) _ _ _ rfl (hr3.alloc _) ⟨w3.heap.size, 0, none⟩ 1 1 [.string Y] rfl rfl (cell_one_new _ _ _) (by simp [Value.oneCell']) (by unfold maxLen; omega) (by omega) (by simp; omega) ?_; intro v' w4 hown' hgrow _)
        have hb4 := (hb3.alloc hs3 (.cells #[.string Y] 9)).trans (grown_below (hr3.alloc _) (by simp; omega) hgrow)
        clear hgrow hr3 hb3
        go_roundw
        case rel => exact ⟨k + 1, by omega, by go_num, by rw [hn.out, List.map_append, HX.out, List.length_append, HQ.out, show [f.2].map tx = [.string Y] by rw [List.map_cons, HT.out]; rfl]; exact hown', hb4⟩
        case measure => simp [intOf]; omega
    · obtain rfl : k = l.length := by omega
      rw [List.take_of_length_le (Nat.le_refl _)] at hrow
      have hst := Path.owns_strs hrow
      go_wp2
      go_ret
      exact ⟨_, rfl, hst, Ascii.below2 hb1.out hB⟩

/-! ### Rows of fields -/

theorem info42 : (Tryd.prog.info? 36).map (fun i => (i.zero, i.size, i.bytes)) = some (some (.agg #[.string ⟨#[]⟩, .string ⟨#[]⟩]), 2, 32) := by kernel_rfl

def cellsF (l : List F) : List Value := l.flatMap fun f => [.string (tb f.1), .string (tb f.2)]

theorem cellsF_app (a b : List F) : cellsF (a ++ b) = cellsF a ++ cellsF b := by unfold cellsF; simp

theorem cellsF_len (l : List F) : (cellsF l).length = l.length * 2 := by
  induction l with
  | nil => rfl
  | cons f l ih => rw [show f :: l = [f] ++ l from rfl, cellsF_app, List.length_append, ih]; simp [cellsF]; omega

theorem cellsF_get (l : List F) (j : Nat) (h : j < l.length) : (cellsF l)[j * 2]? = some (.string (tb (l[j]).1)) ∧ (cellsF l)[j * 2 + 1]? = some (.string (tb (l[j]).2)) := by
  induction l generalizing j with
  | nil => simp at h
  | cons f l ih =>
    have e : cellsF (f :: l) = .string (tb f.1) :: .string (tb f.2) :: cellsF l := rfl
    rw [e]
    match j, h with
    | 0, _ => exact ⟨rfl, rfl⟩
    | j + 1, h =>
      have := ih j (by simpa using h)
      rw [show (j + 1) * 2 = j * 2 + 1 + 1 by omega]
      simpa using this

theorem owns_base {W : World} {B A : Nat} {e : TypeId} {size : Nat} {v : Value} {n : Nat} {xs : List Value} (h : W.ownsRow B e size v n xs) (hA : A ≤ B) : W.ownsRow A e size v n xs := by
  refine ⟨h.1, ?_⟩
  rcases h.2 with h' | ⟨g, cap, cur, rfl, hb, rest⟩
  · exact .inl h'
  · exact .inr ⟨g, cap, cur, rfl, Nat.le_trans hA hb, rest⟩

theorem owns_flds {W : World} {B : Nat} {v : Value} {l : List F} (h : W.ownsRow B 36 2 v l.length (cellsF l)) : Flds W v l := by
  rcases h.2 with ⟨rfl, hn⟩ | ⟨g, cap, cur, rfl, _, hg, h1, h2, h3, h4⟩
  · obtain rfl : l = [] := List.length_eq_zero_iff.1 hn
    exact Flds.nil W
  · refine ⟨_, cap, rfl, h1, h2, (fun e => by cases e), fun _ => ⟨g, 0, rfl, fun j hj => ?_⟩⟩
    have hc := cellsF_get l j hj
    rw [← h4] at hc
    rw [List.getElem?_take_of_lt (by omega), List.getElem?_take_of_lt (by omega)] at hc
    constructor
    · rw [World.cell?, hg]
      have := hc.1
      simp at this
      simp [this]
    · rw [World.cell?, hg]
      have := hc.2
      simp at this
      simp [this]

theorem drop_yes (l : List F) (ns : List T) (k : Nat) (h : k < l.length) (hg : goesB ns l[k] = false) : dropL (l.take (k + 1)) ns = dropL (l.take k) ns ++ [l[k]] := by
  rw [List.take_succ_eq_append_getElem h, drop_app]
  unfold dropL
  simp [hg]

theorem drop_no (l : List F) (ns : List T) (k : Nat) (h : k < l.length) (hg : goesB ns l[k] = true) : dropL (l.take (k + 1)) ns = dropL (l.take k) ns := by
  rw [List.take_succ_eq_append_getElem h, drop_app]
  unfold dropL
  simp [hg]

set_option maxRecDepth 100000 in
set_option maxHeartbeats 4000000 in
theorem drop_owns_wide (v : Value) (l : List F) (hl : l.length ≤ 100000) (hs : ∀ f ∈ l, f.1.length ≤ 1000000 ∧ f.2.length ≤ 1000000) (u : Value) (ns : List T) (hnl : ns.length ≤ 100000) (hns : ∀ t ∈ ns, t.length ≤ 140737488351232) (w : World) (h : Flds w v l) (hu : Strs w u ns) :
    Calls Tryd.prog 24 #[v, u] w fun e w' => ∃ v', e = .returned v' ∧ w'.ownsRow w.heap.size 36 2 v' (dropL l ns).length (cellsF (dropL l ns)) ∧ Below w.heap.size w w' := by
  obtain ⟨i0, hi, hz0, hz1, hz2⟩ := info_parts info42
  have HF := Lib.hid h
  obtain ⟨a, c, rfl, h1, h2, h3, h4⟩ := h
  unfold maxLen at h2
  clear h3 h4
  have cN := named_wide u ns hnl hns w hu
  obtain ⟨ua, uc, rfl, -⟩ := hu
  go_enter Tryd.func24, Tryd.ntmps24
  go_wp2_with fail
  refine cN.mono ?_
  rintro e w1 ⟨B, rfl, hN, hB1⟩
  have hb1 := Lib.hid hB1
  clear hB1 cN
  go_wp2
  go_loopw [5, 8, 13] (fun o _ i wr => ∃ k : Nat, k ≤ l.length ∧ i = .int .i64 k ∧ wr.ownsRow w1.heap.size 36 2 o (dropL (l.take k) ns).length (cellsF (dropL (l.take k) ns)) ∧ Below w1.heap.size w1 wr) (fun _ _ i _ => l.length - (intOf i).toNat)
  case atStart => exact ⟨0, Nat.zero_le _, rfl, ⟨rfl, .inl ⟨rfl, rfl⟩⟩, Below.refl _ _⟩
  case round =>
    obtain ⟨k, hk, rfl, hrow, hB⟩ := hrel
    by_cases hlt : k < l.length
    · have hfl := HF.out.later (Ascii.below2 hb1.out hB)
      obtain ⟨a', c', e', -, -, -, h4⟩ := hfl
      cases e'
      obtain ⟨b, off, rfl, hcell⟩ := h4 (by intro e; rw [e] at hlt; simp at hlt)
      have g0 := (hcell k hlt).1
      have g1 := (hcell k hlt).2
      have hkc : k < c := by omega
      have hsz := hs _ (List.getElem_mem hlt)
      have HY := Lib.hid (drop_yes l ns k hlt)
      have HNo := Lib.hid (drop_no l ns k hlt)
      have hgd := goes_def ns l[k]
      have hal : (dropL (l.take k) ns).length ≤ 100000 := Nat.le_trans (drop_len _ _) (by rw [List.length_take]; omega)
      obtain ⟨f, hf⟩ : ∃ f, l[k] = f := ⟨_, rfl⟩
      rw [hf] at g0 g1 hsz HY HNo hgd
      have hBf := hB.alloc hB.size (.cells #[.string (tb f.1), .string (tb f.2)] 36)
      have cG := goes_any (tb f.1) (tb f.2) (by rw [tb_size]; omega) B _ _ (hN.later hBf)
      rw [hgd] at cG
      have cC := fun u => own_any (tb f.1) (tb f.2) (by rw [tb_size]; omega) (by rw [tb_size]; omega) u
      have hrf := hrow.alloc (.cells #[.string (tb f.1), .string (tb f.2)] 36)
      have HFt := FAt.new wr (tb f.1) (tb f.2)
      have hT : cellsF [f] = [.string (tb f.1), .string (tb f.2)] := rfl
      generalize tb f.1 = X at *
      generalize tb f.2 = Y at *
      have HT := Lib.hid hT
      clear hcell hf h4 hgd hT hrow hsz
      obtain ⟨xs, hxs⟩ : ∃ xs, cellsF (dropL (l.take k) ns) = xs := ⟨_, rfl⟩
      obtain ⟨q, hq⟩ : ∃ q, (dropL (l.take k) ns).length = q := ⟨_, rfl⟩
      rw [hxs, hq] at hrf
      rw [hq] at hal
      have HX := Lib.hid hxs
      have HQ := Lib.hid hq
      clear hxs hq
      cases hgb : goesB ns f
      · rw [hgb] at cG
        have hn := Lib.hid (HY.out hgb)
        clear HY HNo hgb
        go_wp2_with fail
        refine cG.mono ?_
        rintro e w2 ⟨rfl, hB2⟩
        have hr2 := Path.owns_below hrf hB2
        have hb2 := Ascii.below2 hBf hB2
        have hF2 := HFt.later hB2
        have d0 := hF2.c0
        have d1 := hF2.c1
        clear cG hrf HFt hBf hB2 hB g0 g1
        go_wp2_with fail
        refine (cC _).mono ?_
        rintro e w3 ⟨rfl, hB3⟩
        have hr3 := Path.owns_below hr2 hB3
        have hb3 := Ascii.below2 hb2 hB3
        have hs3 := hb3.size
        clear cC hr2 hF2 d0 d1 hb2 hB3
        go_wp2_with (at_builtin; refine wpList_append_own _ rfl _ _ 22 rfl w1.heap.size 36 i0 (.agg #[.string ⟨#[]⟩, .string ⟨#[]⟩]) 2 32 Tryd.underlying22 hi hz0 hz1 hz2 rfl (by decide) _ _ _ rfl (hr3.alloc _) ⟨w3.heap.size, 0, none⟩ 1 1 [.string X, .string Y] rfl rfl (World.news_of_block (heap_alloc_new w3 (.cells #[.string X, .string Y] 36))) (by simp [Value.oneCell']) (by unfold maxLen; omega) (by omega) (by simp; omega) ?_; intro v' w4 hown' hgrow _)
        have hb4 := (hb3.alloc hs3 (.cells #[.string X, .string Y] 36)).trans (grown_below (hr3.alloc _) (by simp; omega) hgrow)
        clear hgrow hr3 hb3
        go_roundw
        case rel => exact ⟨k + 1, by omega, by go_num, by rw [hn.out, cellsF_app, HX.out, List.length_append, HQ.out, HT.out]; exact hown', hb4⟩
        case measure => simp [intOf]; omega
      · rw [hgb] at cG
        have hn := Lib.hid (HNo.out hgb)
        clear HY HNo hgb
        go_wp2_with fail
        refine cG.mono ?_
        rintro e w2 ⟨rfl, hB2⟩
        have hr2 := Path.owns_below hrf hB2
        have hb2 := Ascii.below2 hBf hB2
        clear cG cC hrf HFt hBf hB2 hB g0 g1
        go_wp2
        go_roundw
        case rel => exact ⟨k + 1, by omega, by go_num, by rw [hn.out, HX.out, HQ.out]; exact hr2, hb2⟩
        case measure => simp [intOf]; omega
    · obtain rfl : k = l.length := by omega
      rw [List.take_of_length_le (Nat.le_refl _)] at hrow
      go_wp2
      go_ret
      exact ⟨_, rfl, owns_base hrow hb1.out.size, Ascii.below2 hb1.out hB⟩

theorem drop_owns (v : Value) (l : List F) (hl : l.length ≤ 100000) (hs : ∀ f ∈ l, f.1.length ≤ 1000000 ∧ f.2.length ≤ 1000000) (u : Value) (ns : List T) (hnl : ns.length ≤ 100000) (hns : ∀ t ∈ ns, t.length ≤ 1000000) (w : World) (h : Flds w v l) (hu : Strs w u ns) :
    Calls Tryd.prog 24 #[v, u] w fun e w' => ∃ v', e = .returned v' ∧ w'.ownsRow w.heap.size 36 2 v' (dropL l ns).length (cellsF (dropL l ns)) ∧ Below w.heap.size w w' :=
  drop_owns_wide v l hl hs u ns hnl (fun t ht => Nat.le_trans (hns t ht) (by omega)) w h hu

theorem drop_any_wide (v : Value) (l : List F) (hl : l.length ≤ 100000) (hs : ∀ f ∈ l, f.1.length ≤ 1000000 ∧ f.2.length ≤ 1000000) (u : Value) (ns : List T) (hnl : ns.length ≤ 100000) (hns : ∀ t ∈ ns, t.length ≤ 140737488351232) (w : World) (h : Flds w v l) (hu : Strs w u ns) :
    Calls Tryd.prog 24 #[v, u] w fun e w' => ∃ v', e = .returned v' ∧ Flds w' v' (dropL l ns) ∧ Below w.heap.size w w' :=
  (drop_owns_wide v l hl hs u ns hnl hns w h hu).mono fun e w' ⟨v', he, hr, hb⟩ => ⟨v', he, owns_flds hr, hb⟩

theorem drop_any (v : Value) (l : List F) (hl : l.length ≤ 100000) (hs : ∀ f ∈ l, f.1.length ≤ 1000000 ∧ f.2.length ≤ 1000000) (u : Value) (ns : List T) (hnl : ns.length ≤ 100000) (hns : ∀ t ∈ ns, t.length ≤ 1000000) (w : World) (h : Flds w v l) (hu : Strs w u ns) :
    Calls Tryd.prog 24 #[v, u] w fun e w' => ∃ v', e = .returned v' ∧ Flds w' v' (dropL l ns) ∧ Below w.heap.size w w' :=
  (drop_owns v l hl hs u ns hnl hns w h hu).mono fun e w' ⟨v', he, hr, hb⟩ => ⟨v', he, owns_flds hr, hb⟩

end Go.Proofs.YtbgebolamkfnlaaDoor.Head

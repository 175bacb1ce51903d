/-
  slices.IndexFunc at fields, Set(l, name, value).
-/
import Derived.Test.YtagmmdnfbjgmcaaDoorHdApp
namespace Go.Proofs.YtagmmdnfbjgmcaaDoor.Head
set_option linter.unusedSimpArgs false
set_option linter.unusedVariables false
set_option maxRecDepth 100000


open Go.RowKit Go.Shelf

open Url

open Path (Strs tx infoText)


/-- How many stand ahead of the first one that goes. -/
def atN (l : List F) (ns : List T) : Nat := (l.takeWhile fun f => !goesB ns f).length

def idxI (l : List F) (ns : List T) : Int := if atN l ns < l.length then (atN l ns : Nat) else -1

theorem atN_le (l : List F) (ns : List T) : atN l ns ≤ l.length := (List.takeWhile_prefix _).length_le

theorem atN_hit (l : List F) (ns : List T) (k : Nat) (h : k < l.length) (h0 : ∀ j (hj : j < l.length), j < k → goesB ns l[j] = false) (hg : goesB ns l[k] = true) : atN l ns = k := by
  induction l generalizing k with
  | nil => simp at h
  | cons f l ih =>
    unfold atN
    match k, h, h0, hg with
    | 0, _, _, hg =>
      rw [List.takeWhile_cons_of_neg (by simpa using hg)]; rfl
    | k + 1, h, h0, hg =>
      have hf : goesB ns f = false := h0 0 (by simp) (by omega)
      rw [List.takeWhile_cons_of_pos (by simp [hf]), List.length_cons]
      have := ih k (by simpa using h) (fun j hj hjk => by have := h0 (j + 1) (by simp; omega) (by omega); rwa [List.getElem_cons_succ] at this) (by simpa using hg)
      unfold atN at this
      rw [this]

theorem atN_none (l : List F) (ns : List T) (h0 : ∀ j (hj : j < l.length), goesB ns l[j] = false) : atN l ns = l.length := by
  unfold atN
  rw [(List.takeWhile_prefix (fun f => !goesB ns f)).eq_of_length_le]
  induction l with
  | nil => simp
  | cons f l ih =>
    have hf : goesB ns f = false := h0 0 (by simp)
    rw [List.takeWhile_cons_of_pos (by simp [hf])]
    simpa using ih fun j hj => by have := h0 (j + 1) (by simp; omega); rwa [List.getElem_cons_succ] at this

theorem idx_hit (l : List F) (ns : List T) (k : Nat) (h : k < l.length) (h0 : ∀ j (hj : j < l.length), j < k → goesB ns l[j] = false) (hg : goesB ns l[k] = true) : idxI l ns = (k : Int) := by
  unfold idxI
  rw [atN_hit l ns k h h0 hg, if_pos h]

theorem idx_none (l : List F) (ns : List T) (h0 : ∀ j (hj : j < l.length), goesB ns l[j] = false) : idxI l ns = -1 := by
  unfold idxI
  rw [atN_none l ns h0, if_neg (by omega)]

theorem take_at (l : List F) (ns : List T) : l.take (atN l ns) = l.takeWhile fun f => !goesB ns f := (List.prefix_iff_eq_take.1 (List.takeWhile_prefix _)).symm

theorem drop_at (l : List F) (ns : List T) : l.drop (atN l ns) = l.dropWhile fun f => !goesB ns f := by
  have h := List.takeWhile_append_dropWhile (p := fun f => !goesB ns f) (l := l)
  unfold atN
  generalize (l.takeWhile fun f => !goesB ns f) = p at h ⊢
  generalize (l.dropWhile fun f => !goesB ns f) = q at h ⊢
  rw [← h]
  simp

theorem set_at (l : List F) (n v : T) : setL l n v = dropL (l.take (atN l [n])) [n] ++ (n, v) :: dropL (l.drop (atN l [n])) [n] := by
  rw [take_at, drop_at]; rfl

set_option maxRecDepth 100000 in
set_option maxHeartbeats 4000000 in
theorem index_any (v : Value) (l : List F) (hs : ∀ f ∈ l, f.1.length ≤ 1000000) (ns : List T) (B : Nat) (w : World) (h : Flds w v l) (hN : NamesAt w B (ns.map Ascii.lower)) :
    Calls Tryd.prog 37 #[v, .func (.func 54) #[] #[.pointer (some ⟨B, 0, none⟩)]] w fun e w' => e = .returned (.int .i64 (idxI l ns)) ∧ Below w.heap.size w w' := by
  have HF := Lib.hid h
  obtain ⟨a, c, rfl, h1, h2, h3, h4⟩ := h
  unfold maxLen at h2
  clear h3 h4
  go_enter Tryd.func37, Tryd.ntmps37
  go_wp2
  go_loopw [5, 8] (fun _ i wr => ∃ k : Nat, k ≤ l.length ∧ i = .int .i64 k ∧ Hid (∀ j (hj : j < l.length), j < k → goesB ns l[j] = false) ∧ Below w.heap.size w wr) (fun _ i _ => l.length - (intOf i).toNat)
  case atStart => exact ⟨0, Nat.zero_le _, rfl, Lib.hid fun j _ h => absurd h (by omega), Below.refl _ _⟩
  case round =>
    obtain ⟨k, hk, rfl, HA, hB⟩ := hrel
    by_cases hlt : k < l.length
    · obtain ⟨a', c', e', -, -, -, h4⟩ := HF.out.later hB
      cases e'
      obtain ⟨b, off, rfl, hcell⟩ := h4 (by intro e; rw [e] at hlt; simp at hlt)
      have g0 := (hcell k hlt).1
      have g1 := (hcell k hlt).2
      have hkc : k < c := by omega
      have hsz := hs _ (List.getElem_mem hlt)
      have hgd := goes_def ns l[k]
      have HH := Lib.hid (idx_hit l ns k hlt HA.out)
      obtain ⟨f, hf⟩ : ∃ f, l[k] = f := ⟨_, rfl⟩
      rw [hf] at g0 g1 hsz hgd HH
      have cG := goes_any (tb f.1) (tb f.2) (by rw [tb_size]; omega) B _ _ (hN.later hB)
      rw [hgd] at cG
      have HFe := Lib.hid hf
      generalize tb f.1 = X at *
      generalize tb f.2 = Y at *
      clear hcell hf h4 hgd hsz
      cases hgb : goesB ns f
      · rw [hgb] at cG
        have hn : Hid (∀ j (hj : j < l.length), j < k + 1 → goesB ns l[j] = false) := Lib.hid fun j hj hjk => by
          rcases Nat.lt_or_ge j k with h | h
          · exact HA.out j hj h
          · obtain rfl : j = k := by omega
            rw [HFe.out]; exact hgb
        clear HH hgb
        go_wp2_with fail
        refine cG.mono ?_
        rintro e w2 ⟨rfl, hB2⟩
        have hb2 := Ascii.below2 hB hB2
        clear cG hB2 hB g0 g1
        go_wp2
        go_roundw
        case rel => exact ⟨k + 1, by omega, by go_num, hn, hb2⟩
        case measure => simp [intOf]; omega
      · rw [hgb] at cG
        have hn := Lib.hid (HH.out hgb)
        clear HH hgb
        go_wp2_with fail
        refine cG.mono ?_
        rintro e w2 ⟨rfl, hB2⟩
        have hb2 := Ascii.below2 hB hB2
        clear cG hB2 hB g0 g1
        go_wp2
        go_ret
        exact ⟨by rw [hn.out]; rfl, hb2⟩
    · have hn := Lib.hid (idx_none l ns fun j hj => HA.out j hj (by omega))
      go_wp2
      go_ret
      exact ⟨by rw [hn.out]; rfl, hB⟩

/-- A part of a slice of fields. -/
theorem flds_take {W : World} {a : Option Addr} {c n : Nat} {l : List F} (h : Flds W (.slice a n c) l) (k : Nat) (hk : k ≤ l.length) : Flds W (.slice a k c) (l.take k) := by
  obtain ⟨a', c', e, h1, h2, h3, h4⟩ := h
  cases e
  refine ⟨a, c, by rw [List.length_take, Nat.min_eq_left hk], by rw [List.length_take]; omega, h2, h3, fun hne => ?_⟩
  obtain ⟨b, off, rfl, hc⟩ := h4 (fun e => hne (by rw [e]; simp))
  refine ⟨b, off, rfl, fun j hj => ?_⟩
  rw [List.length_take] at hj
  rw [List.getElem_take]
  exact hc j (by omega)

theorem flds_drop {W : World} {a : Option Addr} {c n : Nat} {l : List F} (h : Flds W (.slice a n c) l) (k : Nat) (hk : k ≤ l.length) : Flds W (.slice (Option.map (fun x => x.add (k * 2)) a) (n - k) (c - k)) (l.drop k) := by
  obtain ⟨a', c', e, h1, h2, h3, h4⟩ := h
  cases e
  refine ⟨_, _, by rw [List.length_drop], by rw [List.length_drop]; omega, by omega, (fun e => ?_), fun hne => ?_⟩
  · have : a = none := by cases a <;> simp_all
    have := h3 this
    omega
  · obtain ⟨b, off, rfl, hc⟩ := h4 (fun e => hne (by rw [e]; simp))
    have hadd : (⟨b, off, none⟩ : Addr).add (k * 2) = ⟨b, off + k * 2, none⟩ := by unfold Addr.add; split <;> simp_all
    refine ⟨b, off + k * 2, by rw [Option.map_some, hadd], fun j hj => ?_⟩
    rw [List.length_drop] at hj
    rw [List.getElem_drop]
    have := hc (k + j) (by omega)
    rw [show off + (k + j) * 2 = off + k * 2 + j * 2 by omega] at this
    exact this

theorem flds_none (W : World) (a : Option Addr) : Flds W (.slice a 0 0) [] := ⟨a, 0, rfl, Nat.le_refl _, Nat.zero_le _, fun _ => rfl, fun h => absurd rfl h⟩

theorem set_row (D1 D2 : List F) (n x : ByteArray) : cellsF (D1 ++ (n.data.toList, x.data.toList) :: D2) = cellsF D1 ++ [.string n, .string x] ++ cellsF D2 := by
  rw [cellsF_app, show ((n.data.toList, x.data.toList) :: D2) = [(n.data.toList, x.data.toList)] ++ D2 from rfl, cellsF_app, ← List.append_assoc]
  rw [show cellsF [(n.data.toList, x.data.toList)] = [Value.string (tb n.data.toList), .string (tb x.data.toList)] from rfl, tb_of, tb_of]

theorem set_cnt (D1 D2 : List F) (f : F) : (D1 ++ f :: D2).length = D1.length + 1 + D2.length := by simp; omega

set_option maxRecDepth 100000 in
set_option maxHeartbeats 4000000 in
theorem set_any (v : Value) (l : List F) (hl : l.length ≤ 10000) (hs : ∀ f ∈ l, f.1.length ≤ 1000000 ∧ f.2.length ≤ 1000000) (n x : ByteArray) (hn : n.size ≤ 1000000) (hx : x.size ≤ 1000000) (w : World) (h : Flds w v l) :
    Calls Tryd.prog 19 #[v, .string n, .string x] w fun e w' => ∃ v', e = .returned v' ∧ Flds w' v' (setL l n.data.toList x.data.toList) ∧ Below w.heap.size w w' := by
  obtain ⟨i0, hi, hz0, hz1, hz2⟩ := info_parts info42
  have HS := Lib.hid (set_at l n.data.toList x.data.toList)
  have hat := atN_le l [n.data.toList]
  have hB0 := (Below.refl w.heap.size w).alloc (Nat.le_refl _) (.cells #[.string n] 9)
  have cN := named_any _ _ (by simp) (by simpa using hn) _ (strs_one w n)
  have HF := Lib.hid h
  obtain ⟨a, c, rfl, h1, h2, h3, h4⟩ := h
  unfold maxLen at h2
  have H3 := Lib.hid h3
  have H4 := Lib.hid h4
  clear h3 h4
  go_enter Tryd.func19, Tryd.ntmps19
  go_wp2_with fail
  refine cN.mono ?_
  rintro e w1 ⟨B, rfl, hN, hB1⟩
  have hb1 := Ascii.below2 hB0 hB1
  clear hB0 hB1 cN
  go_wp2_with fail
  refine (index_any _ l (fun f hf => (hs f hf).1) [n.data.toList] B w1 (HF.out.later hb1) hN).mono ?_
  rintro e w2 ⟨rfl, hB2⟩
  have hb2 := Ascii.below2 hb1 hB2
  clear hb1 hB2 hN
  obtain ⟨p, hp⟩ : ∃ p, atN l [n.data.toList] = p := ⟨_, rfl⟩
  have hI : idxI l [n.data.toList] = if p < l.length then (p : Int) else -1 := by unfold idxI; rw [hp]
  rw [hI]
  rw [hp] at HS hat
  clear hI hp
  by_cases hlt : p < l.length
  · rw [if_pos hlt]
    have hpc : p < c := by omega
    go_wp2_with fail
    refine (drop_owns _ (l.take p) (by rw [List.length_take]; omega) (fun f hf => hs f (List.mem_of_mem_take hf)) _ [n.data.toList] (by simp) (by simpa using hn) _ (flds_take ((HF.out.later hb2).later ((Below.refl _ w2).alloc (Nat.le_refl _) _)) p hat) (strs_one w2 n)).mono ?_
    rintro e w3 ⟨v3, rfl, hr3, hB3⟩
    have hs2 := hb2.size
    have hb3 := Ascii.below2 (hb2.alloc hs2 _) hB3
    have hr3' := owns_base (A := w.heap.size) hr3 (by simp; omega)
    have hd1 : (dropL (l.take p) [n.data.toList]).length ≤ 10000 := Nat.le_trans (drop_len _ _) (by rw [List.length_take]; omega)
    clear hr3 hB3
    obtain ⟨D1, hD1⟩ : ∃ D, dropL (l.take p) [n.data.toList] = D := ⟨_, rfl⟩
    rw [hD1] at hr3' hd1 HS
    go_wp2_with fail
    refine (own_any n x hn hx _).mono ?_
    rintro e w4 ⟨rfl, hB4⟩
    have hr4 := Path.owns_below hr3' hB4
    have hb4 := Ascii.below2 hb3 hB4
    have hs4 := hb4.size
    clear hr3' hB4 hb3
    go_wp2_with (at_builtin; refine wpList_append_own _ rfl _ _ 22 rfl w.heap.size 42 i0 (.agg #[.string ⟨#[]⟩, .string ⟨#[]⟩]) 2 32 Tryd.underlying22 hi hz0 hz1 hz2 rfl (by decide) _ _ _ rfl (hr4.alloc _) ⟨w4.heap.size, 0, none⟩ 1 1 [.string n, .string x] rfl rfl (World.news_of_block (heap_alloc_new w4 (.cells #[.string n, .string x] 42))) (by simp [Value.oneCell']) (by unfold maxLen; omega) (by omega) (by simp; omega) ?_; intro v5 w5 hown5 hgrow5 _)
    have hb5 := (hb4.alloc hs4 (.cells #[.string n, .string x] 42)).trans (grown_below (hr4.alloc _) (by simp; omega) hgrow5)
    have hs5 := hb5.size
    have hD2 := drop_owns _ (l.drop p) (by rw [List.length_drop]; omega) (fun f hf => hs f (List.mem_of_mem_drop hf)) _ [n.data.toList] (by simp) (by simpa using hn) _ (flds_drop ((HF.out.later (hb5)).later ((Below.refl _ w5).alloc (Nat.le_refl _) _)) p hat) (strs_one w5 n)
    refine hD2.mono ?_
    rintro e w6 ⟨v6, rfl, hr6, hB6⟩
    have hb6 := Ascii.below2 (hb5.alloc hs5 _) hB6
    have hs6 := hb6.size
    have hr56 := Path.owns_below (hown5.alloc (.cells #[.string n] 9)) hB6
    have hf6 := owns_flds hr6
    have hd2 : (dropL (l.drop p) [n.data.toList]).length ≤ 10000 := Nat.le_trans (drop_len _ _) (by rw [List.length_drop]; omega)
    clear hD2 hB6 hr4 hgrow5 hb5 hr6 hown5
    go_wp2_with (at_builtin; refine wpList_append_flds rfl _ _ rfl w.heap.size v5 _ _ rfl hr56 v6 _ rfl hf6 (by omega) hs6 ?_; intro v7 w7 hown7 hgrow7)
    have hb7 := hb6.trans (grown_below hr56 hs6 hgrow7)
    go_ret
    refine ⟨_, rfl, owns_flds (B := w.heap.size) ?_, hb7⟩
    rw [HS.out, set_row, set_cnt]
    exact hown7
  · rw [if_neg hlt]
    obtain rfl : p = l.length := by omega
    by_cases hpc : l.length < c
    · go_wp2_with fail
      refine (drop_owns _ (l.take l.length) (by rw [List.length_take]; omega) (fun f hf => hs f (List.mem_of_mem_take hf)) _ [n.data.toList] (by simp) (by simpa using hn) _ (flds_take ((HF.out.later hb2).later ((Below.refl _ w2).alloc (Nat.le_refl _) _)) l.length hat) (strs_one w2 n)).mono ?_
      rintro e w3 ⟨v3, rfl, hr3, hB3⟩
      have hs2 := hb2.size
      have hb3 := Ascii.below2 (hb2.alloc hs2 _) hB3
      have hr3' := owns_base (A := w.heap.size) hr3 (by simp; omega)
      have hd1 : (dropL (l.take l.length) [n.data.toList]).length ≤ 10000 := Nat.le_trans (drop_len _ _) (by rw [List.length_take]; omega)
      clear hr3 hB3
      obtain ⟨D1, hD1⟩ : ∃ D, dropL (l.take l.length) [n.data.toList] = D := ⟨_, rfl⟩
      rw [hD1] at hr3' hd1 HS
      go_wp2_with fail
      refine (own_any n x hn hx _).mono ?_
      rintro e w4 ⟨rfl, hB4⟩
      have hr4 := Path.owns_below hr3' hB4
      have hb4 := Ascii.below2 hb3 hB4
      have hs4 := hb4.size
      clear hr3' hB4 hb3
      go_wp2_with (at_builtin; refine wpList_append_own _ rfl _ _ 22 rfl w.heap.size 42 i0 (.agg #[.string ⟨#[]⟩, .string ⟨#[]⟩]) 2 32 Tryd.underlying22 hi hz0 hz1 hz2 rfl (by decide) _ _ _ rfl (hr4.alloc _) ⟨w4.heap.size, 0, none⟩ 1 1 [.string n, .string x] rfl rfl (World.news_of_block (heap_alloc_new w4 (.cells #[.string n, .string x] 42))) (by simp [Value.oneCell']) (by unfold maxLen; omega) (by omega) (by simp; omega) ?_; intro v5 w5 hown5 hgrow5 _)
      have hb5 := (hb4.alloc hs4 (.cells #[.string n, .string x] 42)).trans (grown_below (hr4.alloc _) (by simp; omega) hgrow5)
      have hs5 := hb5.size
      have hfx : Flds (w5.alloc (.cells #[.string n] 9)) (.slice (Option.map (fun x => x.add (l.length * 2)) a) 0 (c - l.length)) (l.drop l.length) := by
        have := flds_drop ((HF.out.later (hb5)).later ((Below.refl _ w5).alloc (Nat.le_refl _) (.cells #[.string n] 9))) l.length hat
        rw [Nat.sub_self] at this
        exact this
      have hD2 := drop_owns (.slice (Option.map (fun x => x.add (l.length * 2)) a) 0 (c - l.length)) (l.drop l.length) (by rw [List.length_drop]; omega) (fun f hf => hs f (List.mem_of_mem_drop hf)) _ [n.data.toList] (by simp) (by simpa using hn) _ hfx (strs_one w5 n)
      refine hD2.mono ?_
      rintro e w6 ⟨v6, rfl, hr6, hB6⟩
      have hb6 := Ascii.below2 (hb5.alloc hs5 _) hB6
      have hs6 := hb6.size
      have hr56 := Path.owns_below (hown5.alloc (.cells #[.string n] 9)) hB6
      have hf6 := owns_flds hr6
      have hd2 : (dropL (l.drop l.length) [n.data.toList]).length ≤ 10000 := Nat.le_trans (drop_len _ _) (by rw [List.length_drop]; omega)
      clear hD2 hB6 hr4 hgrow5 hb5 hr6 hown5
      go_wp2_with (at_builtin; refine wpList_append_flds rfl _ _ rfl w.heap.size v5 _ _ rfl hr56 v6 _ rfl hf6 (by omega) hs6 ?_; intro v7 w7 hown7 hgrow7)
      have hb7 := hb6.trans (grown_below hr56 hs6 hgrow7)
      go_ret
      refine ⟨_, rfl, owns_flds (B := w.heap.size) ?_, hb7⟩
      rw [HS.out, set_row, set_cnt]
      exact hown7
    · obtain rfl : c = l.length := by omega
      go_wp2_with fail
      refine (drop_owns _ (l.take l.length) (by rw [List.length_take]; omega) (fun f hf => hs f (List.mem_of_mem_take hf)) _ [n.data.toList] (by simp) (by simpa using hn) _ (flds_take ((HF.out.later hb2).later ((Below.refl _ w2).alloc (Nat.le_refl _) _)) l.length hat) (strs_one w2 n)).mono ?_
      rintro e w3 ⟨v3, rfl, hr3, hB3⟩
      have hs2 := hb2.size
      have hb3 := Ascii.below2 (hb2.alloc hs2 _) hB3
      have hr3' := owns_base (A := w.heap.size) hr3 (by simp; omega)
      have hd1 : (dropL (l.take l.length) [n.data.toList]).length ≤ 10000 := Nat.le_trans (drop_len _ _) (by rw [List.length_take]; omega)
      clear hr3 hB3
      obtain ⟨D1, hD1⟩ : ∃ D, dropL (l.take l.length) [n.data.toList] = D := ⟨_, rfl⟩
      rw [hD1] at hr3' hd1 HS
      go_wp2_with fail
      refine (own_any n x hn hx _).mono ?_
      rintro e w4 ⟨rfl, hB4⟩
      have hr4 := Path.owns_below hr3' hB4
      have hb4 := Ascii.below2 hb3 hB4
      have hs4 := hb4.size
      clear hr3' hB4 hb3
      go_wp2_with (at_builtin; refine wpList_append_own _ rfl _ _ 22 rfl w.heap.size 42 i0 (.agg #[.string ⟨#[]⟩, .string ⟨#[]⟩]) 2 32 Tryd.underlying22 hi hz0 hz1 hz2 rfl (by decide) _ _ _ rfl (hr4.alloc _) ⟨w4.heap.size, 0, none⟩ 1 1 [.string n, .string x] rfl rfl (World.news_of_block (heap_alloc_new w4 (.cells #[.string n, .string x] 42))) (by simp [Value.oneCell']) (by unfold maxLen; omega) (by omega) (by simp; omega) ?_; intro v5 w5 hown5 hgrow5 _)
      have hb5 := (hb4.alloc hs4 (.cells #[.string n, .string x] 42)).trans (grown_below (hr4.alloc _) (by simp; omega) hgrow5)
      have hs5 := hb5.size
      have hD2 := drop_owns (.slice a 0 0) (l.drop l.length) (by rw [List.length_drop]; omega) (fun f hf => hs f (List.mem_of_mem_drop hf)) _ [n.data.toList] (by simp) (by simpa using hn) _ (by rw [List.drop_of_length_le (Nat.le_refl _)]; exact flds_none _ a) (strs_one w5 n)
      refine hD2.mono ?_
      rintro e w6 ⟨v6, rfl, hr6, hB6⟩
      have hb6 := Ascii.below2 (hb5.alloc hs5 _) hB6
      have hs6 := hb6.size
      have hr56 := Path.owns_below (hown5.alloc (.cells #[.string n] 9)) hB6
      have hf6 := owns_flds hr6
      have hd2 : (dropL (l.drop l.length) [n.data.toList]).length ≤ 10000 := Nat.le_trans (drop_len _ _) (by rw [List.length_drop]; omega)
      clear hD2 hB6 hr4 hgrow5 hb5 hr6 hown5
      go_wp2_with (at_builtin; refine wpList_append_flds rfl _ _ rfl w.heap.size v5 _ _ rfl hr56 v6 _ rfl hf6 (by omega) hs6 ?_; intro v7 w7 hown7 hgrow7)
      have hb7 := hb6.trans (grown_below hr56 hs6 hgrow7)
      go_ret
      refine ⟨_, rfl, owns_flds (B := w.heap.size) ?_, hb7⟩
      rw [HS.out, set_row, set_cnt]
      exact hown7

end Go.Proofs.YtagmmdnfbjgmcaaDoor.Head

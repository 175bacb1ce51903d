/-
  Parse(raw): a range over the lines that leaves early, where one tells no field.
-/
import Derived.Test.YtagmmdnfbjgmcaaDoorHdLines
namespace Go.Proofs.YtagmmdnfbjgmcaaDoor.Head
set_option linter.unusedSimpArgs false
set_option linter.unusedVariables false
set_option maxRecDepth 100000


open Go.RowKit Go.Shelf

open Url

open Path (Strs tx infoText MaxAt)

attribute [local go_sem] Oper.semAt_some

theorem keeps_below {W W' : World} (h : Below W.heap.size W W') (D : Nat) : KeepsFrom D W W' := ⟨h.size, fun k o _ hk _ => (h.block k (Array.getElem?_eq_some_iff.1 hk).1).trans hk⟩

theorem flds_kept {W W' : World} {v : Value} {l : List F} (h : Flds W v l) (hk : ∀ p u, W.cell? p = some u → W'.cell? p = some u) : Flds W' v l := by
  obtain ⟨a, c, rfl, h1, h2, h3, h4⟩ := h
  refine ⟨a, c, rfl, h1, h2, h3, fun hl => ?_⟩
  obtain ⟨b, off, rfl, hc⟩ := h4 hl
  exact ⟨b, off, rfl, fun j hj => ⟨hk _ _ (hc j hj).1, hk _ _ (hc j hj).2⟩⟩

/-- The fields so far. -/
def sofar (ps : List Line) : List F := (fieldsL (lvals ps)).getD []

theorem sofar_snoc {ps : List Line} {x : Line} {f : F} (h : (fieldsL (lvals ps)).isSome = true) (hx : stepL x.1 = some f) : (fieldsL (lvals (ps ++ [x]))).isSome = true ∧ sofar (ps ++ [x]) = sofar ps ++ [f] := by
  unfold sofar
  rw [lvals_snoc, fields_app, show fieldsL [x.1] = some [f] by rw [fields_some _ hx]; rfl]
  obtain ⟨y, hy⟩ := Option.isSome_iff_exists.1 h
  rw [hy]
  exact ⟨rfl, rfl⟩

theorem sofar_none {ps : List Line} {x : Line} (hx : stepL x.1 = none) : fieldsL (lvals (ps ++ [x])) = none := by
  rw [lvals_snoc, fields_app, show fieldsL [x.1] = none from fields_none _ hx]
  cases fieldsL (lvals ps) <;> rfl

theorem prefix_none {a b : List (T × Bool)} (h : a <+: b) (ha : fieldsL a = none) : fieldsL b = none := by
  obtain ⟨t, rfl⟩ := h
  rw [fields_app, ha]; rfl

theorem fields_cnt (a : List (T × Bool)) : ∀ x, fieldsL a = some x → x.length = a.length := by
  induction a with
  | nil => intro x hx; rw [fields_nil] at hx; cases hx; rfl
  | cons p a ih =>
    intro x hx
    cases h : stepL p with
    | none => rw [fields_none _ h] at hx; cases hx
    | some f =>
      rw [fields_some _ h] at hx
      cases h2 : fieldsL a with
      | none => rw [h2] at hx; cases hx
      | some y =>
        rw [h2] at hx
        cases hx
        simp [ih y h2]

theorem sofar_len (ps : List Line) (h : (fieldsL (lvals ps)).isSome = true) : (sofar ps).length = ps.length := by
  obtain ⟨y, hy⟩ := Option.isSome_iff_exists.1 h
  unfold sofar
  rw [hy]
  show y.length = _
  rw [fields_cnt _ y hy]
  simp [lvals]

/-- What Parse answers. -/
def parseB (l : T) : Bool := (parseL l).isSome

def parseF (l : T) : List F := (parseL l).getD []

set_option maxRecDepth 100000 in
set_option maxHeartbeats 8000000 in
theorem parse_in (s : ByteArray) (hs : s.size ≤ 100000) (m : Int) (w : World) (hm : MaxAt m w) :
    CallsIn Fence.wide 5 Tryd.prog 11 #[.string s] w fun e W' => ∃ v', e = .returned (.tuple #[v', .bool (parseB s.data.toList)]) ∧ Flds W' v' (parseF s.data.toList) ∧ Below w.heap.size w W' := by
  obtain ⟨i0, hi, hz0, hz1, hz2⟩ := info_parts info42
  refine callsIn_of_wp_marks Tryd.func11 rfl trivial ?_ rfl
  simp only [Tryd.ntmps11, List.size_toArray, List.length_cons, List.length_nil, Nat.reduceAdd, Nat.reduceSub, Array.replicate_succ, Array.replicate_zero, List.push_toArray, List.append_toArray, List.nil_append, List.cons_append]
  have b0 := (Boxed.new w 22 (.slice none 0 0)).alloc (.cells #[.bool false] 4)
  have b1 := Boxed.new (w.alloc (.cells #[.slice none 0 0] 22)) 4 (.bool false)
  have b2 := Boxed.new ((w.alloc (.cells #[.slice none 0 0] 22)).alloc (.cells #[.bool false] 4)) 22 (.slice none 0 0)
  have bS := Boxed.new (((w.alloc (.cells #[.slice none 0 0] 22)).alloc (.cells #[.bool false] 4)).alloc (.cells #[.slice none 0 0] 22)) 9 (.string s)
  simp only [World.size_alloc] at b1 b2 bS
  have hB0 : Below w.heap.size w ((((w.alloc (.cells #[.slice none 0 0] 22)).alloc (.cells #[.bool false] 4)).alloc (.cells #[.slice none 0 0] 22)).alloc (.cells #[.string s] 9)) := ((((Below.refl _ w).alloc (Nat.le_refl _) _).alloc (by simp) _).alloc (by simp; omega) _).alloc (by simp; omega) _
  have hsz : ((((w.alloc (.cells #[.slice none 0 0] 22)).alloc (.cells #[.bool false] 4)).alloc (.cells #[.slice none 0 0] 22)).alloc (.cells #[.string s] 9)).heap.size = w.heap.size + 4 := by simp
  have a0 := (b0.alloc (.cells #[.slice none 0 0] 22)).alloc (.cells #[.string s] 9)
  have a1 := (b1.alloc (.cells #[.slice none 0 0] 22)).alloc (.cells #[.string s] 9)
  have a2 := b2.alloc (.cells #[.string s] 9)
  clear b0 b1 b2
  gi_wp2_with fail
  refine ⟨trivial, (lines_in Fence.wide _ trivial rfl s _).mono ?_⟩
  rintro e w4 ⟨rfl, rfl⟩
  simp only [World.size_alloc]
  generalize (((w.alloc (.cells #[.slice none 0 0] 22)).alloc (.cells #[.bool false] 4)).alloc (.cells #[.slice none 0 0] 22)).alloc (.cells #[.string s] 9) = W0 at a0 a1 a2 bS hB0 hsz ⊢
  gi_wp2_with fail
  have hsl : s.data.toList.length = s.size := rfl
  have hll := lines_len s.data.toList
  have hcS := bS.cell
  rw [← tb_of s] at hcS
  refine wpIn_rangeFunc_ownG rfl (by omega) (gf := 48) (lb := #[.pointer (some ⟨w.heap.size + 1 + 1 + 1, 0, none⟩)]) rfl trivial (enters_of Tryd.func48 (by kernel_rfl) rfl)
    (lines_stops 4 (by omega) (w.heap.size + 1 + 1 + 1) s.data.toList (by omega) m W0 (hm.later hB0) hcS) keepsM_t keepsM_b (Below.refl _ _) (fun _ => rfl)
    (fun pre W => (((((fieldsL (lvals pre)).isSome = true ∧ Boxed W w.heap.size 22 (.slice none 0 0)) ∧ Boxed W (w.heap.size + 1) 4 (.bool false)) ∧ (∃ v, Boxed W (w.heap.size + 1 + 1) 22 v ∧ W.ownsRow w.heap.size 42 2 v (sofar pre).length (cellsF (sofar pre)) ∧ True)) ∧ Below w.heap.size w W))
    (fun c pre W => ((((c = .ret ∧ fieldsL (lvals pre) = none) ∧ Boxed W w.heap.size 22 (.slice none 0 0)) ∧ Boxed W (w.heap.size + 1) 4 (.bool false)) ∧ Below w.heap.size w W))
    (OwnFrom.and (OwnFrom.and (OwnFrom.and (OwnFrom.and (ownFrom_pure _ _) (Own.from (boxed_own _ _ _) _)) (Own.from (boxed_own _ _ _) _)) (Own.from (holdsRow_own w.heap.size (w.heap.size + 1 + 1) 22 42 2 (fun pre => (sofar pre).length) (fun pre => cellsF (sofar pre)) (fun _ _ => True)) _)) (ownFrom_below (Nat.le_refl _) (by omega)))
    (fun c => OwnFrom.and (OwnFrom.and (OwnFrom.and (ownFrom_pure _ _) (Own.from (boxed_own _ _ _) _)) (Own.from (boxed_own _ _ _) _)) (ownFrom_below (Nat.le_refl _) (by omega)))
    ⟨⟨⟨⟨rfl, a0⟩, a1⟩, ⟨_, a2, World.ownsRow_nil _ _ _ _, trivial⟩⟩, hB0⟩
    (fun x => { tmps := #[.string s, undef, .pointer (some ⟨w.heap.size, 0, none⟩), .pointer (some ⟨w.heap.size + 1, 0, none⟩), .pointer (some ⟨w.heap.size + 1 + 1, 0, none⟩), .string (tb x.1.1), .bool x.1.2, undef, undef, .string s, .func (.func 48) #[] #[.pointer (some ⟨w.heap.size + 1 + 1 + 1, 0, none⟩)], .string (tb x.1.1), .bool x.1.2, undef, undef, undef, undef, undef, undef, undef, undef, undef, undef, undef, undef, undef, undef, undef, undef], defers := [] }) ?assign ?body ?done ?stop
  case assign =>
    intro l x W K hK
    gi_wp2
    exact hK
  case body =>
    rintro l pre ⟨⟨x, b⟩, hx⟩ W ⟨⟨⟨⟨hok, c0⟩, c1⟩, ⟨u, hv, hrow, -⟩⟩, hB⟩ hlt
    have hcf := field_any (tb x) (by rw [tb_size]; exact hx) m W (hm.later hB)
    rw [tb_list] at hcf
    have hsl' := sofar_len pre hok
    have hlen : (sofar pre).length ≤ 100000 := by omega
    have hBs := hB.size
    have leave : ∀ (W1 : World) (o : Obj), Below W.heap.size W W1 → stepL (x, b) = none → KeepsFrom W0.heap.size W ((((W1.alloc o)).setCell ⟨w.heap.size, 0, none⟩ (.slice none 0 0)).setCell ⟨w.heap.size + 1, 0, none⟩ (.bool false)) ∧
        ((((Code.ret = Code.ret ∧ fieldsL (lvals (pre ++ [⟨(x, b), hx⟩])) = none) ∧ Boxed ((((W1.alloc o)).setCell ⟨w.heap.size, 0, none⟩ (.slice none 0 0)).setCell ⟨w.heap.size + 1, 0, none⟩ (.bool false)) w.heap.size 22 (.slice none 0 0)) ∧ Boxed ((((W1.alloc o)).setCell ⟨w.heap.size, 0, none⟩ (.slice none 0 0)).setCell ⟨w.heap.size + 1, 0, none⟩ (.bool false)) (w.heap.size + 1) 4 (.bool false)) ∧ Below w.heap.size w ((((W1.alloc o)).setCell ⟨w.heap.size, 0, none⟩ (.slice none 0 0)).setCell ⟨w.heap.size + 1, 0, none⟩ (.bool false))) := by
      intro W1 o hB1 hno
      have h1 := hB.trans (hB1.mono hBs)
      have h2 := h1.alloc h1.size o
      have e0 := (Path.boxed_below c0 hB1).alloc o
      have e1 := (Path.boxed_below c1 hB1).alloc o
      refine ⟨?_, ⟨⟨⟨rfl, sofar_none hno⟩, (e0.set _).other (by omega) _⟩, (e1.other (by omega) _).set _⟩, (h2.setCell (p := ⟨w.heap.size, 0, none⟩) (by simp) _).setCell (p := ⟨w.heap.size + 1, 0, none⟩) (by simp) _⟩
      exact (((keeps_below hB1 _).trans ((KeepsOthers.alloc _ _).from _)).trans ((KeepsOthers.setCell _ _ _).from _)).trans ((KeepsOthers.setCell _ _ _).from _)
    simp only at hx
    cases hfo : fieldO x with
    | none =>
      rw [hfo] at hcf
      have HL := Lib.hid leave
      have hno : Hid (stepL (x, b) = none) := Lib.hid (by unfold stepL; cases b <;> simp [hfo])
      clear leave hfo
      unfold fieldV at hcf
      cases b
      all_goals
        gi_wp2_with fail
        refine ⟨trivial, (CallsIn.inRound l (callsIn_wide.2 hcf)).mono ?_⟩
        rintro e W1 ⟨rfl, hB1⟩
        have e0 := (Path.boxed_below c0 hB1).alloc (.cells #[.string ⟨#[]⟩, .string ⟨#[]⟩] 42)
        have e1 := (Path.boxed_below c1 hB1).alloc (.cells #[.string ⟨#[]⟩, .string ⟨#[]⟩] 42)
        have g0 := e0.cell
        have f0 := e0.frozen
        have g1 := (e1.other (show w.heap.size + 1 ≠ w.heap.size by omega) (.slice none 0 0)).cell
        have f1 := (e1.other (show w.heap.size + 1 ≠ w.heap.size by omega) (.slice none 0 0)).frozen
        gi_wp2
        obtain ⟨k1, ⟨⟨⟨-, k2⟩, k3⟩, k4⟩, k5⟩ := HL.out W1 _ hB1 hno.out
        exact ⟨k1, ⟨⟨⟨rfl, k2⟩, k3⟩, k4⟩, k5⟩
    | some f =>
      rw [hfo] at hcf
      have hfl := field_ok hfo
      unfold fieldV at hcf
      simp only at hcf
      have HT : Hid (cellsF [f] = [.string (tb f.1), .string (tb f.2)]) := Lib.hid rfl
      generalize tb f.1 = X at hcf HT
      generalize tb f.2 = Y at hcf HT
      cases b
      · have HL := Lib.hid leave
        have hno : Hid (stepL (x, false) = none) := Lib.hid rfl
        clear leave hfo
        gi_wp2_with fail
        refine ⟨trivial, (CallsIn.inRound l (callsIn_wide.2 hcf)).mono ?_⟩
        rintro e W1 ⟨rfl, hB1⟩
        have e0 := (Path.boxed_below c0 hB1).alloc (.cells #[.string X, .string Y] 42)
        have e1 := (Path.boxed_below c1 hB1).alloc (.cells #[.string X, .string Y] 42)
        have g0 := e0.cell
        have f0 := e0.frozen
        have g1 := (e1.other (show w.heap.size + 1 ≠ w.heap.size by omega) (.slice none 0 0)).cell
        have f1 := (e1.other (show w.heap.size + 1 ≠ w.heap.size by omega) (.slice none 0 0)).frozen
        gi_wp2
        obtain ⟨k1, ⟨⟨⟨-, k2⟩, k3⟩, k4⟩, k5⟩ := HL.out W1 _ hB1 hno.out
        exact ⟨k1, ⟨⟨⟨rfl, k2⟩, k3⟩, k4⟩, k5⟩
      · have hst : stepL (x, true) = some f := by unfold stepL; rw [if_pos rfl, hfo]
        have hsn := sofar_snoc (x := ⟨(x, true), hx⟩) hok hst
        have HS := Lib.hid hsn
        clear leave hfo hst hsn
        obtain ⟨xs, hxs⟩ : ∃ xs, cellsF (sofar pre) = xs := ⟨_, rfl⟩
        obtain ⟨q, hq⟩ : ∃ q, (sofar pre).length = q := ⟨_, rfl⟩
        rw [hxs, hq] at hrow
        rw [hq] at hlen
        have HX := Lib.hid hxs
        have HQ := Lib.hid hq
        clear hxs hq
        gi_wp2_with fail
        refine ⟨trivial, (CallsIn.inRound l (callsIn_wide.2 hcf)).mono ?_⟩
        rintro e W1 ⟨rfl, hB1⟩
        have h1 := hB.trans (hB1.mono hBs)
        have h2 := h1.alloc h1.size (.cells #[.string X, .string Y] 42)
        have hs1 := h1.size
        have e0 := (Path.boxed_below c0 hB1).alloc (.cells #[.string X, .string Y] 42)
        have e1 := (Path.boxed_below c1 hB1).alloc (.cells #[.string X, .string Y] 42)
        have e2 := (Path.boxed_below hv hB1).alloc (.cells #[.string X, .string Y] 42)
        have hr2 := (Path.owns_below hrow hB1).alloc (.cells #[.string X, .string Y] 42)
        have hF := FAt.new W1 X Y
        have d0 := hF.c0
        have d1 := hF.c1
        have hc := e2.cell
        have hkf := (keeps_below hB1 W0.heap.size).trans ((KeepsOthers.alloc W1 (.cells #[.string X, .string Y] 42)).from _)
        have hnews : ∀ j u, ([.string X, .string Y] : List Value)[j]? = some u → (((W1.alloc (.cells #[.string X, .string Y] 42)).alloc (.cells #[.string X, .string Y] 42)).cell? ((⟨W1.heap.size + 1, 0, none⟩ : Addr).add j)) = some u := by
          have := World.news_of_block (heap_alloc_new (W1.alloc (.cells #[.string X, .string Y] 42)) (.cells #[.string X, .string Y] 42))
          rw [World.size_alloc] at this
          exact this
        gi_wp2_with (gi_at_builtin; refine wpListIn_append_own _ rfl _ _ 22 rfl w.heap.size 42 i0 (.agg #[.string ⟨#[]⟩, .string ⟨#[]⟩]) 2 32 Tryd.underlying22 hi hz0 hz1 hz2 rfl (by decide) _ _ _ rfl (hr2.alloc _) ⟨W1.heap.size + 1, 0, none⟩ 1 1 [.string X, .string Y] rfl rfl hnews (by simp [Value.oneCell']) (by unfold maxLen; omega) (by omega) (by simp; omega) ?_; intro v' w2 hown' hgrow _; obtain ⟨g', cap', rfl⟩ := ownsRow_succ hown'; obtain ⟨hv1, hv2, hr3, hk2, hbe⟩ := e2.appended (by decide) hr2 h2.size (by omega) hown' hgrow; have hc1 := hv1.cell; have hf1 := hv1.frozen)
        have n0 := e0.not_row (by decide) hr2
        have n1 := e1.not_row (by decide) hr2
        have hBe := h2.trans hbe
        refine ⟨hkf.trans (hk2.from _), fun _ => hm.later hBe, ⟨⟨⟨⟨HS.out.1, ((e0.alloc _).kept hgrow n0).other (by omega) _⟩, ((e1.alloc _).kept hgrow n1).other (by omega) _⟩, ⟨_, hv2, ?_, trivial⟩⟩, hBe⟩⟩
        rw [HS.out.2, cellsF_app, List.length_append, HX.out, HQ.out, HT.out]
        exact hr3
  case done =>
    rintro D ys W hD hys ⟨⟨⟨⟨hok, c0⟩, c1⟩, ⟨u, hv, hrow, -⟩⟩, hB⟩ hK
    have hPB : Hid (parseB s.data.toList = true) := Lib.hid (by unfold parseB parseL; rw [← hys]; exact hok)
    have hPF : Hid (parseF s.data.toList = sofar ys) := Lib.hid (by unfold parseF parseL sofar; rw [← hys])
    have n0 := (c0.not_row (by decide) hrow)
    have hu := hv.cell
    have g0 := c0.cell
    have f0 := c0.frozen
    have e1 := c1.other (show w.heap.size + 1 ≠ w.heap.size by omega) u
    have g1 := e1.cell
    have f1 := e1.frozen
    have hrow2 := hrow.kept (grownBy_setCell' W w.heap.size u) (.inr n0.symm)
    have n1 := e1.not_row (by decide) hrow2
    have hrow3 := hrow2.kept (grownBy_setCell' _ (w.heap.size + 1) (.bool true)) (.inr n1.symm)
    have k0 := (c0.set u).other (show w.heap.size ≠ w.heap.size + 1 by omega) (.bool true)
    have k1 := e1.set (.bool true)
    have hb3 := (hB.setCell (p := ⟨w.heap.size, 0, none⟩) (by simp) u).setCell (p := ⟨w.heap.size + 1, 0, none⟩) (by simp) (.bool true)
    have hK3 := (KeepsOthers.setCell (W.setCell ⟨w.heap.size, 0, none⟩ u) ⟨w.heap.size + 1, 0, none⟩ (.bool true)).same D _ ((KeepsOthers.setCell W ⟨w.heap.size, 0, none⟩ u).same D _ hK rfl) rfl
    obtain ⟨ua, uc, rfl, -⟩ := owns_flds hrow
    gi_wp2
    refine ⟨by simp, .inl ⟨_, _, rfl, run_takeDeferred hK3, ?_⟩⟩
    have m0 := cell_kept k0.cell (grownBy_putObj' _ D (.deferred none)) (fun r e => by cases e; exact ⟨_, hK3, rfl⟩)
    have m1 := cell_kept k1.cell (grownBy_putObj' _ D (.deferred none)) (fun r e => by cases e; exact ⟨_, hK3, rfl⟩)
    refine ⟨.tuple #[.slice ua (sofar ys).length uc, .bool true], ?_, ⟨.slice ua (sofar ys).length uc, by rw [hPB.out], ?_, hb3.trans (belowK_b (w := w) (Nat.le_refl _) _ D _ _ (by omega) hK3 rfl rfl)⟩⟩
    · simp [results, Tryd.f11, go_sem, m0, m1]
    · rw [hPF.out]
      exact flds_kept (owns_flds hrow3) (fun p x hx => cell_kept hx (grownBy_putObj' _ D _) (fun r e => by cases e; exact ⟨_, hK3, rfl⟩))
  case stop =>
    rintro D c pre W hD hpre ⟨⟨⟨⟨rfl, hno⟩, c0⟩, c1⟩, hB⟩ hK
    have hPN := prefix_none hpre hno
    gi_wp2
    refine ⟨by simp, .inl ⟨_, _, rfl, run_takeDeferred hK, ?_⟩⟩
    have m0 := cell_kept c0.cell (grownBy_putObj' _ D (.deferred none)) (fun r e => by cases e; exact ⟨_, hK, rfl⟩)
    have m1 := cell_kept c1.cell (grownBy_putObj' _ D (.deferred none)) (fun r e => by cases e; exact ⟨_, hK, rfl⟩)
    refine ⟨.tuple #[.slice none 0 0, .bool false], ?_, ⟨.slice none 0 0, by unfold parseB parseL; rw [hPN]; rfl, ?_, hB.trans (belowK_b (w := w) (Nat.le_refl _) W D _ _ (by omega) hK rfl rfl)⟩⟩
    · simp [results, Tryd.f11, go_sem, m0, m1]
    · unfold parseF parseL
      rw [hPN]
      exact Flds.nil _

theorem parse_any (s : ByteArray) (hs : s.size ≤ 100000) (m : Int) (w : World) (hm : MaxAt m w) :
    Calls Tryd.prog 11 #[.string s] w fun e W' => ∃ v', e = .returned (.tuple #[v', .bool (parseB s.data.toList)]) ∧ Flds W' v' (parseF s.data.toList) ∧ Below w.heap.size w W' :=
  callsIn_wide.1 (parse_in s hs m w hm)

end Go.Proofs.YtagmmdnfbjgmcaaDoor.Head

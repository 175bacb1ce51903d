/-
  The document's Parse of layer 13.
-/
import Derived.Test.YtagmmdnfbjgmcaaDoorHdRefB
namespace Go.Proofs.YtagmmdnfbjgmcaaDoor.Head
set_option linter.unusedSimpArgs false
set_option linter.unusedVariables false
set_option maxRecDepth 100000


open Go.RowKit Go.Shelf

open Url

open Path (Strs tx infoText MaxAt)


/-! ### Lines, byte by byte -/
/-- The two bytes that end a line stand at q. -/
def endAt (l : T) (q : Nat) : Prop := l[q]? = some 13 ∧ l[q + 1]? = some 10

theorem fst_of (a : T) (h : ∀ q, ¬ endAt a q) : Fst a := by
  induction a with
  | nil => exact fst_no (by simp)
  | cons c a ih =>
    have h' : ∀ q, ¬ endAt a q := fun q hq => h (q + 1) ⟨by simpa using hq.1, by simpa using hq.2⟩
    refine fst_cons (ih h') fun r => ?_
    by_cases hc : c = 13
    · subst hc
      cases a with
      | nil => rfl
      | cons d a =>
        by_cases hd : d = 10
        · subst hd; exact absurd ⟨rfl, rfl⟩ (h 0)
        · show (13 == 13 && (10 == d && List.isPrefixOf [] _)) = false
          have : ((10 : UInt8) == d) = false := by rw [beq_eq_false_iff_ne]; exact fun e => hd e.symm
          rw [this]; simp
    · show (13 == c && _) = false
      have : ((13 : UInt8) == c) = false := by rw [beq_eq_false_iff_ne]; exact fun e => hc e.symm
      rw [this]; rfl

theorem none_of (l : T) (h : ∀ q, ¬ endAt l q) : Lib.index l [13, 10] = -1 := by
  rcases parted2 l with h1 | ⟨a, r, rfl, hF⟩
  · exact h1
  · exfalso
    refine h a.length ⟨?_, ?_⟩
    · rw [List.getElem?_append_right (Nat.le_refl _), Nat.sub_self]; rfl
    · rw [List.getElem?_append_right (by omega), show a.length + 1 - a.length = 1 by omega]; rfl

theorem end_drop (l : T) (j q : Nat) : endAt (l.drop j) q ↔ endAt l (j + q) := by
  unfold endAt
  rw [List.getElem?_drop, List.getElem?_drop, Nat.add_assoc]

theorem line_at (l : T) (j k : Nat) (hjk : j ≤ k) (h1 : l[k]? = some 13) (h2 : l[k + 1]? = some 10) : l.drop j = (l.take k).drop j ++ 13 :: 10 :: l.drop (k + 2) := by
  have hk : k < l.length := (List.getElem?_eq_some_iff.1 h1).1
  have hk2 : k + 1 < l.length := (List.getElem?_eq_some_iff.1 h2).1
  have e : l.drop k = 13 :: 10 :: l.drop (k + 2) := by
    rw [List.drop_eq_getElem_cons hk, List.drop_eq_getElem_cons hk2, (List.getElem?_eq_some_iff.1 h1).2, (List.getElem?_eq_some_iff.1 h2).2]
  conv => lhs; rw [← List.take_append_drop k l]
  rw [List.drop_append_of_le_length (by rw [List.length_take]; omega), e]

theorem line_fst (l : T) (j k : Nat) (h : ∀ q, j ≤ q → q < k → ¬ endAt l q) (h1 : l[k]? = some 13) : Fst ((l.take k).drop j) := by
  refine fst_of _ fun q hq => ?_
  rw [end_drop] at hq
  obtain ⟨a1, a2⟩ := hq
  have hlt : j + q + 1 < (l.take k).length := (List.getElem?_eq_some_iff.1 a2).1
  rw [List.length_take] at hlt
  rw [List.getElem?_take_of_lt (by omega)] at a1
  rw [List.getElem?_take_of_lt (by omega)] at a2
  exact h (j + q) (by omega) (by omega) ⟨a1, a2⟩

theorem parse_step (l : T) (j k : Nat) (hjk : j ≤ k) (fs : List F) (hp : parseL l = (parseL (l.drop j)).map (fs ++ ·)) (h : ∀ q, j ≤ q → q < k → ¬ endAt l q) (h1 : l[k]? = some 13) (h2 : l[k + 1]? = some 10) :
    (fieldO ((l.take k).drop j) = none → parseL l = none) ∧ ∀ f, fieldO ((l.take k).drop j) = some f → parseL l = (parseL (l.drop (k + 2))).map ((fs ++ [f]) ++ ·) := by
  rw [line_at l j k hjk h1 h2, parse_end (line_fst l j k h h1)] at hp
  constructor
  · intro hn; rw [hp, hn]; rfl
  · intro f hf
    rw [hp, hf]
    cases parseL (l.drop (k + 2)) <;> simp

theorem parse_last (l : T) (j : Nat) (fs : List F) (hp : parseL l = (parseL (l.drop j)).map (fs ++ ·)) (h : ∀ q, j ≤ q → q < l.length → ¬ endAt l q) :
    (j < l.length → parseL l = none) ∧ (l.length ≤ j → parseL l = some fs) := by
  constructor
  · intro hj
    rw [hp, parse_none (by intro e; have := congrArg List.length e; rw [List.length_drop, List.length_nil] at this; omega) (none_of _ fun q hq => by
      rw [end_drop] at hq
      have := (List.getElem?_eq_some_iff.1 hq.1).1
      exact h (j + q) (by omega) this hq)]
    rfl
  · intro hj
    rw [hp, List.drop_of_length_le hj, parse_nil]
    simp

theorem told_no {l : T} (h : parseL l = none) : parseB l = false ∧ parseF l = [] := by
  unfold parseB parseF; rw [h]; exact ⟨rfl, rfl⟩

theorem told_yes {l : T} {x : List F} (h : parseL l = some x) : parseB l = true ∧ parseF l = x := by
  unfold parseB parseF; rw [h]; exact ⟨rfl, rfl⟩

/-- A store of a field into a block; the world behind it, by what is read of it. -/
theorem wp_put42 {ops : Array Oper} {rest : List Oper} {o : Oper} {a : Act} {w : World} {Q : Exit → Act → World → Prop} (hgd : o.guard = none) (x y : Operand) (ho : o.op = .store 42 x y) (g : Nat) (hx : a.eval x = .pointer (some ⟨g, 0, none⟩))
    (c d : ByteArray) (hy : a.eval y = .agg #[.string c, .string d]) {a0 b0 : ByteArray} (hF : FAt w g a0 b0) (hd : o.dst = none)
    (h : ∀ W', FAt W' g c d → (∀ B u, Below B u w → B ≤ g → Below B u W') → wpList Tryd.prog ops Q rest a W') : wpList Tryd.prog ops Q (o :: rest) a w := by
  refine wp_store42 hgd x y ho g hx c d hy a0 b0 hF ?_
  rw [show a.put o.dst undef = a by rw [hd]; rfl]
  refine h _ (hF.row c d) fun B u hB hg => below_field hB hg _

/-! ### Parse -/

theorem get_byte (s : ByteArray) (k : Nat) (h : k < s.size) (n : UInt8) : s.data.toList[k]? = some n ↔ ((s[k].toNat : Int) != (n.toNat : Int)) = false := by
  have e : s.data.toList[k]? = some s[k] := List.getElem?_eq_getElem (l := s.data.toList) (i := k) h
  rw [e, bne_eq_false_iff_eq]
  constructor
  · intro h; rw [Option.some.inj h]
  · intro h; rw [UInt8.toNat_inj.1 (show s[k].toNat = n.toNat by omega)]

theorem get_not (s : ByteArray) (k : Nat) (h : k < s.size) (n : UInt8) : ((s[k].toNat : Int) != (n.toNat : Int)) = true → s.data.toList[k]? ≠ some n := by
  intro h1 h2
  rw [(get_byte s k h n).1 h2] at h1
  cases h1

theorem more_not {l : T} {j k : Nat} (h : ∀ q, j ≤ q → q < k → ¬ endAt l q) (hk : ¬ endAt l k) : ∀ q, j ≤ q → q < k + 1 → ¬ endAt l q := fun q h1 h2 => by
  rcases Nat.lt_or_ge q k with h3 | h3
  · exact h q h1 h3
  · obtain rfl : q = k := by omega
    exact hk

set_option maxRecDepth 100000 in
set_option maxHeartbeats 8000000 in
theorem refParse_any (s : ByteArray) (hs : s.size ≤ 30000) (w : World) :
    Calls Tryd.prog 12 #[.string s] w fun e W' => ∃ v', e = .returned (.tuple #[v', .bool (parseB s.data.toList)]) ∧ Flds W' v' (parseF s.data.toList) ∧ Below w.heap.size w W' := by
  have HSL := Lib.hid (show s.data.toList.length = s.size from rfl)
  go_enter Tryd.func12, Tryd.ntmps12
  go_wp2
  go_loopw [4, 5, 6, 7, 8] (fun o fr i _ _ wr => ∃ (k j : Nat) (fs : List F), k ≤ s.size ∧ i = .int .i64 k ∧ fr = .int .i64 j ∧ j ≤ s.size ∧ OwnF w.heap.size wr o fs ∧ fs.length ≤ k ∧ Hid ((j ≤ k ∨ j = k + 1 ∧ s.data.toList[k]? = some 10) ∧ parseL s.data.toList = (parseL (s.data.toList.drop j)).map (fs ++ ·) ∧ ∀ q, j ≤ q → q < k → ¬ endAt s.data.toList q) ∧ Below w.heap.size w wr) (fun _ _ i _ _ _ => s.size - (intOf i).toNat)
  case atStart =>
    refine ⟨0, 0, [], Nat.zero_le _, rfl, rfl, Nat.zero_le _, OwnF.start w, Nat.le_refl _, Lib.hid ⟨.inl (Nat.le_refl _), ?_, fun q h1 h2 => absurd h2 (by omega)⟩, Below.refl _ _⟩
    rw [List.drop_zero]
    cases parseL s.data.toList <;> simp
  case round =>
    obtain ⟨k, j, fs, hk, rfl, rfl, hj, hrow, hfl, hH, hB⟩ := hrel
    by_cases hlt : k < s.size
    · have tk : (k : Int) < s.size := by omega
      have go_on : ¬ endAt s.data.toList k → Hid ((j ≤ k + 1 ∨ j = k + 1 + 1 ∧ s.data.toList[k + 1]? = some 10) ∧ parseL s.data.toList = (parseL (s.data.toList.drop j)).map (fs ++ ·) ∧ ∀ q, j ≤ q → q < k + 1 → ¬ endAt s.data.toList q) := fun hn =>
        Lib.hid ⟨.inl (by rcases hH.out.1 with h | ⟨h, -⟩ <;> omega), hH.out.2.1, more_not hH.out.2.2 hn⟩
      have GO := Lib.hid go_on
      have HR := Lib.hid hrow
      clear go_on hrow
      cases q13 : ((s[k].toNat : Int) != 13)
      · have h13 := (get_byte s k hlt 13).2 q13
        have hjk : j ≤ k := by
          rcases hH.out.1 with h | ⟨-, h⟩
          · exact h
          · rw [h13] at h; cases h
        by_cases hl : k + 1 < s.size
        · have tk1 : (k : Int) + 1 < s.size := by omega
          have qe : ((k : Int) + 1 == (s.size : Int)) = false := by rw [beq_eq_false_iff_ne]; omega
          cases q10 : ((s[k + 1].toNat : Int) != 10)
          · have h10 := (get_byte s (k + 1) hl 10).2 q10
            have HP := Lib.hid (parse_step s.data.toList j k hjk fs hH.out.2.1 hH.out.2.2 h13 h10)
            have hex : (s.extract j k).data.toList = (s.data.toList.take k).drop j := Ascii.extract_list s j k
            have cF := fun u => refField_any (s.extract j k) (by simp; omega) u
            rw [hex] at cF
            have H10 := Lib.hid h10
            clear GO h13 h10 hex
            generalize fieldO ((s.data.toList.take k).drop j) = fo at cF HP
            go_wp2_with fail
            refine (cF _).mono ?_
            rintro e w2 ⟨x, y, rfl, hxy, hB2⟩
            have hb2 := Ascii.below2 hB hB2
            have hr2 := HR.out.later hB2
            have hFn := FAt.new w2 ⟨#[]⟩ ⟨#[]⟩
            clear cF HR hB2 hB
            cases fo with
            | none =>
              have ht := Lib.hid (told_no (HP.out.1 rfl))
              clear HP hr2 hxy
              go_wp2_with ((with_reducible refine wp_put42 (o := ⟨none, .store 42 (.tmp 7) (.tmp 39), _, _, _, _⟩) ?_ (.tmp 7) (.tmp 39) ?_ w2.heap.size ?_ x y ?_ hFn ?_ ?_); (· rfl); (· rfl); (· rfl); (· rfl); (· rfl))
              intro W3 hF3 hBel
              have hb3 := hBel _ _ (hb2.alloc hb2.size _) hb2.size
              clear hF3 hBel hb2 hFn
              go_wp2
              go_ret2
              exact ⟨.slice none 0 0, by rw [ht.out.1]; rfl, by rw [ht.out.2]; exact Flds.nil _, hb3⟩
            | some f =>
              have HPF := Lib.hid (HP.out.2 f rfl)
              have HXY := Lib.hid (hxy f rfl)
              clear HP hxy
              go_wp2_with ((with_reducible refine wp_put42 (o := ⟨none, .store 42 (.tmp 7) (.tmp 39), _, _, _, _⟩) ?_ (.tmp 7) (.tmp 39) ?_ w2.heap.size ?_ x y ?_ hFn ?_ ?_); (· rfl); (· rfl); (· rfl); (· rfl); (· rfl))
              intro W3 hF3 hBel
              have hb3 := hBel _ _ (hb2.alloc hb2.size _) hb2.size
              have hr3 := hr2.later (hBel w2.heap.size w2 ((Below.refl _ w2).alloc (Nat.le_refl _) _) (Nat.le_refl _))
              have c0 := hF3.c0
              have c1 := hF3.c1
              have hrA := Lib.hid (hr3.later ((Below.refl W3.heap.size W3).alloc (Nat.le_refl _) (.cells #[.string x, .string y] 42)))
              have h1s := flds_one W3 x y
              clear hF3 hBel hb2 hFn hr2 hr3
              go_wp2_with (at_builtin; refine wp_app_flds rfl _ _ rfl rfl hrA.out rfl h1s (by simp; omega) ?_)
              intro vo w4 hO hBb
              have hb4 := alloc_grow hb3 hBb
              clear hrA h1s hBb hb3 c0 c1
              have HO := Lib.hid hO
              clear hO
              go_wp2
              go_roundw
              case rel => exact ⟨k + 1, k + 2, fs ++ [f], by omega, by go_num, by go_num, by omega, by have := HO.out; rw [HXY.out]; exact this, by simp; omega, Lib.hid ⟨.inr ⟨rfl, H10.out⟩, HPF.out, fun q h1 h2 => absurd h2 (by omega)⟩, hb4⟩
              case measure => simp [intOf]; omega
          · have hn := GO.out (fun h => get_not s (k + 1) hl 10 q10 h.2)
            have hr := HR.out
            clear GO
            go_wp2
            go_roundw
            case rel => exact ⟨k + 1, j, fs, by omega, by go_num, rfl, hj, hr, by omega, hn, hB⟩
            case measure => simp [intOf]; omega
        · have qe : ((k : Int) + 1 == (s.size : Int)) = true := by rw [beq_iff_eq]; omega
          have hn := GO.out (fun h => by
            have := (List.getElem?_eq_some_iff.1 h.2).1
            rw [HSL.out] at this
            omega)
          have hr := HR.out
          clear GO
          go_wp2
          go_roundw
          case rel => exact ⟨k + 1, j, fs, by omega, by go_num, rfl, hj, hr, by omega, hn, hB⟩
          case measure => simp [intOf]; omega
      · have hn := GO.out (fun h => get_not s k hlt 13 q13 h.1)
        have hr := HR.out
        clear GO
        go_wp2
        go_roundw
        case rel => exact ⟨k + 1, j, fs, by omega, by go_num, rfl, hj, hr, by omega, hn, hB⟩
        case measure => simp [intOf]; omega
    · obtain rfl : k = s.size := by omega
      have hl := parse_last s.data.toList j fs hH.out.2.1 (fun q h1 h2 => hH.out.2.2 q h1 (by rw [HSL.out] at h2; exact h2))
      rw [HSL.out] at hl
      have HL := Lib.hid hl
      clear hl
      by_cases hjl : j < s.size
      · have qj : decide ((j : Int) < (s.size : Int)) = true := decide_eq_true (by omega)
        have ht := Lib.hid (told_no (HL.out.1 hjl))
        go_wp2
        go_ret2
        exact ⟨.slice none 0 0, by rw [ht.out.1]; rfl, by rw [ht.out.2]; exact Flds.nil _, hB⟩
      · have qj : decide ((j : Int) < (s.size : Int)) = false := decide_eq_false (by omega)
        have ht := Lib.hid (told_yes (HL.out.2 (by omega)))
        have HO := Lib.hid hrow.flds
        go_wp2
        go_ret2
        exact ⟨_, by rw [ht.out.1]; rfl, by rw [ht.out.2]; exact HO.out, hB⟩

end Go.Proofs.YtagmmdnfbjgmcaaDoor.Head

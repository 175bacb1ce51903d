/-
  The document's functions of layer 13: Name, Value, trim, field.
-/
import Derived.Test.YtagmmdnfbjgmcaaDoorHdOut
namespace Go.Proofs.YtagmmdnfbjgmcaaDoor.Head
set_option linter.unusedSimpArgs false
set_option linter.unusedVariables false
set_option maxRecDepth 100000


open Go.RowKit Go.Shelf

open Url

open Path (Strs tx infoText MaxAt)


/-! ### trim -/
theorem blank_def (x : UInt8) : blankB x = (((x.toNat : Int) == 32) || ((x.toNat : Int) == 9)) := by
  unfold blankB blanks
  rw [Bool.eq_iff_iff]
  simp [← UInt8.toNat_inj]
  omega

theorem blank_ways (x : UInt8) : (blankB x = true ∧ (((x.toNat : Int) == 32) = true ∨ (((x.toNat : Int) == 32) = false ∧ ((x.toNat : Int) == 9) = true))) ∨ (blankB x = false ∧ ((x.toNat : Int) == 32) = false ∧ ((x.toNat : Int) == 9) = false) := by
  rw [blank_def]
  cases ((x.toNat : Int) == 32) <;> cases ((x.toNat : Int) == 9) <;> simp

theorem blank_first (c : ByteArray) (h : 0 < c.size) (hb : blankB c[0] = true) : trimB (c.extract 1 c.size).data.toList = trimB c.data.toList := by
  rw [Ascii.extract_list, List.take_of_length_le (by exact Nat.le_refl _)]
  have e : c.data.toList = c[0] :: c.data.toList.drop 1 := List.drop_eq_getElem_cons (l := c.data.toList) (i := 0) h
  conv => rhs; rw [e]
  rw [trim_ahead _ _ hb]

theorem blank_last (c : ByteArray) (h : 0 < c.size) (hb : blankB c[c.size - 1] = true) : trimB (c.extract 0 (c.size - 1)).data.toList = trimB c.data.toList := by
  rw [Ascii.extract_list, List.drop_zero]
  conv => rhs; rw [Ascii.snoc_last c h]
  rw [trim_behind _ _ hb]

theorem fr_of (c : ByteArray) (h : ∀ h : 0 < c.size, blankB c[0] = false) : Fr c.data.toList := by
  by_cases h0 : 0 < c.size
  · exact .inr ⟨c[0], c.data.toList.drop 1, List.drop_eq_getElem_cons (l := c.data.toList) (i := 0) h0, h h0⟩
  · exact .inl (List.eq_nil_of_length_eq_zero (by show c.size = 0; omega))

theorem bk_of (c : ByteArray) (h : ∀ h : 0 < c.size, blankB c[c.size - 1] = false) : Bk c.data.toList := by
  by_cases h0 : 0 < c.size
  · exact .inr ⟨_, _, Ascii.snoc_last c h0, h h0⟩
  · exact .inl (List.eq_nil_of_length_eq_zero (by show c.size = 0; omega))

theorem fr_less (c : ByteArray) (h : Fr c.data.toList) : Fr (c.extract 0 (c.size - 1)).data.toList := by
  rw [Ascii.extract_list, List.drop_zero]
  rcases h with h | ⟨x, r, h, hx⟩
  · rw [h]; exact .inl (by simp)
  · rw [h]
    cases hn : c.size - 1 with
    | zero => exact .inl rfl
    | succ n => exact .inr ⟨x, r.take n, by rw [List.take_succ_cons], hx⟩

theorem trim_end (c s : ByteArray) (h1 : Fr c.data.toList) (h2 : Bk c.data.toList) (h : trimB c.data.toList = trimB s.data.toList) : c = tb (trimB s.data.toList) := by
  rw [← h, trim_same h1 h2, tb_of]

set_option maxHeartbeats 2000000 in
theorem refTrim_any (s : ByteArray) (hs : s.size ≤ 30000) (w : World) :
    Calls Tryd.prog 50 #[.string s] w fun e w' => e = .returned (.string (tb (trimB s.data.toList))) ∧ w = w' := by
  go_enter Tryd.func50, Tryd.ntmps50
  go_wp2
  go_loop [0] (fun v => ∃ c : ByteArray, v = .string c ∧ c.size ≤ 30000 ∧ Hid (trimB c.data.toList = trimB s.data.toList)) (fun v => Ascii.strSize v)
  case atStart => exact ⟨s, rfl, hs, Lib.hid rfl⟩
  case round =>
    obtain ⟨c, rfl, hc, ht⟩ := hrel
    have hfin : 0 < c.size ∧ (∃ h : 0 < c.size, blankB c[0] = true) ∨ Fr c.data.toList ∧ (¬ 0 < c.size ∧ decide ((0 : Int) < c.size) = false ∨ decide ((0 : Int) < c.size) = true ∧ ∃ h : 0 < c.size, ((c[0].toNat : Int) == 32) = false ∧ ((c[0].toNat : Int) == 9) = false) := by
      by_cases h0 : 0 < c.size
      · rcases blank_ways c[0] with ⟨hb, -⟩ | ⟨hb, h1, h2⟩
        · exact .inl ⟨h0, h0, hb⟩
        · exact .inr ⟨fr_of c fun _ => hb, .inr ⟨by simp; omega, h0, h1, h2⟩⟩
      · exact .inr ⟨fr_of c fun h => absurd h h0, .inl ⟨h0, by rw [decide_eq_false_iff_not]; omega⟩⟩
    rcases hfin with ⟨h0, h0', hb⟩ | ⟨hF, hg⟩
    · have g0 : decide ((0 : Int) < c.size) = true := by simp; omega
      have H2 := Lib.hid ((blank_first c h0 hb).trans ht.out)
      rcases blank_ways c[0] with ⟨-, g1 | ⟨g1, g2⟩⟩ | ⟨hb', -⟩
      rotate_left 2
      · rw [hb] at hb'; cases hb'
      all_goals
        go_wp2
        go_round
        case rel => exact ⟨c.extract 1 c.size, rfl, by simp; omega, H2⟩
        case measure => simp [Ascii.strSize]; omega
    · have HF := Lib.hid hF
      clear hF
      rcases hg with ⟨h0, g0⟩ | ⟨g0, h0, g1, g2⟩
      all_goals
        go_wp2
        go_loop [0] (fun v => ∃ d : ByteArray, v = .string d ∧ d.size ≤ 30000 ∧ Hid (Fr d.data.toList) ∧ Hid (trimB d.data.toList = trimB s.data.toList)) (fun v => Ascii.strSize v)
        case atStart => exact ⟨c, rfl, hc, HF, ht⟩
        case round =>
          obtain ⟨d, rfl, hd, hF, hT⟩ := hrel
          clear HF ht hc
          by_cases k0 : 0 < d.size
          · have p0 : decide ((0 : Int) < d.size) = true := by simp; omega
            rcases blank_ways d[d.size - 1] with ⟨hb, p1 | ⟨p1, p2⟩⟩ | ⟨hb, p1, p2⟩
            rotate_left 2
            · have HE := Lib.hid (trim_end d s hF.out (bk_of d fun _ => hb) hT.out)
              clear hb
              go_wp2
              go_ret
              exact ⟨by rw [← HE.out]; rfl, rfl⟩
            all_goals
              have H2 := Lib.hid ((blank_last d k0 hb).trans hT.out)
              have H3 := Lib.hid (fr_less d hF.out)
              clear hb
              go_wp2
              go_round
              case rel => exact ⟨d.extract 0 (d.size - 1), by simp, by simp; omega, H3, H2⟩
              case measure => simp [Ascii.strSize]; omega
          · have p0 : decide ((0 : Int) < d.size) = false := by rw [decide_eq_false_iff_not]; omega
            have HE := Lib.hid (trim_end d s hF.out (bk_of d fun h => absurd h k0) hT.out)
            go_wp2
            go_ret
            exact ⟨by rw [← HE.out]; rfl, rfl⟩

/-! ### Name -/

theorem snoc_has (l : T) (x c : UInt8) : (l ++ [x]).contains c = (l.contains c || ((x.toNat : Int) == (c.toNat : Int))) := by
  rw [Bool.eq_iff_iff]
  simp only [List.contains_iff_mem, List.mem_append, List.mem_singleton, Bool.or_eq_true, beq_iff_eq]
  constructor
  · rintro (h | rfl)
    · exact .inl h
    · exact .inr rfl
  · rintro (h | h)
    · exact .inl h
    · exact .inr (UInt8.toNat_inj.1 (by omega))

theorem signs_step (b : Bool) (c : UInt8) (O : ByteArray) (hO : O.data.toList = signs) (k : Nat) (h : k < O.size) : (b || (signs.take (k + 1)).contains c) = ((b || (signs.take k).contains c) || ((O[k].toNat : Int) == (c.toNat : Int))) := by
  rw [← hO, Ascii.take_snoc O k h, snoc_has, Bool.or_assoc]

set_option maxRecDepth 100000 in
set_option maxHeartbeats 4000000 in
theorem refName_any (s : ByteArray) (hs : s.size ≤ 30000) (w : World) :
    Calls Tryd.prog 23 #[.string s] w fun e w' => e = .returned (.bool (nameB s.data.toList)) ∧ Below w.heap.size w w' := by
  go_enter Tryd.func23, Tryd.ntmps23
  go_wp2
  obtain ⟨O, hO⟩ : ∃ O : ByteArray, (⟨#[33, 35, 36, 37, 38, 39, 42, 43, 45, 46, 94, 95, 96, 124, 126]⟩ : ByteArray) = O := ⟨_, rfl⟩
  have hOl : O.data.toList = signs := by rw [← hO]; rfl
  have hOs : O.size = 15 := by rw [← hO]; rfl
  simp only [hO]
  clear hO
  go_loopw [4, 5, 6, 7, 8] (fun i _ _ _ _ wr => ∃ k : Nat, k ≤ s.size ∧ i = .int .i64 k ∧ Hid ((s.data.toList.take k).all inN = true) ∧ Below w.heap.size w wr) (fun i _ _ _ _ _ => s.size - (intOf i).toNat)
  case atStart => exact ⟨0, Nat.zero_le _, rfl, Lib.hid rfl, Below.refl _ _⟩
  case round =>
    obtain ⟨k, hk, rfl, hp, hB⟩ := hrel
    by_cases hlt : k < s.size
    · have ca := fun u => Ascii.refAlpha_any (s[k].toNat : Int) u
      have cd := fun u => Ascii.refDigit_any (s[k].toNat : Int) u
      have HY := Lib.hid (fun h => all_snoc inN s k hlt hp.out h)
      have HN := Lib.hid (fun h => name_not s k hlt h)
      have HI := Lib.hid (show inN s[k] = ((Ascii.alphaB s[k].toNat || Ascii.digitB s[k].toNat) || (signs.take 15).contains s[k]) by
        unfold inN; rw [List.take_of_length_le (by decide)])
      have HS := Lib.hid (fun b j (h : j < O.size) => signs_step b s[k] O hOl j h)
      have tk : (k : Int) < s.size := by omega
      generalize Ascii.alphaB s[k].toNat = x at ca HI
      generalize Ascii.digitB s[k].toNat = y at cd HI
      go_wp2_with fail
      refine (ca _).mono ?_
      rintro e w1 ⟨rfl, rfl⟩
      go_wp2_with fail
      refine (cd _).mono ?_
      rintro e w1 ⟨rfl, rfl⟩
      clear ca cd
      have hxy : (x || y) = (x || y) := rfl
      clear hxy
      cases x <;> cases y
      · go_wp2
        go_loopw [7, 8] (fun g j u => ∃ i : Nat, i ≤ 15 ∧ j = .int .i64 i ∧ g = .bool (false || (signs.take i).contains s[k]) ∧ Below w.heap.size w u) (fun _ j _ => 15 - (intOf j).toNat)
        case atStart => exact ⟨0, Nat.zero_le _, rfl, rfl, hB⟩
        case round =>
          obtain ⟨i, hi, rfl, rfl, hBi⟩ := hrel
          clear hB
          by_cases hli : i < 15
          · have ti : (i : Int) < O.size := by omega
            have tl : (i : Int) < 15 := by omega
            have hS := HS.out false i (by omega)
            generalize (false || (signs.take i).contains s[k]) = g at hS ⊢
            have HQ := Lib.hid hS
            clear hS
            cases g
            all_goals
              go_wp2
              go_quiet (fail)
              have hB3 := Lib.hid (Path.drewN_below hBi nq)
              generalize wr.drewN nq = W1 at hB3 ⊢
              clear hBi
              go_wp2
              go_roundw
              case rel => exact ⟨i + 1, by omega, by go_num, by rw [HQ.out]; simp, hB3.out⟩
              case measure => simp [intOf]; omega
          · obtain rfl : i = 15 := by omega
            rw [show (false || (signs.take 15).contains s[k]) = inN s[k] from HI.out.symm]
            cases hd : inN s[k]
            · have hn := Lib.hid (HN.out hd)
              clear hd
              go_wp2
              go_ret
              exact ⟨by rw [hn.out]; rfl, hBi⟩
            · have hn := Lib.hid (HY.out hd)
              clear hd
              go_wp2
              go_roundw
              case rel => exact ⟨k + 1, by omega, by go_num, hn, hBi⟩
              case measure => simp [intOf]; omega
      · go_wp2
        go_loopw [7, 8] (fun g j u => ∃ i : Nat, i ≤ 15 ∧ j = .int .i64 i ∧ g = .bool (true || (signs.take i).contains s[k]) ∧ Below w.heap.size w u) (fun _ j _ => 15 - (intOf j).toNat)
        case atStart => exact ⟨0, Nat.zero_le _, rfl, rfl, hB⟩
        case round =>
          obtain ⟨i, hi, rfl, rfl, hBi⟩ := hrel
          clear hB
          by_cases hli : i < 15
          · have ti : (i : Int) < O.size := by omega
            have tl : (i : Int) < 15 := by omega
            have hS := HS.out true i (by omega)
            generalize (true || (signs.take i).contains s[k]) = g at hS ⊢
            have HQ := Lib.hid hS
            clear hS
            cases g
            all_goals
              go_wp2
              go_quiet (fail)
              have hB3 := Lib.hid (Path.drewN_below hBi nq)
              generalize wr.drewN nq = W1 at hB3 ⊢
              clear hBi
              go_wp2
              go_roundw
              case rel => exact ⟨i + 1, by omega, by go_num, by rw [HQ.out]; simp, hB3.out⟩
              case measure => simp [intOf]; omega
          · obtain rfl : i = 15 := by omega
            rw [show (true || (signs.take 15).contains s[k]) = inN s[k] from HI.out.symm]
            cases hd : inN s[k]
            · have hn := Lib.hid (HN.out hd)
              clear hd
              go_wp2
              go_ret
              exact ⟨by rw [hn.out]; rfl, hBi⟩
            · have hn := Lib.hid (HY.out hd)
              clear hd
              go_wp2
              go_roundw
              case rel => exact ⟨k + 1, by omega, by go_num, hn, hBi⟩
              case measure => simp [intOf]; omega
      · go_wp2
        go_loopw [7, 8] (fun g j u => ∃ i : Nat, i ≤ 15 ∧ j = .int .i64 i ∧ g = .bool (true || (signs.take i).contains s[k]) ∧ Below w.heap.size w u) (fun _ j _ => 15 - (intOf j).toNat)
        case atStart => exact ⟨0, Nat.zero_le _, rfl, rfl, hB⟩
        case round =>
          obtain ⟨i, hi, rfl, rfl, hBi⟩ := hrel
          clear hB
          by_cases hli : i < 15
          · have ti : (i : Int) < O.size := by omega
            have tl : (i : Int) < 15 := by omega
            have hS := HS.out true i (by omega)
            generalize (true || (signs.take i).contains s[k]) = g at hS ⊢
            have HQ := Lib.hid hS
            clear hS
            cases g
            all_goals
              go_wp2
              go_quiet (fail)
              have hB3 := Lib.hid (Path.drewN_below hBi nq)
              generalize wr.drewN nq = W1 at hB3 ⊢
              clear hBi
              go_wp2
              go_roundw
              case rel => exact ⟨i + 1, by omega, by go_num, by rw [HQ.out]; simp, hB3.out⟩
              case measure => simp [intOf]; omega
          · obtain rfl : i = 15 := by omega
            rw [show (true || (signs.take 15).contains s[k]) = inN s[k] from HI.out.symm]
            cases hd : inN s[k]
            · have hn := Lib.hid (HN.out hd)
              clear hd
              go_wp2
              go_ret
              exact ⟨by rw [hn.out]; rfl, hBi⟩
            · have hn := Lib.hid (HY.out hd)
              clear hd
              go_wp2
              go_roundw
              case rel => exact ⟨k + 1, by omega, by go_num, hn, hBi⟩
              case measure => simp [intOf]; omega
      · go_wp2
        go_loopw [7, 8] (fun g j u => ∃ i : Nat, i ≤ 15 ∧ j = .int .i64 i ∧ g = .bool (true || (signs.take i).contains s[k]) ∧ Below w.heap.size w u) (fun _ j _ => 15 - (intOf j).toNat)
        case atStart => exact ⟨0, Nat.zero_le _, rfl, rfl, hB⟩
        case round =>
          obtain ⟨i, hi, rfl, rfl, hBi⟩ := hrel
          clear hB
          by_cases hli : i < 15
          · have ti : (i : Int) < O.size := by omega
            have tl : (i : Int) < 15 := by omega
            have hS := HS.out true i (by omega)
            generalize (true || (signs.take i).contains s[k]) = g at hS ⊢
            have HQ := Lib.hid hS
            clear hS
            cases g
            all_goals
              go_wp2
              go_quiet (fail)
              have hB3 := Lib.hid (Path.drewN_below hBi nq)
              generalize wr.drewN nq = W1 at hB3 ⊢
              clear hBi
              go_wp2
              go_roundw
              case rel => exact ⟨i + 1, by omega, by go_num, by rw [HQ.out]; simp, hB3.out⟩
              case measure => simp [intOf]; omega
          · obtain rfl : i = 15 := by omega
            rw [show (true || (signs.take 15).contains s[k]) = inN s[k] from HI.out.symm]
            cases hd : inN s[k]
            · have hn := Lib.hid (HN.out hd)
              clear hd
              go_wp2
              go_ret
              exact ⟨by rw [hn.out]; rfl, hBi⟩
            · have hn := Lib.hid (HY.out hd)
              clear hd
              go_wp2
              go_roundw
              case rel => exact ⟨k + 1, by omega, by go_num, hn, hBi⟩
              case measure => simp [intOf]; omega
    · obtain rfl : k = s.size := by omega
      have hn := Lib.hid (show nameB s.data.toList = decide (0 < s.size) by
        unfold nameB
        rw [all_whole inN s hp.out, Bool.true_and, Bool.eq_iff_iff]
        have : s.data.toList.length = s.size := rfl
        simp only [decide_eq_true_eq, ne_eq, ← List.length_eq_zero_iff]
        omega)
      go_wp2
      go_ret
      exact ⟨by rw [hn.out]; rfl, hB⟩

/-! ### Value -/

theorem bad_def (x : UInt8) : bads.contains x = ((((x.toNat : Int) == 0) || ((x.toNat : Int) == 10)) || ((x.toNat : Int) == 13)) := by
  unfold bads
  rw [Bool.eq_iff_iff]
  simp [← UInt8.toNat_inj]
  omega

theorem bad_ways (x : UInt8) : (bads.contains x = true ∧ (((x.toNat : Int) == 0) = true ∨ (((x.toNat : Int) == 0) = false ∧ ((x.toNat : Int) == 10) = true) ∨ (((x.toNat : Int) == 0) = false ∧ ((x.toNat : Int) == 10) = false ∧ ((x.toNat : Int) == 13) = true))) ∨
    (bads.contains x = false ∧ ((x.toNat : Int) == 0) = false ∧ ((x.toNat : Int) == 10) = false ∧ ((x.toNat : Int) == 13) = false) := by
  rw [bad_def]
  cases ((x.toNat : Int) == 0) <;> cases ((x.toNat : Int) == 10) <;> cases ((x.toNat : Int) == 13) <;> simp

def OkAt (s : ByteArray) (i : Nat) : Prop := ∀ h : i < s.size, bads.contains s[i] = false ∧ (blankB s[i] = true → i ≠ 0 ∧ i ≠ s.size - 1)

theorem val_all (s : ByteArray) (h : ∀ i, i < s.size → OkAt s i) : valB s.data.toList = true := by
  unfold valB
  have h1 : s.data.toList.any bads.contains = false := by
    rw [List.any_eq_false]
    intro x hx
    obtain ⟨i, hi, rfl⟩ := List.mem_iff_getElem.1 hx
    have := (h i hi hi).1
    intro e
    rw [show s.data.toList[i] = s[i] from rfl, this] at e
    cases e
  rw [h1]
  have h2 : trimB s.data.toList = s.data.toList := trim_same
    (fr_of s fun h0 => by
      cases hb : blankB s[0]
      · rfl
      · exact absurd rfl ((h 0 h0 h0).2 hb).1)
    (bk_of s fun h0 => by
      cases hb : blankB s[s.size - 1]
      · rfl
      · exact absurd rfl ((h (s.size - 1) (by omega) (by omega)).2 hb).2)
  rw [h2]
  simp

theorem fr_at {s : ByteArray} (h : Fr s.data.toList) (h0 : 0 < s.size) : blankB s[0] = false := by
  rcases h with h | ⟨c, r, h, hc⟩
  · have hl : s.data.toList.length = s.size := rfl
    rw [h] at hl
    simp at hl
    omega
  · have e : s.data.toList[0]? = some s[0] := List.getElem?_eq_getElem (l := s.data.toList) (i := 0) h0
    rw [h] at e
    simp at e
    rw [← e]; exact hc

theorem bk_at {s : ByteArray} (h : Bk s.data.toList) (h0 : 0 < s.size) : blankB s[s.size - 1] = false := by
  rcases h with h | ⟨r, c, h, hc⟩
  · have hl : s.data.toList.length = s.size := rfl
    rw [h] at hl
    simp at hl
    omega
  · have hl : s.data.toList.length = s.size := rfl
    have e : s.data.toList[s.size - 1]? = some s[s.size - 1] := List.getElem?_eq_getElem (l := s.data.toList) (i := s.size - 1) (by omega)
    rw [h, List.length_append, List.length_cons, List.length_nil] at hl
    rw [h, List.getElem?_append_right (by omega), show s.size - 1 - r.length = 0 by omega] at e
    simp at e
    rw [← e]; exact hc

theorem val_some (s : ByteArray) (i : Nat) (h : i < s.size) (hb : bads.contains s[i] = true ∨ blankB s[i] = true ∧ (i = 0 ∨ i = s.size - 1)) : valB s.data.toList = false := by
  cases hv : valB s.data.toList
  · rfl
  · exfalso
    have h1 := val_bads hv s[i] (get_mem s i h)
    have h2 := (trim_iff _).1 (val_same hv)
    rcases hb with hb | ⟨hb, rfl | rfl⟩
    · rw [h1] at hb; cases hb
    · rw [fr_at h2.1 h] at hb; cases hb
    · rw [bk_at h2.2 (by omega)] at hb; cases hb

set_option maxRecDepth 100000 in
set_option maxHeartbeats 4000000 in
theorem refValue_any (s : ByteArray) (hs : s.size ≤ 30000) (w : World) :
    Calls Tryd.prog 24 #[.string s] w fun e w' => e = .returned (.bool (valB s.data.toList)) ∧ w = w' := by
  go_enter Tryd.func24, Tryd.ntmps24
  go_wp2
  go_loop [3, 4] (fun i _ => ∃ k : Nat, k ≤ s.size ∧ i = .int .i64 k ∧ Hid (∀ i, i < k → OkAt s i)) (fun i _ => s.size - (intOf i).toNat)
  case atStart => exact ⟨0, Nat.zero_le _, rfl, Lib.hid (fun i hi => absurd hi (by omega))⟩
  case round =>
    obtain ⟨k, hk, rfl, hp⟩ := hrel
    by_cases hlt : k < s.size
    · have cb := refBlank_any s[k] w
      have tk : (k : Int) < s.size := by omega
      have HV := Lib.hid (val_some s k hlt)
      have HO := Lib.hid (fun (h : OkAt s k) => show ∀ i, i < k + 1 → OkAt s i from fun i hi => by
        rcases Nat.lt_or_ge i k with h1 | h1
        · exact hp.out i h1
        · obtain rfl : i = k := by omega
          exact h)
      go_wp2_with fail
      refine cb.mono ?_
      rintro e w' ⟨rfl, rfl⟩
      clear cb
      rcases bad_ways s[k] with ⟨hb, hz⟩ | ⟨hb, z0, z1, z2⟩
      · have hn := Lib.hid (HV.out (.inl hb))
        clear hb HV HO
        rcases hz with z0 | ⟨z0, z1⟩ | ⟨z0, z1, z2⟩
        all_goals
          go_wp2
          go_ret
          exact ⟨by rw [hn.out]; rfl, rfl⟩
      · cases hl : blankB s[k]
        · have hn := Lib.hid (HO.out fun _ => ⟨hb, fun e => by rw [hl] at e; cases e⟩)
          clear hb hl HV HO
          go_wp2
          go_round
          case rel => exact ⟨k + 1, by omega, by go_num, hn⟩
          case measure => simp [intOf]; omega
        · by_cases k0 : k = 0
          · have hn := Lib.hid (HV.out (.inr ⟨hl, .inl k0⟩))
            have f0 : ((k : Int) == 0) = true := by rw [beq_iff_eq]; omega
            clear hb hl HV HO k0
            go_wp2
            go_ret
            exact ⟨by rw [hn.out]; rfl, rfl⟩
          · have f0 : ((k : Int) == 0) = false := by rw [beq_eq_false_iff_ne]; omega
            by_cases kl : k = s.size - 1
            · have hn := Lib.hid (HV.out (.inr ⟨hl, .inr kl⟩))
              have f1 : ((k : Int) == (s.size : Int) - 1) = true := by rw [beq_iff_eq]; omega
              clear hb hl HV HO kl k0
              go_wp2
              go_ret
              exact ⟨by rw [hn.out]; rfl, rfl⟩
            · have hn := Lib.hid (HO.out fun _ => ⟨hb, fun _ => ⟨k0, kl⟩⟩)
              have f1 : ((k : Int) == (s.size : Int) - 1) = false := by rw [beq_eq_false_iff_ne]; omega
              clear hb hl HV HO
              go_wp2
              go_round
              case rel => exact ⟨k + 1, by omega, by go_num, hn⟩
              case measure => simp [intOf]; omega
    · obtain rfl : k = s.size := by omega
      have hn := Lib.hid (val_all s hp.out)
      go_wp2
      go_ret
      exact ⟨by rw [hn.out]; rfl, rfl⟩

/-! ### field -/

theorem part_at (s : ByteArray) (k : Nat) (h : k < s.size) (hc : s[k] = 58) (hn : (58 : UInt8) ∉ s.data.toList.take k) :
    s.data.toList.contains 58 = true ∧ bef 58 s.data.toList = (s.extract 0 k).data.toList ∧ aft 58 s.data.toList = (s.extract (k + 1) s.size).data.toList := by
  have hw : s.data.toList = s.data.toList.take k ++ 58 :: s.data.toList.drop (k + 1) := by
    have := List.drop_eq_getElem_cons (l := s.data.toList) (i := k) h
    rw [show s.data.toList[k] = s[k] from rfl, hc] at this
    rw [← this, List.take_append_drop]
  refine ⟨?_, ?_, ?_⟩
  · rw [hw]; simp
  · rw [Ascii.extract_list, List.drop_zero]
    conv => lhs; rw [hw]
    rw [bef_at _ _ hn]
  · rw [Ascii.extract_list, List.take_of_length_le (by exact Nat.le_refl _)]
    conv => lhs; rw [hw]
    rw [aft_at _ _ hn]

theorem field_is {s : T} {x y : ByteArray} (h0 : s.contains 58 = true) (h1 : bef 58 s = x.data.toList) (h2 : trimB (aft 58 s) = y.data.toList) : (fieldO s).isSome = (nameB x.data.toList && valB y.data.toList) ∧ ∀ f, fieldO s = some f → f = (x.data.toList, y.data.toList) := by
  unfold fieldO
  rw [h0, h1, h2]
  cases nameB x.data.toList <;> cases valB y.data.toList <;> simp

theorem take_not (s : ByteArray) (k : Nat) (h : k < s.size) (hc : s[k] ≠ 58) (hn : (58 : UInt8) ∉ s.data.toList.take k) : (58 : UInt8) ∉ s.data.toList.take (k + 1) := by
  rw [Ascii.take_snoc s k h]
  intro hm
  rcases List.mem_append.1 hm with h1 | h1
  · exact hn h1
  · exact hc (List.mem_singleton.1 h1).symm

set_option maxRecDepth 100000 in
set_option maxHeartbeats 4000000 in
theorem refField_any (s : ByteArray) (hs : s.size ≤ 30000) (w : World) :
    Calls Tryd.prog 32 #[.string s] w fun e w' => ∃ x y : ByteArray, e = .returned (.tuple #[.agg #[.string x, .string y], .bool (fieldO s.data.toList).isSome]) ∧ (∀ f, fieldO s.data.toList = some f → f = (x.data.toList, y.data.toList)) ∧ Below w.heap.size w w' := by
  have h0 := FAt.new w ⟨#[]⟩ ⟨#[]⟩
  have hB0 := (Below.refl w.heap.size w).alloc (Nat.le_refl _) (.cells #[.string ⟨#[]⟩, .string ⟨#[]⟩] 42)
  go_enter Tryd.func32, Tryd.ntmps32
  go_wp2
  generalize w.alloc (.cells #[.string ⟨#[]⟩, .string ⟨#[]⟩] 42) = W0 at h0 hB0 ⊢
  go_loop [4] (fun n => ∃ k : Nat, k ≤ s.size ∧ n = .int .i64 k ∧ Hid ((58 : UInt8) ∉ s.data.toList.take k)) (fun n => s.size - (intOf n).toNat)
  case atStart => exact ⟨0, Nat.zero_le _, rfl, Lib.hid (by simp)⟩
  case round =>
    obtain ⟨k, hk, rfl, hp⟩ := hrel
    by_cases hlt : k < s.size
    · have tk : (k : Int) < s.size := by omega
      by_cases hc : s[k] = 58
      · have q : ((s[k].toNat : Int) != 58) = false := by rw [hc]; rfl
        have tn : ((k : Int) == (s.size : Int)) = false := by rw [beq_eq_false_iff_ne]; omega
        obtain ⟨h58, hbf, haf⟩ := part_at s k hlt hc hp.out
        have H58 := Lib.hid h58
        have HBF := Lib.hid hbf
        have HAF := Lib.hid haf
        have cT := fun u => refTrim_any (s.extract (k + 1) s.size) (by simp; omega) u
        have cN := fun u => refName_any (s.extract 0 k) (by simp; omega) u
        have hvl := trim_len (s.extract (k + 1) s.size).data.toList
        have hvl2 : (s.extract (k + 1) s.size).data.toList.length ≤ s.size := by
          show (s.extract (k + 1) s.size).size ≤ _
          simp
        have cV := fun u => refValue_any (tb (trimB (s.extract (k + 1) s.size).data.toList)) (by rw [tb_size]; omega) u
        clear h58 hbf haf hc hvl hvl2
        have HTV := Lib.hid (tb_list (trimB (s.extract (k + 1) s.size).data.toList))
        generalize tb (trimB (s.extract (k + 1) s.size).data.toList) = V at cT cV HTV
        have hfi := field_is (s := s.data.toList) (x := s.extract 0 k) (y := V) H58.out HBF.out (by rw [HAF.out, HTV.out])
        generalize nameB (s.extract 0 k).data.toList = n at cN hfi
        generalize valB V.data.toList = v at cV hfi
        have HFI := Lib.hid hfi
        clear hfi H58 HBF HAF HTV
        go_wp2_with fail
        refine (cT _).mono ?_
        rintro e w' ⟨rfl, rfl⟩
        go_wp2_with fail
        refine (cN _).mono ?_
        rintro e w2 ⟨rfl, hB2⟩
        have h2 := h0.later hB2
        have hb2 := Ascii.below2 hB0 hB2
        clear h0 hB0 hB2 cT cN
        go_wp2_with fail
        refine (cV _).mono ?_
        rintro e w' ⟨rfl, rfl⟩
        clear cV
        have hS2 : ∀ A : ByteArray, FAt (w2.setRow w.heap.size #[.string A, .string V]) w.heap.size A V := fun A => h2.row A V
        cases n
        all_goals
          go_wp2_with ((with_reducible refine wp_store42 (o := ⟨none, .store 42 (.tmp 2) (.tmp 40), _, _, _, _⟩) ?_ (.tmp 2) (.tmp 40) ?_ w.heap.size ?_ (s.extract 0 k) V ?_ ⟨#[]⟩ ⟨#[]⟩ h2 ?_); (· rfl); (· rfl); (· rfl); (· rfl); simp only [Act.put, List.setIfInBounds_toArray, List.set_cons_zero, List.set_cons_succ])
          refine bodyPost_ret (ret_field2 Tryd.results32 rfl (hS2 (s.extract 0 k))) rfl ⟨s.extract 0 k, V, ?_, HFI.out.2, below_field hb2 (Nat.le_refl _) _⟩
          rw [HFI.out.1]
          rfl
      · have q : ((s[k].toNat : Int) != 58) = true := by
          rw [bne_iff_ne]
          intro e
          exact hc (UInt8.toNat_inj.1 (by show s[k].toNat = 58; omega))
        have hn := Lib.hid (take_not s k hlt hc hp.out)
        clear hc
        go_wp2
        go_round
        case rel => exact ⟨k + 1, by omega, by go_num, hn⟩
        case measure => simp [intOf]; omega
    · obtain rfl : k = s.size := by omega
      have hn := Lib.hid (show fieldO s.data.toList = none from field_no (.inl (has_no (by
        have := hp.out
        rwa [List.take_of_length_le (by exact Nat.le_refl _)] at this))))
      go_wp2_with ((with_reducible refine wp_store42 (o := ⟨none, .store 42 (.tmp 2) (.tmp 24), _, _, _, _⟩) ?_ (.tmp 2) (.tmp 24) ?_ w.heap.size ?_ ⟨#[]⟩ ⟨#[]⟩ ?_ ⟨#[]⟩ ⟨#[]⟩ h0 ?_); (· rfl); (· rfl); (· rfl); (· rfl); simp only [Act.put, List.setIfInBounds_toArray, List.set_cons_zero, List.set_cons_succ])
      refine bodyPost_ret (ret_field2 Tryd.results32 rfl (h0.row ⟨#[]⟩ ⟨#[]⟩)) rfl ⟨⟨#[]⟩, ⟨#[]⟩, ?_, ?_, below_field hB0 (Nat.le_refl _) _⟩
      · rw [hn.out]; rfl
      · intros; rename_i hf; exact absurd (hn.out.symm.trans hf) (by simp)

end Go.Proofs.YtagmmdnfbjgmcaaDoor.Head

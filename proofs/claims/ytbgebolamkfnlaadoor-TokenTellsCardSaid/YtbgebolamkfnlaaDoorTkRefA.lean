/-
  The document's Name, Policy, Split of layer 14.
-/
import Derived.Test.YtbgebolamkfnlaaDoorTkParts
import Derived.Test.YtbgebolamkfnlaaDoorHdRefB
namespace Go.Proofs.YtbgebolamkfnlaaDoor.Token
set_option linter.unusedSimpArgs false
set_option linter.unusedVariables false
set_option maxRecDepth 100000


open Go.RowKit Go.Shelf

open Url

open Path (Strs tx MaxAt infoText)

open Head (F tb tb_of tb_list tb_toList tb_size Flds FAt trimB trim_any trim_len getT getB Fr Bk blankB blank_ways grown_below)


set_option maxRecDepth 100000 in
set_option maxHeartbeats 4000000 in
theorem refName_any (p : Int) (w : World) :
    Calls Tryd.prog 17 #[.int .i64 p] w fun e w' => e = .returned (.string (tb (nameI p))) ∧ w' = w := by
  have hc : p = 1 ∨ p = 2 ∨ p = 3 ∨ p = 4 ∨ p = 5 ∨ p = 6 ∨ p = 7 ∨ p = 8 ∨ (nameI p = [] ∧ (p == 1) = false ∧ (p == 2) = false ∧ (p == 3) = false ∧ (p == 4) = false ∧ (p == 5) = false ∧ (p == 6) = false ∧ (p == 7) = false ∧ (p == 8) = false) := by
    by_cases h : 1 ≤ p ∧ p ≤ 8
    · omega
    · refine .inr (.inr (.inr (.inr (.inr (.inr (.inr (.inr ⟨?_, ?_, ?_, ?_, ?_, ?_, ?_, ?_, ?_⟩)))))))
      · unfold nameI
        split
        · have : p = 0 := by omega
          subst this
          rfl
        · rfl
      all_goals
        rw [beq_eq_false_iff_ne]
        omega
  rcases hc with rfl | rfl | rfl | rfl | rfl | rfl | rfl | rfl | ⟨hn, q1, q2, q3, q4, q5, q6, q7, q8⟩
  rotate_right
  · rw [hn, show tb [] = ⟨#[]⟩ from rfl]
    clear hn
    go_enter Tryd.func17, Tryd.ntmps17
    go_wp2
    go_ret
    exact ⟨rfl, rfl⟩
  all_goals
    go_enter Tryd.func17, Tryd.ntmps17
    go_wp2
    go_ret
    exact ⟨rfl, rfl⟩

theorem pol_none (s : T) (h : ∀ q, 1 ≤ q → q < 9 → (Ascii.lower s == nameT q) = false) : polB s = 0 := by
  rcases Nat.eq_zero_or_pos (polB s) with h0 | h0
  · exact h0
  · have h1 := h (polB s) h0 (pol_lt s)
    rw [← pol_name s (by omega), beq_self_eq_true] at h1
    cases h1

set_option maxRecDepth 100000 in
set_option maxHeartbeats 4000000 in
theorem refPolicy_any (s : ByteArray) (hs : s.size ≤ 1000000) (w : World) :
    Calls Tryd.prog 15 #[.string s] w fun e w' => e = .returned (.int .i64 (polB s.data.toList : Nat)) ∧ Below w.heap.size w w' := by
  go_enter Tryd.func15, Tryd.ntmps15
  go_wp2
  go_loopw [3, 4] (fun i _ wr => ∃ k : Nat, 1 ≤ k ∧ k ≤ 9 ∧ i = .int .i64 k ∧ Hid (∀ q, 1 ≤ q → q < k → (Ascii.lower s.data.toList == nameT q) = false) ∧ Below w.heap.size w wr) (fun i _ _ => 9 - (intOf i).toNat)
  case atStart => exact ⟨1, Nat.le_refl _, by omega, rfl, Lib.hid (fun q h1 h2 => by omega), Below.refl _ _⟩
  case round =>
    obtain ⟨k, h1, hk, rfl, HN, hB⟩ := hrel
    by_cases hlt : k < 9
    · have q1 : decide ((k : Int) < 9) = true := decide_eq_true (by omega)
      have cN := fun u => refName_any (k : Int) u
      rw [show nameI (k : Int) = nameT k by unfold nameI; rw [if_pos (by omega)]; rfl] at cN
      have hnl := name_len k
      have cS := fun u => Ascii.refSame_wide s (tb (nameT k)) (by omega) (by rw [tb_size]; omega) u
      rw [tb_list, name_low] at cS
      generalize tb (nameT k) = N at cN cS
      obtain ⟨z, hz⟩ : ∃ z, (Ascii.lower s.data.toList == nameT k) = z := ⟨_, rfl⟩
      rw [hz] at cS
      have HZ := Lib.hid hz
      clear hz hnl
      go_wp2_with fail
      refine (cN _).mono ?_
      rintro e w' ⟨rfl, rfl⟩
      go_wp2_with fail
      refine (cS _).mono ?_
      rintro e w2 ⟨rfl, hB2⟩
      have hb2 := Ascii.below2 hB hB2
      clear cN cS hB hB2
      cases z
      · have hn2 : Hid (∀ q, 1 ≤ q → q < k + 1 → (Ascii.lower s.data.toList == nameT q) = false) := Lib.hid (fun q h1 h2 => by
          rcases Nat.lt_or_ge q k with h | h
          · exact HN.out q h1 h
          · obtain rfl : q = k := by omega
            exact HZ.out)
        go_wp2
        go_roundw
        case rel => exact ⟨k + 1, by omega, by omega, by go_num, hn2, hb2⟩
        case measure => simp [intOf]; omega
      · have hp := Lib.hid (pol_is s.data.toList k hlt (by simpa using HZ.out))
        go_wp2
        go_ret
        exact ⟨by rw [hp.out]; rfl, hb2⟩
    · obtain rfl : k = 9 := by omega
      have q1 : decide ((9 : Int) < 9) = false := by decide
      have hp := Lib.hid (pol_none s.data.toList (fun q h1 h2 => HN.out q h1 h2))
      go_wp2
      go_ret
      exact ⟨by rw [hp.out]; rfl, hB⟩

/-! ### Split -/

/-- From a to b. -/
def seg (S : T) (a b : Nat) : T := (S.take b).drop a

theorem seg_none (S : T) (a b : Nat) (h : b ≤ a) : seg S a b = [] := by
  unfold seg
  exact List.drop_eq_nil_of_le (by rw [List.length_take]; omega)

theorem seg_cons (S : T) (a b : Nat) (h : a < b) (hb : b ≤ S.length) : seg S a b = S[a] :: seg S (a + 1) b := by
  unfold seg
  rw [List.drop_eq_getElem_cons (by rw [List.length_take]; omega), List.getElem_take]

theorem seg_snoc (S : T) (a b : Nat) (h : a ≤ b) (hb : b < S.length) : seg S a (b + 1) = seg S a b ++ [S[b]] := by
  unfold seg
  rw [List.take_succ_eq_append_getElem hb, List.drop_append_of_le_length (by rw [List.length_take]; omega)]

theorem seg_drop (S : T) (a b : Nat) (h : a ≤ b) (hb : b ≤ S.length) : S.drop a = seg S a b ++ S.drop b := by
  unfold seg
  conv => lhs; rw [← List.take_append_drop b S]
  rw [List.drop_append_of_le_length (by rw [List.length_take]; omega)]

theorem seg_len (S : T) (a b : Nat) : (seg S a b).length ≤ b - a := by
  unfold seg
  rw [List.length_drop, List.length_take]
  omega

theorem st_go (S : T) (f k : Nat) (h : f ≤ k) (hk : k < S.length) (hc : (44 : UInt8) ∉ seg S f k) (hn : S[k] ≠ 44) : (44 : UInt8) ∉ seg S f (k + 1) := by
  rw [seg_snoc S f k h hk]
  simp only [List.mem_append, List.mem_singleton, not_or]
  exact ⟨hc, fun e => hn e.symm⟩

theorem st_cut (S : T) (E : List T) (f k : Nat) (h : f ≤ k) (hk : k < S.length) (hc : (44 : UInt8) ∉ seg S f k) (hn : S[k] = 44) (hE : splitL S = E ++ splitL (S.drop f)) : splitL S = (E ++ [trimB (seg S f k)]) ++ splitL (S.drop (k + 1)) := by
  rw [hE, seg_drop S f k h (Nat.le_of_lt hk), List.drop_eq_getElem_cons hk, hn, split_app, split_none _ hc, List.append_assoc]

theorem st_end (S : T) (E : List T) (f : Nat) (h : f ≤ S.length) (hc : (44 : UInt8) ∉ seg S f S.length) (hE : splitL S = E ++ splitL (S.drop f)) : splitL S = E ++ [trimB (seg S f S.length)] := by
  rw [hE, seg_drop S f S.length h (Nat.le_refl _), List.drop_length, List.append_nil, split_none _ hc]

theorem fr_pre {s t : T} (h : Fr (s ++ t)) : Fr s := by
  rcases h with h | ⟨c, r, h, hc⟩
  · exact .inl (List.append_eq_nil_iff.1 h).1
  · cases s with
    | nil => exact .inl rfl
    | cons x s =>
      rw [List.cons_append] at h
      injection h with h1 h2
      exact .inr ⟨x, s, rfl, by rw [h1]; exact hc⟩

theorem trim_done (S X : T) (a b : Nat) (hf : Fr (seg S a b)) (hb : Bk (seg S a b)) (h : trimB (seg S a b) = trimB X) : seg S a b = trimB X := by rw [← h, Head.trim_same hf hb]

set_option maxRecDepth 100000 in
set_option maxHeartbeats 8000000 in
theorem refSplit_any (s : ByteArray) (hs : s.size ≤ 1000000) (w : World) :
    Calls Tryd.prog 13 #[.string s] w fun e w' => ∃ v, e = .returned v ∧ Strs w' v (splitL s.data.toList) ∧ Below w.heap.size w w' := by
  obtain ⟨i0, hi, hz0, hz1, hz2⟩ := info_parts infoText
  have hsl : s.data.toList.length = s.size := rfl
  obtain ⟨S, hS⟩ : ∃ S, s.data.toList = S := ⟨_, rfl⟩
  have HS := Lib.hid hS
  rw [hS] at hsl ⊢
  clear hS
  have HG := Lib.hid (show ∀ k (h : k < s.size), s[k] = S[k]'(by omega) from fun k h => by
    have e : s.data.toList[k]? = some s[k] := by rw [List.getElem?_eq_getElem (show k < s.data.toList.length from h)]; rfl
    rw [HS.out, List.getElem?_eq_getElem (by omega)] at e
    exact (Option.some.inj e).symm)
  go_enter Tryd.func13, Tryd.ntmps13
  go_wp2
  go_loopw [3, 4, 5, 6, 7] (fun o fr i _ _ wr => ∃ (k f : Nat) (E : List T), k ≤ s.size + 1 ∧ i = .int .i64 k ∧ fr = .int .i64 f ∧ E.length ≤ k ∧ wr.ownsRow w.heap.size 9 1 o E.length (E.map tx) ∧ Below w.heap.size w wr ∧
      Hid ((k ≤ s.size ∧ f ≤ k ∧ (44 : UInt8) ∉ seg S f k ∧ splitL S = E ++ splitL (S.drop f)) ∨ (k = s.size + 1 ∧ splitL S = E))) (fun _ _ i _ _ _ => s.size + 1 - (intOf i).toNat)
  case atStart => exact ⟨0, 0, [], Nat.zero_le _, rfl, rfl, Nat.le_refl _, ⟨rfl, .inl ⟨rfl, rfl⟩⟩, Below.refl _ _, Lib.hid (.inl ⟨Nat.zero_le _, Nat.le_refl _, by rw [seg_none _ _ _ (Nat.le_refl _)]; simp, by simp⟩)⟩
  case round =>
    obtain ⟨k, f, E, hk, rfl, rfl, hE, hrow, hB, HC⟩ := hrel
    by_cases hle : k ≤ s.size
    · have q1 : decide (k ≤ s.size) = true := decide_eq_true hle
      have q1' : decide ((k : Int) ≤ (s.size : Int)) = true := decide_eq_true (by omega)
      obtain ⟨-, hfk, hno, hsp⟩ : k ≤ s.size ∧ f ≤ k ∧ (44 : UInt8) ∉ seg S f k ∧ splitL S = E ++ splitL (S.drop f) := by
        rcases HC.out with h | h
        · exact h
        · omega
      have HNo := Lib.hid hno
      have HSp := Lib.hid hsp
      clear hno hsp HC
      have hways : (∃ h : k < s.size, s[k] ≠ 44 ∧ ((s[k].toNat : Int) != 44) = true) ∨ ((¬ k < s.size ∧ decide (k < s.size) = false ∨ ∃ h : k < s.size, decide (k < s.size) = true ∧ ((s[k].toNat : Int) != 44) = false) ∧ Hid (∃ f' E', E' = E ++ [trimB (seg S f k)] ∧ f' = k + 1 ∧ ((k + 1 ≤ s.size ∧ f' ≤ k + 1 ∧ (44 : UInt8) ∉ seg S f' (k + 1) ∧ splitL S = E' ++ splitL (S.drop f')) ∨ (k + 1 = s.size + 1 ∧ splitL S = E')))) := by
        by_cases hlt : k < s.size
        · by_cases h44 : s[k] = 44
          · refine .inr ⟨.inr ⟨hlt, decide_eq_true hlt, by rw [h44]; rfl⟩, Lib.hid ⟨k + 1, _, rfl, rfl, .inl ⟨by omega, Nat.le_refl _, by rw [seg_none _ _ _ (Nat.le_refl _)]; simp, ?_⟩⟩⟩
            exact st_cut S E f k hfk (by omega) HNo.out (by rw [← HG.out k hlt]; exact h44) HSp.out
          · exact .inl ⟨hlt, h44, byte_no _ 44 h44⟩
        · obtain rfl : k = s.size := by omega
          refine .inr ⟨.inl ⟨hlt, decide_eq_false hlt⟩, Lib.hid ⟨s.size + 1, _, rfl, rfl, .inr ⟨rfl, ?_⟩⟩⟩
          have := st_end S E f (by omega) (by rw [hsl]; exact HNo.out) HSp.out
          rw [hsl] at this
          exact this
      rcases hways with ⟨hlt, h44, q2⟩ | ⟨hq, HF⟩
      · have q3 : decide (k < s.size) = true := decide_eq_true hlt
        have HN2 := Lib.hid (st_go S f k hfk (by omega) HNo.out (by rw [← HG.out k hlt]; exact h44))
        clear h44
        go_wp2
        go_roundw
        case rel => exact ⟨k + 1, f, E, by omega, by go_num, rfl, by omega, hrow, hB, Lib.hid (.inl ⟨by omega, by omega, HN2.out, HSp.out⟩)⟩
        case measure => simp [intOf]; omega
      · clear HSp
        rcases hq with ⟨hn, q2⟩ | ⟨hlt, q2, q3⟩
        all_goals
          go_wp2
          go_loop [6] (fun x => ∃ a : Nat, f ≤ a ∧ a ≤ k ∧ x = .int .i64 a ∧ Hid (trimB (seg S a k) = trimB (seg S f k))) (fun x => k - (intOf x).toNat)
          case atStart => exact ⟨f, Nat.le_refl _, hfk, rfl, Lib.hid rfl⟩
          case round =>
            obtain ⟨a, hfa, hak, rfl, HT⟩ := hrel
            have hstop : (∃ h : a < s.size, a < k ∧ blankB s[a] = true) ∨ (Fr (seg S a k) ∧ ((¬ a < k ∧ decide ((a : Int) < (k : Int)) = false) ∨ ∃ h : a < s.size, a < k ∧ ((s[a].toNat : Int) == 32) = false ∧ ((s[a].toNat : Int) == 9) = false)) := by
              by_cases h : a < k
              · rcases blank_ways s[a] with ⟨hb, -⟩ | ⟨hb, g1, g2⟩
                · exact .inl ⟨by omega, h, hb⟩
                · refine .inr ⟨?_, .inr ⟨by omega, h, g1, g2⟩⟩
                  rw [seg_cons S a k h (by omega)]
                  exact .inr ⟨_, _, rfl, by rw [← HG.out a (by omega)]; exact hb⟩
              · exact .inr ⟨by rw [seg_none _ _ _ (by omega)]; exact .inl rfl, .inl ⟨h, decide_eq_false (by omega)⟩⟩
            rcases hstop with ⟨has, hal, hb⟩ | ⟨hF, hq2⟩
            · have p0 : decide ((a : Int) < (k : Int)) = true := decide_eq_true (by omega)
              have p0' : decide (a < k) = true := decide_eq_true hal
              have H2 := Lib.hid (show trimB (seg S (a + 1) k) = trimB (seg S f k) by
                rw [← HT.out, seg_cons S a k hal (by omega), ← HG.out a has, Head.trim_ahead _ _ hb])
              rcases blank_ways s[a] with ⟨-, g1 | ⟨g1, g2⟩⟩ | ⟨hb', -⟩
              rotate_left 2
              · rw [hb] at hb'; cases hb'
              all_goals
                clear hb
                go_wp2
                go_round
                case rel => exact ⟨a + 1, by omega, by omega, by go_num, H2⟩
                case measure => simp [intOf]; omega
            · have HFr := Lib.hid hF
              clear hF
              rcases hq2 with ⟨hn2, g0⟩ | ⟨has, hal, g1, g2⟩
              rotate_left
              have p0 : decide ((a : Int) < (k : Int)) = true := decide_eq_true (by omega)
              have p0' : decide (a < k) = true := decide_eq_true hal
              all_goals
                go_wp2
                go_loop [7] (fun y => ∃ b : Nat, a ≤ b ∧ b ≤ k ∧ y = .int .i64 b ∧ Hid (Fr (seg S a b)) ∧ Hid (trimB (seg S a b) = trimB (seg S f k))) (fun y => (intOf y).toNat)
                case atStart => exact ⟨k, hak, Nat.le_refl _, rfl, HFr, HT⟩
                case round =>
                  obtain ⟨b, hab, hbk, rfl, hF, hT2⟩ := hrel
                  have hstop2 : (∃ (c : Nat) (h : c < s.size), b = c + 1 ∧ a ≤ c ∧ blankB s[c] = true) ∨ (Bk (seg S a b) ∧ ((¬ a < b ∧ decide ((a : Int) < (b : Int)) = false) ∨ ∃ (c : Nat) (h : c < s.size), b = c + 1 ∧ a ≤ c ∧ ((s[c].toNat : Int) == 32) = false ∧ ((s[c].toNat : Int) == 9) = false)) := by
                    by_cases h : a < b
                    · obtain ⟨c, rfl⟩ : ∃ c, b = c + 1 := ⟨b - 1, by omega⟩
                      rcases blank_ways s[c] with ⟨hb, -⟩ | ⟨hb, g1, g2⟩
                      · exact .inl ⟨c, by omega, rfl, by omega, hb⟩
                      · refine .inr ⟨?_, .inr ⟨c, by omega, rfl, by omega, g1, g2⟩⟩
                        rw [seg_snoc S a c (by omega) (by omega)]
                        exact .inr ⟨_, _, rfl, by rw [← HG.out c (by omega)]; exact hb⟩
                    · exact .inr ⟨by rw [seg_none _ _ _ (by omega)]; exact .inl rfl, .inl ⟨h, decide_eq_false (by omega)⟩⟩
                  rcases hstop2 with ⟨c, hcs, rfl, hac, hb⟩ | ⟨hBk, hq3⟩
                  · have p1 : decide ((a : Int) < (c : Int) + 1) = true := decide_eq_true (by omega)
                    have e1 : (c : Int) + 1 - 1 = c := by omega
                    have hsn := seg_snoc S a c hac (by omega)
                    rw [← HG.out c hcs] at hsn
                    have HF2 := Lib.hid (show Fr (seg S a c) by have := hF.out; rw [hsn] at this; exact fr_pre this)
                    have H2 := Lib.hid (show trimB (seg S a c) = trimB (seg S f k) by
                      rw [← hT2.out, hsn, Head.trim_behind _ _ hb])
                    clear hsn
                    rcases blank_ways s[c] with ⟨-, g1 | ⟨g1, g2⟩⟩ | ⟨hb', -⟩
                    rotate_left 2
                    · rw [hb] at hb'; cases hb'
                    all_goals
                      clear hb
                      go_wp2
                      go_round
                      case rel => exact ⟨c, by omega, by omega, by go_num, HF2, H2⟩
                      case measure => simp [intOf]
                  · have HE := Lib.hid (show Value.string (s.extract a b) = tx (trimB (seg S f k)) by
                      rw [← trim_done S (seg S f k) a b hF.out hBk hT2.out]
                      unfold seg
                      rw [← HS.out, ← Ascii.extract_list]
                      show _ = Value.string (tb _)
                      rw [tb_of])
                    clear hBk
                    obtain ⟨xs, hxs⟩ : ∃ xs, E.map tx = xs := ⟨_, rfl⟩
                    obtain ⟨n, hn⟩ : ∃ n, E.length = n := ⟨_, rfl⟩
                    rw [hxs, hn] at hrow
                    rw [hn] at hE
                    have HX := Lib.hid hxs
                    have HN := Lib.hid hn
                    have hwb := hB.size
                    clear hxs hn
                    have hsl2 : (a : Int) ≤ (b : Int) ∧ (b : Int) ≤ (s.size : Int) := ⟨by omega, by omega⟩
                    have hfin : ∀ v' w4, World.ownsRow w4 w.heap.size 9 1 v' (n + 1) (xs ++ [.string (s.extract a b)]) → World.ownsRow w4 w.heap.size 9 1 v' (E ++ [trimB (seg S f k)]).length ((E ++ [trimB (seg S f k)]).map tx) := fun v' w4 h => by
                      rw [List.length_append, HN.out, List.map_append, HX.out, show [trimB (seg S f k)].map tx = [.string (s.extract a b)] by rw [List.map_cons, ← HE.out]; rfl]
                      exact h
                    have HFin := Lib.hid hfin
                    clear hfin
                    rcases hq3 with ⟨hn3, p1⟩ | ⟨c, hcs, hbc, hac, g3, g4⟩
                    rotate_left
                    have p1 : decide ((a : Int) < (b : Int)) = true := decide_eq_true (by omega)
                    have e1 : (b : Int) - 1 = c := by omega
                    clear hbc
                    all_goals (try (exfalso; omega))
                    all_goals
                      go_wp2_with (at_builtin; refine wpList_append_own _ rfl _ _ 26 rfl w.heap.size 9 i0 (.string ⟨#[]⟩) 1 16 Tryd.underlying26 hi hz0 hz1 hz2 rfl (by decide) _ _ _ rfl (hrow.alloc _) ⟨wr.heap.size, 0, none⟩ 1 1 [.string (s.extract a b)] rfl rfl (cell_one_new _ _ _) (by simp [Value.oneCell']) (by unfold maxLen; omega) (by omega) (by simp; omega) ?_; intro v' w4 hown' hgrow _)
                      have hb4 := (hB.alloc hwb (.cells #[.string (s.extract a b)] 9)).trans (grown_below (hrow.alloc _) (by simp; omega) hgrow)
                      have hrow4 := HFin.out _ _ hown'
                      clear hgrow hrow hB hown' HFin
                      go_roundw
                      case rel =>
                        obtain ⟨f', E', rfl, rfl, hf⟩ := HF.out
                        exact ⟨k + 1, k + 1, _, by omega, by go_num, by go_num, by rw [List.length_append, HN.out]; simp; omega, hrow4, hb4, Lib.hid hf⟩
                      case measure => simp [intOf]; omega
    · obtain rfl : k = s.size + 1 := by omega
      have q1 : decide (s.size + 1 ≤ s.size) = false := decide_eq_false (by omega)
      have q1' : decide (((s.size : Int) + 1) ≤ (s.size : Int)) = false := decide_eq_false (by omega)
      have hfin : splitL S = E := by
        rcases HC.out with h | h
        · omega
        · exact h.2
      have hst := Path.owns_strs hrow
      rw [← hfin] at hst
      clear hfin
      go_wp2
      go_ret
      exact ⟨_, rfl, hst, hB⟩

end Go.Proofs.YtbgebolamkfnlaaDoor.Token

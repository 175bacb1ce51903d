/-
  The document's functions of layer 9: find, Web, opaque, port, Tail, Scheme.
  The document's functions of layers 8 and 9: Dots, tails.
  The document's Same of layer 9.
  The document's functions of layer 8: segments.
-/
import Derived.Test.YtkhjhiofgoampaaGreatDoorUrl
namespace Go.Proofs.YtkhjhiofgoampaaGreatDoor.Url
set_option linter.unusedSimpArgs false
set_option linter.unusedVariables false
set_option maxRecDepth 100000


open Go.RowKit Go.Shelf

set_option maxRecDepth 100000
/-! ### the document's find, Web, opaque -/
def findN (c : UInt8) (l : T) (k : Nat) : Nat := k + (bef c (l.drop k)).length

theorem find_le (c : UInt8) (l : T) (k : Nat) (hk : k ≤ l.length) : findN c l k ≤ l.length := by
  have := bef_len c (l.drop k)
  unfold findN
  rw [List.length_drop] at this
  omega

theorem refFind_any (s : ByteArray) (hs : s.size ≤ 1000000) (c : UInt8) (k : Nat) (hk : k ≤ s.size) (n : Nat) (hn : findN c s.data.toList k = n) (w : World) :
    Calls Tryz.prog 72 #[.string s, .int .u8 (c.toNat : Int), .int .i64 (k : Int)] w fun e w' => e = .returned (.int .i64 (n : Int)) ∧ w = w' := by
  have HN := Lib.hid hn
  have HSZ := Lib.hid (show s.data.toList.length = s.size from rfl)
  clear hn
  go_enter Tryz.func72, Tryz.ntmps72
  go_wp2
  go_loop [7] (fun i => ∃ j : Nat, j ≤ s.size ∧ i = .int .i64 j ∧ Hid (findN c s.data.toList j = n)) (fun i => s.size - (intOf i).toNat)
  case atStart => exact ⟨k, hk, rfl, HN⟩
  case round =>
    obtain ⟨j, hj, rfl, HJ⟩ := hrel
    by_cases hlt : j < s.size
    · have t1 : (j : Int) < s.size := by omega
      have e := Pct.drop_cons s j hlt
      by_cases hc : s[j] = c
      · have q : ((s[j].toNat : Int) == (c.toNat : Int)) = true := by rw [hc]; simp
        have hjn : j = n := by
          have := HJ.out
          unfold findN at this
          rw [e, hc, bef_hit] at this
          simpa using this
        clear HJ e hc
        subst hjn
        go_wp2
        go_ret
        exact ⟨rfl, rfl⟩
      · have q : ((s[j].toNat : Int) == (c.toNat : Int)) = false := beq_eq_false_iff_ne.2 (fun h => hc (UInt8.toNat_inj.1 (by omega)))
        have HJ1 := Lib.hid (show findN c s.data.toList (j + 1) = n by
          have := HJ.out
          unfold findN at this ⊢
          rw [e, bef_miss _ hc, List.length_cons] at this
          omega)
        clear HJ e hc
        go_wp2
        go_round
        case rel => exact ⟨j + 1, by omega, by go_num, HJ1⟩
        case measure => simp [intOf]; omega
    · obtain rfl : j = s.size := by omega
      have hjn : s.size = n := by
        have := HJ.out
        unfold findN at this
        rw [List.drop_of_length_le (by rw [HSZ.out]; exact Nat.le_refl _)] at this
        simpa [bef] using this
      clear HJ
      subst hjn
      go_wp2
      go_ret
      exact ⟨rfl, rfl⟩

theorem refWeb_any (s : ByteArray) (z : Int) (hz : webI s.data.toList = z) (w : World) : Calls Tryz.prog 35 #[.string s] w fun e w' => e = .returned (.int .i64 z) ∧ w = w' := by
  subst hz
  unfold webI
  by_cases h1 : s.data.toList = http
  · have q1 : (s.toList == [104, 116, 116, 112]) = true := by rw [Path.tl, h1]; rfl
    rw [if_pos h1]
    clear h1
    go_enter Tryz.func35, Tryz.ntmps35
    go_wp2
    go_ret
    exact ⟨rfl, rfl⟩
  · have q1 : (s.toList == [104, 116, 116, 112]) = false := by rw [Path.tl]; exact beq_eq_false_iff_ne.2 h1
    rw [if_neg h1]
    clear h1
    by_cases h2 : s.data.toList = https
    · have q2 : (s.toList == [104, 116, 116, 112, 115]) = true := by rw [Path.tl, h2]; rfl
      rw [if_pos h2]
      clear h2
      go_enter Tryz.func35, Tryz.ntmps35
      go_wp2
      go_ret
      exact ⟨rfl, rfl⟩
    · have q2 : (s.toList == [104, 116, 116, 112, 115]) = false := by rw [Path.tl]; exact beq_eq_false_iff_ne.2 h2
      rw [if_neg h2]
      clear h2
      go_enter Tryz.func35, Tryz.ntmps35
      go_wp2
      go_ret
      exact ⟨rfl, rfl⟩

theorem refOpq_any (s : ByteArray) (b : Bool) (hb : opB s.data.toList = b) (w : World) : Calls Tryz.prog 70 #[.string s] w fun e w' => e = .returned (.bool b) ∧ w = w' := by
  subst hb
  unfold opB about data blob
  rw [← Path.tl]
  cases q1 : (s.toList == [97, 98, 111, 117, 116]) <;> cases q2 : (s.toList == [100, 97, 116, 97]) <;> cases q3 : (s.toList == [98, 108, 111, 98])
  all_goals
    go_enter Tryz.func70, Tryz.ntmps70
    go_wp2
    go_ret
    exact ⟨rfl, rfl⟩
/-! ### a port -/

theorem refRead_at (s : ByteArray) (hs : s.size ≤ 1000000) (z : Int) (b : Bool) (hz : Deci.readI s.data.toList 65535 = z) (hb : Deci.readB s.data.toList 65535 = b) (w : World) :
    Calls Tryz.prog 149 #[.string s, .int .i64 65535] w fun e w' => e = .returned (.tuple #[.int .i64 z, .bool b]) ∧ Below w.heap.size w w' := by
  subst hz; subst hb
  exact Deci.refRead_calls s (by unfold maxLen; omega) 65535 (by omega) w

theorem refPort_any (s c : ByteArray) (hs : s.size ≤ 1000000) (b : Bool) (hb : portB s.data.toList = b) (z : Int) (hz : (if b then portI c.data.toList s.data.toList else 0) = z) (w : World) :
    Calls Tryz.prog 121 #[.string s, .string c] w fun e w' => e = .returned (.tuple #[.int .i64 z, .bool b]) ∧ Below w.heap.size w w' := by
  subst hz
  unfold portB at hb
  unfold portI
  rw [← Path.tl s] at hb ⊢
  cases q1 : s.toList.isEmpty
  · rw [q1, Bool.false_or] at hb
    rw [Path.tl] at hb
    cases b
    · have hz : Deci.readI s.data.toList 65535 = 0 := by unfold Deci.readI; rw [hb]; rfl
      have R := Lib.hid (refRead_at s hs _ _ hz hb)
      clear hb hz hs
      go_enter Tryz.func121, Tryz.ntmps121
      go_wp2_with fail
      refine (R.out _).mono ?_
      rintro e u1 ⟨rfl, hB1⟩
      go_wp2
      exact bodyPost_ret (results_tmp2 rfl _ _ _) rfl ⟨by simp, hB1⟩
    · have hz : Deci.readI s.data.toList 65535 = (Deci.valN s.data.toList : Int) := by unfold Deci.readI; rw [if_pos hb]
      have R := Lib.hid (refRead_at s hs _ _ hz hb)
      have WW := Lib.hid (fun u => refWeb_any c _ rfl u)
      rw [Path.tl]
      generalize (Deci.valN s.data.toList : Int) = n at R ⊢
      generalize webI c.data.toList = v at WW ⊢
      clear hb hz hs
      by_cases hn : n = v
      · subst hn
        go_enter Tryz.func121, Tryz.ntmps121
        go_wp2_with fail
        refine (R.out _).mono ?_
        rintro e u1 ⟨rfl, hB1⟩
        go_wp2_with fail
        refine (WW.out _).mono ?_
        rintro e u2 ⟨rfl, rfl⟩
        go_wp2
        exact bodyPost_ret (results_tmp2 rfl _ _ _) rfl ⟨by simp, hB1⟩
      · have q2 : (n == v) = false := by simpa using hn
        go_enter Tryz.func121, Tryz.ntmps121
        go_wp2_with fail
        refine (R.out _).mono ?_
        rintro e u1 ⟨rfl, hB1⟩
        go_wp2_with fail
        refine (WW.out _).mono ?_
        rintro e u2 ⟨rfl, rfl⟩
        go_wp2
        exact bodyPost_ret (results_tmp2 rfl _ _ _) rfl ⟨by simp [hn], hB1⟩
  · rw [q1] at hb
    have hb' : true = b := hb
    subst hb'
    go_enter Tryz.func121, Tryz.ntmps121
    go_wp2
    exact bodyPost_ret (results_tmp2 rfl _ _ _) rfl ⟨by simp, Below.refl _ _⟩
/-! ### a tail -/

theorem find_bef (c : UInt8) (l : T) : findN c l 0 = (bef c l).length := by unfold findN; simp

set_option maxHeartbeats 1000000 in
theorem refTail_any (s : ByteArray) (hs : s.size ≤ 1000000) (x y z : ByteArray) (b c : Bool) (hx : tb (tA s.data.toList) = x) (hy : tb (tQ s.data.toList) = y) (hz : tb (tF s.data.toList) = z) (hb : tHQ s.data.toList = b) (hc : tHF s.data.toList = c) (w : World) :
    Calls Tryz.prog 76 #[.string s] w fun e w' => e = .returned (.tuple #[.string x, .string y, .string z, .bool b, .bool c]) ∧ Below w.heap.size w w' := by
  obtain ⟨p, hp⟩ : ∃ p, tb (bef 35 s.data.toList) = p := ⟨_, rfl⟩
  have hp0 : p.size = (bef 35 s.data.toList).length := size_tb hp
  have hp1 : p.size ≤ s.size := by have := bef_len 35 s.data.toList; rw [size_list] at this; rw [hp0]; omega
  unfold tA tQ tF tHQ tHF at *
  rw [← list_tb hp] at hx hy hb
  have F1 := Lib.hid (fun u => refFind_any s hs 35 0 (Nat.zero_le _) p.size (by rw [find_bef, hp0]) u)
  obtain ⟨q, hq⟩ : ∃ q, (bef 63 p.data.toList).length = q := ⟨_, rfl⟩
  have hq1 : q ≤ p.size := by have := bef_len 63 p.data.toList; rw [size_list] at this; omega
  have F2 := Lib.hid (fun u => refFind_any p (by omega) 63 0 (Nat.zero_le _) q (by rw [find_bef, hq]) u)
  have P1 := Lib.hid (show s.extract 0 p.size = p by rw [piece_to s _ hp1, hp0, bef_take, hp])
  have PX := Lib.hid (show s.extract 0 q = x by
    rw [piece_to s _ (by omega), ← hx, ← hq]
    have e1 : p.data.toList = s.data.toList.take p.size := by rw [hp0, bef_take, list_tb hp]
    have e2 : s.data.toList.take q = p.data.toList.take q := by rw [e1, List.take_take, Nat.min_eq_left hq1]
    rw [hq, e2, ← hq, bef_take])
  have C35 : p.size < s.size ∧ c = true ∨ p.size = s.size ∧ c = false := by
    by_cases h : (35 : UInt8) ∈ s.data.toList
    · have := (bef_lt 35 s.data.toList).2 h
      rw [size_list] at this
      exact .inl ⟨by omega, by rw [← hc, has_yes h]⟩
    · have := (bef_full 35 s.data.toList).2 h
      rw [size_list] at this
      exact .inr ⟨by omega, by rw [← hc, has_no h]⟩
  have C63 : q < p.size ∧ b = true ∨ q = p.size ∧ b = false := by
    by_cases h : (63 : UInt8) ∈ p.data.toList
    · have := (bef_lt 63 p.data.toList).2 h
      rw [size_list] at this
      exact .inl ⟨by omega, by rw [← hb, has_yes h]⟩
    · have := (bef_full 63 p.data.toList).2 h
      rw [size_list] at this
      exact .inr ⟨by omega, by rw [← hb, has_no h]⟩
  have PZ := Lib.hid (fun (h : p.size < s.size) => show s.extract (p.size + 1) s.size = z from by rw [piece_from s _ (by omega), ← hz, hp0, aft_drop])
  have PY := Lib.hid (fun (h : q < p.size) => show s.extract (q + 1) p.size = y from by
    have e1 : p.data.toList = s.data.toList.take p.size := by rw [hp0, bef_take, list_tb hp]
    rw [← hy, ← aft_drop, hq, e1]
    apply ByteArray.ext
    apply Array.toList_inj.1
    rw [Ascii.extract_list, tb_list])
  have NZ := Lib.hid (fun (h : p.size = s.size) => show (⟨#[]⟩ : ByteArray) = z from by
    rw [← hz, aft_no _ ((bef_full 35 s.data.toList).1 (by rw [← hp0, h]; rfl))]; rfl)
  have NY := Lib.hid (fun (h : q = p.size) => show (⟨#[]⟩ : ByteArray) = y from by
    rw [← hy, aft_no _ ((bef_full 63 p.data.toList).1 (by rw [hq, h]; rfl))]; rfl)
  have NX := Lib.hid (fun (h : q = p.size) => show p = x from by rw [← PX.out, h, P1.out])
  clear hx hy hz hb hc hp hp0 hq
  rcases C35 with ⟨h35, rfl⟩ | ⟨h35, rfl⟩ <;> rcases C63 with ⟨h63, rfl⟩ | ⟨h63, rfl⟩
  · have p1 := P1.out
    have px := PX.out
    have py := PY.out h63
    have pz := PZ.out h35
    clear P1 PX PY PZ NZ NY NX
    go_enter Tryz.func76, Tryz.ntmps76
    go_wp2_with fail
    refine (F1.out _).mono ?_
    rintro e u1 ⟨rfl, rfl⟩
    go_wp2_with fail
    refine (F2.out _).mono ?_
    rintro e u1 ⟨rfl, rfl⟩
    go_wp2
    go_region
    go_wp2
    exact bodyPost_ret (results_tmp5 rfl _ _ _) rfl ⟨rfl, below_drew (Below.refl _ _) _⟩
  · subst h63
    have p1 := P1.out
    have pz := PZ.out h35
    have HX := Lib.hid (NX.out rfl)
    have HY := Lib.hid (NY.out rfl)
    have q1 : decide ((p.size : Int) < (p.size : Int)) = false := decide_eq_false (by omega)
    clear P1 PX PY PZ NZ NY NX
    go_enter Tryz.func76, Tryz.ntmps76
    go_wp2_with fail
    refine (F1.out _).mono ?_
    rintro e u1 ⟨rfl, rfl⟩
    go_wp2_with fail
    refine (F2.out _).mono ?_
    rintro e u1 ⟨rfl, rfl⟩
    go_wp2
    exact bodyPost_ret (results_tmp5 rfl _ _ _) rfl ⟨by rw [← HX.out, ← HY.out]; rfl, Below.refl _ _⟩
  · have p1 := P1.out
    have px := PX.out
    have py := PY.out h63
    have HZ := Lib.hid (NZ.out h35)
    have q1 : ¬ p.size < s.size := by omega
    clear h35 P1 PX PY PZ NZ NY NX
    go_enter Tryz.func76, Tryz.ntmps76
    go_wp2_with fail
    refine (F1.out _).mono ?_
    rintro e u1 ⟨rfl, rfl⟩
    go_wp2_with fail
    refine (F2.out _).mono ?_
    rintro e u1 ⟨rfl, rfl⟩
    go_wp2
    go_region
    go_wp2
    exact bodyPost_ret (results_tmp5 rfl _ _ _) rfl ⟨by rw [← HZ.out]; rfl, below_drew (Below.refl _ _) _⟩
  · subst h63
    have p1 := P1.out
    have HX := Lib.hid (NX.out rfl)
    have HY := Lib.hid (NY.out rfl)
    have HZ := Lib.hid (NZ.out h35)
    have q1 : decide ((p.size : Int) < (p.size : Int)) = false := decide_eq_false (by omega)
    have q2 : ¬ p.size < s.size := by omega
    clear h35 P1 PX PY PZ NZ NY NX
    go_enter Tryz.func76, Tryz.ntmps76
    go_wp2_with fail
    refine (F1.out _).mono ?_
    rintro e u1 ⟨rfl, rfl⟩
    go_wp2_with fail
    refine (F2.out _).mono ?_
    rintro e u1 ⟨rfl, rfl⟩
    go_wp2
    exact bodyPost_ret (results_tmp5 rfl _ _ _) rfl ⟨by rw [← HX.out, ← HY.out, ← HZ.out]; rfl, Below.refl _ _⟩
/-! ### a scheme -/

theorem sch_no {l : T} (h : schB l = false) : schS l = [] ∧ schR l = [] := by unfold schS schR; rw [h]; exact ⟨rfl, rfl⟩

theorem sch_bad {l : T} (h : named (bef 58 l) = false) : schB l = false := by unfold schB; rw [h, Bool.and_false]

theorem named_bad {p : T} {c : UInt8} (hc : c ∈ p) (hn : nameB c = false) : named p = false := by
  cases e : named p
  · rfl
  · rw [(named_iff p).1 e |>.1 c hc] at hn; cases hn

theorem refLower_at (s : ByteArray) (hs : s.size ≤ 30000) (x : ByteArray) (hx : tb (Ascii.lower s.data.toList) = x) (w : World) : Calls Tryz.prog 85 #[.string s] w fun e w' => e = .returned (.string x) ∧ Below w.heap.size w w' := by
  subst hx
  exact Ascii.refLower_any s hs w

set_option maxHeartbeats 1000000 in
theorem refScheme_any (s : ByteArray) (hs : s.size ≤ 30000) (x y : ByteArray) (b : Bool) (hx : tb (schS s.data.toList) = x) (hy : tb (schR s.data.toList) = y) (hb : schB s.data.toList = b) (w : World) :
    Calls Tryz.prog 39 #[.string s] w fun e w' => e = .returned (.tuple #[.string x, .string y, .bool b]) ∧ Below w.heap.size w w' := by
  obtain ⟨p, hp⟩ : ∃ p, tb (bef 58 s.data.toList) = p := ⟨_, rfl⟩
  have hp0 : p.size = (bef 58 s.data.toList).length := size_tb hp
  have hp1 : p.size ≤ s.size := by have := bef_len 58 s.data.toList; rw [size_list] at this; rw [hp0]; omega
  have F1 := Lib.hid (fun u => refFind_any s (by omega) 58 0 (Nat.zero_le _) p.size (by rw [find_bef, hp0]) u)
  have P1 := Lib.hid (show s.extract 0 p.size = p by rw [piece_to s _ hp1, hp0, bef_take, hp])
  have e1 : p.data.toList = s.data.toList.take p.size := by rw [hp0, bef_take, list_tb hp]
  have NB := Lib.hid (fun (h : schB s.data.toList = false) => show b = false ∧ (⟨#[]⟩ : ByteArray) = x ∧ (⟨#[]⟩ : ByteArray) = y from by
    obtain ⟨h1, h2⟩ := sch_no h
    exact ⟨by rw [← hb, h], by rw [← hx, h1]; rfl, by rw [← hy, h2]; rfl⟩)
  have BAD := Lib.hid (fun (h : named p.data.toList = false) => NB.out (sch_bad (by rw [← list_tb hp]; exact h)))
  have NOC := Lib.hid (fun (h : p.size = s.size) => NB.out (by unfold schB; rw [has_no ((bef_full 58 s.data.toList).1 (by rw [← hp0, h]; rfl))]; rfl))
  have GOOD := Lib.hid (fun (h : p.size < s.size) (hn : named p.data.toList = true) => show true = b ∧ tb (Ascii.lower p.data.toList) = x ∧ s.extract (p.size + 1) s.size = y from by
    have hin : (58 : UInt8) ∈ s.data.toList := (bef_lt 58 s.data.toList).1 (by rw [← hp0]; exact h)
    have hsc : schB s.data.toList = true := by unfold schB; rw [has_yes hin, ← list_tb hp, hn]; rfl
    refine ⟨by rw [← hb, hsc], ?_, ?_⟩
    · rw [← hx]; unfold schS; rw [hsc, if_pos rfl, list_tb hp]
    · rw [piece_from s _ (by omega), ← hy]; unfold schR; rw [hsc, if_pos rfl, hp0, aft_drop])
  clear NB
  have E1 := Lib.hid e1
  clear hx hy hb hp hp0 e1
  by_cases hz : p.size = 0
  · have q0 : ((p.size : Int) == 0) = true := by rw [hz]; rfl
    obtain ⟨b1, b2, b3⟩ := BAD.out (by
      have : p.data.toList = [] := List.length_eq_zero_iff.1 hz
      rw [this]; rfl)
    have HX := Lib.hid b2
    have HY := Lib.hid b3
    subst b1
    clear BAD NOC GOOD P1 b2 b3 E1
    go_enter Tryz.func39, Tryz.ntmps39
    go_wp2_with fail
    refine (F1.out _).mono ?_
    rintro e u1 ⟨rfl, rfl⟩
    go_wp2
    exact bodyPost_ret (results_tmp3 rfl _ _ _) rfl ⟨by rw [← HX.out, ← HY.out]; rfl, Below.refl _ _⟩
  have q0 : ((p.size : Int) == 0) = false := beq_eq_false_iff_ne.2 (by omega)
  by_cases hw : p.size = s.size
  · have q1 : ((p.size : Int) == (s.size : Int)) = true := by rw [hw]; simp
    obtain ⟨b1, b2, b3⟩ := NOC.out hw
    have HX := Lib.hid b2
    have HY := Lib.hid b3
    subst b1
    clear hw BAD NOC GOOD P1 b2 b3 E1
    go_enter Tryz.func39, Tryz.ntmps39
    go_wp2_with fail
    refine (F1.out _).mono ?_
    rintro e u1 ⟨rfl, rfl⟩
    go_wp2
    exact bodyPost_ret (results_tmp3 rfl _ _ _) rfl ⟨by rw [← HX.out, ← HY.out]; rfl, Below.refl _ _⟩
  have q1 : ((p.size : Int) == (s.size : Int)) = false := beq_eq_false_iff_ne.2 (by omega)
  have hlt : p.size < s.size := by omega
  have hpos : 0 < s.size := by omega
  clear NOC
  have hhead : p.data.toList = s[0] :: (s.data.toList.take p.size).drop 1 := by
    have e := Pct.drop_cons s 0 hpos
    rw [List.drop_zero] at e
    rw [E1.out]
    obtain ⟨n, hn⟩ : ∃ n, p.size = n + 1 := ⟨p.size - 1, by omega⟩
    rw [hn, e]
    simp
  obtain ⟨f, hf⟩ : ∃ f, Ascii.alphaB (s[0].toNat : Int) = f := ⟨_, rfl⟩
  have A0 := Lib.hid (fun u => show Calls Tryz.prog 83 #[.int .u8 (s[0].toNat : Int)] u fun e w' => e = .returned (.bool f) ∧ u = w' from by rw [← hf]; exact Ascii.refAlpha_any _ u)
  cases f
  · obtain ⟨b1, b2, b3⟩ := BAD.out (by
      have : headB p.data.toList = false := by rw [hhead]; exact hf
      unfold named; rw [this, Bool.and_false])
    have HX := Lib.hid b2
    have HY := Lib.hid b3
    subst b1
    clear BAD GOOD P1 b2 b3 E1 hhead hf
    go_enter Tryz.func39, Tryz.ntmps39
    go_wp2_with fail
    refine (F1.out _).mono ?_
    rintro e u1 ⟨rfl, rfl⟩
    go_wp2_with fail
    refine (A0.out _).mono ?_
    rintro e u1 ⟨rfl, rfl⟩
    go_wp2
    go_loop [7] (fun i => i = .int .i64 0) (fun _ => 0)
    case atStart => rfl
    case round =>
      subst hrel
      go_wp2_with (first | (go_at_call 83; refine (Ascii.refAlpha_any _ _).mono ?_; rintro e w' ⟨rfl, rfl⟩) | (go_at_call 84; refine (Ascii.refDigit_any _ _).mono ?_; rintro e w' ⟨rfl, rfl⟩))
      exact bodyPost_ret (results_tmp3 rfl _ _ _) rfl ⟨by rw [← HX.out, ← HY.out]; rfl, Below.refl _ _⟩
  have HD := Lib.hid (show headB p.data.toList = true by rw [hhead]; exact hf)
  clear hhead hf
  go_enter Tryz.func39, Tryz.ntmps39
  go_wp2_with fail
  refine (F1.out _).mono ?_
  rintro e u1 ⟨rfl, rfl⟩
  go_wp2_with fail
  refine (A0.out _).mono ?_
  rintro e u1 ⟨rfl, rfl⟩
  go_wp2
  go_loop [7] (fun i => ∃ k : Nat, k ≤ p.size ∧ i = .int .i64 k ∧ Hid ((s.data.toList.take k).all nameB = true)) (fun i => p.size - (intOf i).toNat)
  case atStart => exact ⟨0, Nat.zero_le _, rfl, Lib.hid rfl⟩
  case round =>
    obtain ⟨k, hk, rfl, HA⟩ := hrel
    by_cases hkp : k < p.size
    · have hks : k < s.size := by omega
      have t1 : (k : Int) < s.size := by omega
      have hts : s.data.toList.take (k + 1) = s.data.toList.take k ++ [s[k]] := Ascii.take_snoc s k hks
      have hmem : s[k] ∈ p.data.toList := by
        rw [E1.out]
        have h1 : s[k] ∈ s.data.toList.take (k + 1) := by rw [hts]; simp
        exact List.take_subset_take_left _ (by omega) h1
      rcases byte6 s[k] with ⟨hn, hh⟩ | ⟨hn, h1, h2, h3, h4, h5⟩
      · have HN := Lib.hid (show (s.data.toList.take (k + 1)).all nameB = true by rw [hts, List.all_append, HA.out]; simp [hn])
        clear hts hmem hn HA
        rcases hh with h1 | ⟨h1, h2⟩ | ⟨h1, h2, h3⟩ | ⟨h1, h2, h3, h4⟩ | ⟨h1, h2, h3, h4, h5⟩
        all_goals
          go_wp2_with (first | (go_at_call 83; refine (Ascii.refAlpha_any _ _).mono ?_; rintro e w' ⟨rfl, rfl⟩) | (go_at_call 84; refine (Ascii.refDigit_any _ _).mono ?_; rintro e w' ⟨rfl, rfl⟩))
          go_round
          case rel => exact ⟨k + 1, by omega, by go_num, HN⟩
          case measure => simp [intOf]; omega
      · obtain ⟨b1, b2, b3⟩ := BAD.out (named_bad hmem hn)
        have HX := Lib.hid b2
        have HY := Lib.hid b3
        subst b1
        clear hts hmem hn HA b2 b3 BAD GOOD
        go_wp2_with (first | (go_at_call 83; refine (Ascii.refAlpha_any _ _).mono ?_; rintro e w' ⟨rfl, rfl⟩) | (go_at_call 84; refine (Ascii.refDigit_any _ _).mono ?_; rintro e w' ⟨rfl, rfl⟩))
        exact bodyPost_ret (results_tmp3 rfl _ _ _) rfl ⟨by rw [← HX.out, ← HY.out]; rfl, Below.refl _ _⟩
    · obtain rfl : k = p.size := by omega
      obtain ⟨b1, b2, b3⟩ := GOOD.out hlt (by unfold named; rw [E1.out, HA.out, ← E1.out, HD.out]; rfl)
      have LW := Lib.hid (fun u => refLower_at p (by omega) x b2 u)
      have p1 := P1.out
      subst b1
      clear BAD GOOD HA b2 HD E1 P1
      have hc : Below w.heap.size w w.drew := (Below.refl _ _).drew
      go_wp2
      refine wp_region_held_drew (S := fun _ => True) (by kernel_rfl) trivial (fun _ => ?_)
      refine wpAnyH_take (i := 0) (oi := ⟨some 64, .move (.tmp 0), _, _, _, _⟩) (v := .string s) rfl (by kernel_rfl) (by kernel_rfl) (by kernel_rfl) (fun _ _ _ h => h) (Or.inl ⟨by rfl, ?_⟩) trivial ?_
      · (intro v hv; go_simp)
      simp only [Act.put, List.setIfInBounds_toArray, List.set_cons_zero, List.set_cons_succ]
      refine wpAnyH_take (i := 1) (oi := ⟨some 65, .move (.tmp 5), _, _, _, _⟩) (v := .int .i64 p.size) rfl (by kernel_rfl) (by kernel_rfl) (by kernel_rfl) (fun _ _ _ h => h) (Or.inl ⟨by rfl, ?_⟩) trivial ?_
      · (intro v hv; go_simp)
      simp only [Act.put, List.setIfInBounds_toArray, List.set_cons_zero, List.set_cons_succ]
      refine wpAnyH_take (i := 2) (oi := ⟨some 66, .slice 9 (.tmp 64) none (some (.tmp 65)) none, _, _, _, _⟩) (v := .string p) rfl (by kernel_rfl) (by kernel_rfl) (by kernel_rfl) (fun _ _ _ h => h) (Or.inl ⟨by rfl, ?_⟩) trivial ?_
      · (intro v hv; go_simp)
      simp only [Act.put, List.setIfInBounds_toArray, List.set_cons_zero, List.set_cons_succ]
      refine wpAnyH_take (i := 4) (oi := ⟨some 68, .move (.tmp 0), _, _, _, _⟩) (v := .string s) rfl (by kernel_rfl) (by kernel_rfl) (by kernel_rfl) (fun _ _ _ h => h) (Or.inl ⟨by rfl, ?_⟩) trivial ?_
      · (intro v hv; go_simp)
      simp only [Act.put, List.setIfInBounds_toArray, List.set_cons_zero, List.set_cons_succ]
      refine wpAnyH_take (i := 5) (oi := ⟨some 69, .move (.tmp 5), _, _, _, _⟩) (v := .int .i64 p.size) rfl (by kernel_rfl) (by kernel_rfl) (by kernel_rfl) (fun _ _ _ h => h) (Or.inl ⟨by rfl, ?_⟩) trivial ?_
      · (intro v hv; go_simp)
      simp only [Act.put, List.setIfInBounds_toArray, List.set_cons_zero, List.set_cons_succ]
      refine wpAnyH_take (i := 6) (oi := ⟨some 70, .binOp .add 3 (.tmp 69) (.const (.int .i64 1)) 3, _, _, _, _⟩) (v := .int .i64 ((p.size : Int) + 1)) rfl (by kernel_rfl) (by kernel_rfl) (by kernel_rfl) (fun _ _ _ h => h) (Or.inl ⟨by rfl, ?_⟩) trivial ?_
      · (intro v hv; go_simp; rw [IntKind.wrap_i64]; omega)
      simp only [Act.put, List.setIfInBounds_toArray, List.set_cons_zero, List.set_cons_succ]
      refine wpAnyH_take (i := 7) (oi := ⟨some 71, .slice 9 (.tmp 68) (some (.tmp 70)) none none, _, _, _, _⟩) (v := .string y) rfl (by kernel_rfl) (by kernel_rfl) (by kernel_rfl) (fun _ _ _ h => h) (Or.inl ⟨by rfl, ?_⟩) trivial ?_
      · (intro v hv; go_simp; intro h; exact absurd (h (by omega)) (by omega))
      simp only [Act.put, List.setIfInBounds_toArray, List.set_cons_zero, List.set_cons_succ]
      refine wpAnyH_ready (rs := [3]) (by kernel_rfl) (by simp) ?_
      refine AllReadyH.cons (o := ⟨some 67, .call ⟨.value (.func 85), #[.tmp 66], _⟩, _, _, _, _⟩) rfl (fun K hK => ?_) AllReadyH.nil
      go_simp
      go_at_call 85
      refine (LW.out _).mono ?_
      rintro e v1 ⟨rfl, hB⟩
      refine hK.out _ _ trivial (fun _ => ?_)
      refine wpAnyH_take (i := 8) (oi := ⟨some 2, .assign (.tmp 67), _, _, _, _⟩) (v := .string x) rfl (by kernel_rfl) (by kernel_rfl) (by kernel_rfl) (fun _ _ _ h => h) (Or.inl ⟨by rfl, ?_⟩) trivial ?_
      · (intro v hv; go_simp)
      simp only [Act.put, List.setIfInBounds_toArray, List.set_cons_zero, List.set_cons_succ]
      refine wpAnyH_take (i := 9) (oi := ⟨some 3, .assign (.tmp 71), _, _, _, _⟩) (v := .string y) rfl (by kernel_rfl) (by kernel_rfl) (by kernel_rfl) (fun _ _ _ h => h) (Or.inl ⟨by rfl, ?_⟩) trivial ?_
      · (intro v hv; go_simp)
      simp only [Act.put, List.setIfInBounds_toArray, List.set_cons_zero, List.set_cons_succ]
      refine wpAnyH_take (i := 10) (oi := ⟨some 4, .assign (.const (.bool true)), _, _, _, _⟩) (v := .bool true) rfl (by kernel_rfl) (by kernel_rfl) (by kernel_rfl) (fun _ _ _ h => h) (Or.inl ⟨by rfl, ?_⟩) trivial ?_
      · (intro v hv; go_simp)
      simp only [Act.put, List.setIfInBounds_toArray, List.set_cons_zero, List.set_cons_succ]
      refine wpAnyH_done (by kernel_rfl) ?_ _
      go_wp2
      exact bodyPost_ret (results_tmp3 rfl _ _ _) rfl ⟨rfl, below_trans hc hB⟩



set_option maxRecDepth 100000
theorem dot1_iff (m : T) : Path.rep m = [46] ↔ m = [46] ∨ m = [37, 50, 101] := by
  constructor
  · intro h
    rcases Path.rep_dot h with ⟨u, rfl, hu⟩ | ⟨u, rfl, hu⟩
    · rw [Path.rep_empty hu]; exact .inl rfl
    · rw [Path.rep_empty hu]; exact .inr rfl
  · rintro (rfl | rfl) <;> decide +kernel

theorem dot2_iff (m : T) : Path.rep m = [46, 46] ↔ m = [46, 46] ∨ m = [46, 37, 50, 101] ∨ m = [37, 50, 101, 46] ∨ m = [37, 50, 101, 37, 50, 101] := by
  constructor
  · intro h
    rcases Path.rep_dot h with ⟨u, rfl, hu⟩ | ⟨u, rfl, hu⟩ <;> rcases (dot1_iff u).1 hu with rfl | rfl <;> simp
  · rintro (rfl | rfl | rfl | rfl) <;> decide +kernel

/-! ### tails, Same -/

theorem refReady_at (s : ByteArray) (hs : s.size ≤ 1000000) (set : Int) (b : Bool) (hb : Pct.readyB set s.data.toList = b) (w : World) : Calls Tryz.prog 71 #[.string s, .int .i64 set] w fun e w' => e = .returned (.bool b) ∧ w = w' := by
  subst hb
  exact Pct.refReady_any s (by unfold maxLen; omega) set w

theorem refTails_any (u : U) (pv : Value) (hf : Fit u) (b : Bool) (hb : tailB u = b) (w : World) :
    Calls Tryz.prog 69 #[.agg (cU u pv)] w fun e w' => e = .returned (.bool b) ∧ Below w.heap.size w w' := by
  have h8 := hf.h8
  have HB0 := Lib.hid (show Below w.heap.size w (w.alloc (.cells (cU u pv) 27)) from (Below.refl _ w).alloc (Nat.le_refl _) _)
  have HR := UrlAt.new w u pv
  have c17 := HR.cell 17
  rw [(cU_at u pv h8).2.2.2.2.2.2.2.1] at c17
  have c18 := HR.cell 18
  rw [(cU_at u pv h8).2.2.2.2.2.2.2.2.1] at c18
  have c19 := HR.cell 19
  rw [(cU_at u pv h8).2.2.2.2.2.2.2.2.2.1] at c19
  have c20 := HR.cell 20
  rw [(cU_at u pv h8).2.2.2.2.2.2.2.2.2.2] at c20
  obtain ⟨p, hp⟩ : ∃ p, Pct.readyB 2 u.qry = p := ⟨_, rfl⟩
  obtain ⟨q, hq⟩ : ∃ q, Pct.readyB 1 u.frg = q := ⟨_, rfl⟩
  have R1 := Lib.hid (fun x => refReady_at (tb u.qry) (by rw [tb_size]; exact hf.qry) 2 p hp x)
  have R2 := Lib.hid (fun x => refReady_at (tb u.frg) (by rw [tb_size]; exact hf.frg) 1 q hq x)
  unfold tailB at hb
  rw [hp, hq] at hb
  have e1 : (tb u.qry).toList.isEmpty = u.qry.isEmpty := by rw [Path.tl, tb_list]
  have e2 : (tb u.frg).toList.isEmpty = u.frg.isEmpty := by rw [Path.tl, tb_list]
  rw [← e1, ← e2] at hb
  generalize tb u.qry = Q at c17 R1 hb
  generalize tb u.frg = F at c18 R2 hb
  generalize u.hq = hq1 at c19 hb
  generalize u.hf = hf1 at c20 hb
  clear e1 e2 hp hq hf HR
  subst hb
  go_enter Tryz.func69, Tryz.ntmps69
  go_wp2_with fail
  generalize w.alloc (.cells (cU u pv) 27) = W at HB0 c17 c18 c19 c20 ⊢
  refine (R1.out _).mono ?_
  rintro e u1 ⟨rfl, rfl⟩
  go_wp2_with fail
  refine (R2.out _).mono ?_
  rintro e u1 ⟨rfl, rfl⟩
  cases p <;> cases q <;> cases hq1 <;> cases hf1 <;> cases q3 : Q.toList.isEmpty <;> cases q4 : F.toList.isEmpty
  all_goals
    go_wp2
    go_ret
    exact ⟨by simp only [q3, q4]; rfl, HB0.out⟩



set_option maxRecDepth 100000
set_option maxHeartbeats 8000000 in
theorem refSame_any (a b : U) (pv qv : Value) (ha : a.h.p.length = 8) (hb : b.h.p.length = 8) (r : Bool) (hr : sameU a b = r) (w : World) (hp : Path.Strs w pv a.path) (hq : Path.Strs w qv b.path) :
    Calls Tryz.prog 13 #[.agg (cU a pv), .agg (cU b qv)] w fun e w' => e = .returned (.bool r) ∧ Below w.heap.size w w' := by
  have hs1 : (w.alloc (.cells (cU a pv) 27)).heap.size = w.heap.size + 1 := Array.size_push _
  have hB1 := (Below.refl w.heap.size w).alloc (Nat.le_refl _) (.cells (cU a pv) 27)
  have hB2 := hB1.alloc (Nat.le_trans (Nat.le_succ _) (Nat.le_of_eq hs1.symm)) (.cells (cU b qv) 27)
  have HU := Lib.hid ((UrlAt.new w a pv).past (.cells (cU b qv) 27))
  have HV := Lib.hid (show UrlAt ((w.alloc (.cells (cU a pv) 27)).alloc (.cells (cU b qv) 27)) (w.heap.size + 1) b qv from by rw [← hs1]; exact UrlAt.new _ b qv)
  have HP := Lib.hid (hp.later hB2)
  have HQ := Lib.hid (hq.later hB2)
  have HB2 := Lib.hid hB2
  have CE := Lib.hid (fun v h h' => Path.same_any pv qv a.path b.path v h h')
  rw [show (decide (a.path = b.path)) = (a.path == b.path) by by_cases h : a.path = b.path <;> simp [h]] at CE
  have q1 := beq_tb a.sch b.sch
  have q2 := beq_tb a.usr b.usr
  have q3 := beq_tb a.pas b.pas
  have heq : ∀ v, (Op.equalIn 10000 24 (.agg a.h.cells) (.agg b.h.cells)).run Tryz.prog v = .ok (Host.sameH a.h b.h) v := fun v => Host.eq24 a.h b.h ha hb _ rfl v
  have q7 := beq_tb a.opq b.opq
  have q8 := beq_tb a.qry b.qry
  have q10 := beq_tb a.frg b.frg
  unfold sameU at hr
  subst hr
  generalize (a.sch == b.sch) = s1 at q1 ⊢
  generalize (a.usr == b.usr) = s2 at q2 ⊢
  generalize (a.pas == b.pas) = s3 at q3 ⊢
  generalize Host.sameH a.h b.h = s4 at heq ⊢
  generalize (a.path == b.path) = s6 at CE ⊢
  generalize (a.opq == b.opq) = s7 at q7 ⊢
  generalize (a.qry == b.qry) = s8 at q8 ⊢
  generalize (a.frg == b.frg) = s10 at q10 ⊢
  clear hB1 hB2 hp hq
  have c15 := HU.out.cell 15
  rw [(cU_at a _ ha).2.2.2.2.2.1] at c15
  have d15 := HV.out.cell 15
  rw [(cU_at b _ hb).2.2.2.2.2.1] at d15
  go_enter Tryz.func13, Tryz.ntmps13; simp only [List.append_eq, List.cons_append, List.nil_append]
  go_wp2_with (first | ((with_reducible refine wp_box27 (o := ⟨some 2, .box 27 (.tmp 0), _, _, _, _⟩) ?_ (.tmp 0) ?_ (cU a pv) ?_ ?_); (· rfl); (· rfl); (· rfl); simp only [Act.put, List.setIfInBounds_toArray, List.set_cons_zero, List.set_cons_succ]) | ((with_reducible refine wp_box27 (o := ⟨some 3, .box 27 (.tmp 1), _, _, _, _⟩) ?_ (.tmp 1) ?_ (cU b qv) ?_ ?_); (· rfl); (· rfl); (· rfl); rw [hs1]; simp only [Act.put, List.setIfInBounds_toArray, List.set_cons_zero, List.set_cons_succ]))
  clear c15 d15
  generalize (w.alloc (.cells (cU a pv) 27)).alloc (.cells (cU b qv) 27) = W at HU HV HP HQ HB2 ⊢
  refine (CE.out _ HP.out HQ.out).mono ?_
  rintro e u1 ⟨rfl, hB1⟩
  have HU1 := Lib.hid (HU.out.later hB1)
  have HV1 := Lib.hid (HV.out.later hB1)
  have HB1 := Lib.hid (Ascii.below2 HB2.out hB1)
  clear HU HV HP HQ HB2 hB1 CE
  have c0 := HU1.out.cell 0
  rw [(cU_at a _ ha).1] at c0
  have d0 := HV1.out.cell 0
  rw [(cU_at b _ hb).1] at d0
  have c1 := HU1.out.cell 1
  rw [(cU_at a _ ha).2.1] at c1
  have d1 := HV1.out.cell 1
  rw [(cU_at b _ hb).2.1] at d1
  have c2 := HU1.out.cell 2
  rw [(cU_at a _ ha).2.2.1] at c2
  have d2 := HV1.out.cell 2
  rw [(cU_at b _ hb).2.2.1] at d2
  have c14 := HU1.out.cell 14
  rw [(cU_at a _ ha).2.2.2.2.1] at c14
  have d14 := HV1.out.cell 14
  rw [(cU_at b _ hb).2.2.2.2.1] at d14
  have c16 := HU1.out.cell 16
  rw [(cU_at a _ ha).2.2.2.2.2.2.1] at c16
  have d16 := HV1.out.cell 16
  rw [(cU_at b _ hb).2.2.2.2.2.2.1] at d16
  have c17 := HU1.out.cell 17
  rw [(cU_at a _ ha).2.2.2.2.2.2.2.1] at c17
  have d17 := HV1.out.cell 17
  rw [(cU_at b _ hb).2.2.2.2.2.2.2.1] at d17
  have c18 := HU1.out.cell 18
  rw [(cU_at a _ ha).2.2.2.2.2.2.2.2.1] at c18
  have d18 := HV1.out.cell 18
  rw [(cU_at b _ hb).2.2.2.2.2.2.2.2.1] at d18
  have c19 := HU1.out.cell 19
  rw [(cU_at a _ ha).2.2.2.2.2.2.2.2.2.1] at c19
  have d19 := HV1.out.cell 19
  rw [(cU_at b _ hb).2.2.2.2.2.2.2.2.2.1] at d19
  have c20 := HU1.out.cell 20
  rw [(cU_at a _ ha).2.2.2.2.2.2.2.2.2.2] at c20
  have d20 := HV1.out.cell 20
  rw [(cU_at b _ hb).2.2.2.2.2.2.2.2.2.2] at d20
  cases s6
  · go_wp2_with fail
    go_ret
    exact ⟨by first | rfl | (rw [q5]; rfl) | (rw [q5, q9]; rfl) | (rw [q5, q9, q11]; rfl) | simp [*], HB1.out⟩
  cases s1
  · go_wp2_with fail
    go_ret
    exact ⟨by first | rfl | (rw [q5]; rfl) | (rw [q5, q9]; rfl) | (rw [q5, q9, q11]; rfl) | simp [*], HB1.out⟩
  cases s2
  · go_wp2_with fail
    go_ret
    exact ⟨by first | rfl | (rw [q5]; rfl) | (rw [q5, q9]; rfl) | (rw [q5, q9, q11]; rfl) | simp [*], HB1.out⟩
  cases s3
  · go_wp2_with fail
    go_ret
    exact ⟨by first | rfl | (rw [q5]; rfl) | (rw [q5, q9]; rfl) | (rw [q5, q9, q11]; rfl) | simp [*], HB1.out⟩
  cases s4
  · go_wp2_with (first | ((with_reducible refine wp_load24u (o := ⟨some 35, .load 24 (.tmp 34), _, _, _, _⟩) ?_ (.tmp 34) ?_ w.heap.size ?_ a pv ha HU1.out ?_); (· rfl); (· rfl); (· rfl); simp only [Act.put, List.setIfInBounds_toArray, List.set_cons_zero, List.set_cons_succ]) | ((with_reducible refine wp_load24u (o := ⟨some 37, .load 24 (.tmp 36), _, _, _, _⟩) ?_ (.tmp 36) ?_ (w.heap.size + 1) ?_ b qv hb HV1.out ?_); (· rfl); (· rfl); (· rfl); simp only [Act.put, List.setIfInBounds_toArray, List.set_cons_zero, List.set_cons_succ]))
    go_ret
    exact ⟨by first | rfl | (rw [q5]; rfl) | (rw [q5, q9]; rfl) | (rw [q5, q9, q11]; rfl) | simp [*], HB1.out⟩
  cases q5 : (a.port == b.port)
  · go_wp2_with (first | ((with_reducible refine wp_load24u (o := ⟨some 35, .load 24 (.tmp 34), _, _, _, _⟩) ?_ (.tmp 34) ?_ w.heap.size ?_ a pv ha HU1.out ?_); (· rfl); (· rfl); (· rfl); simp only [Act.put, List.setIfInBounds_toArray, List.set_cons_zero, List.set_cons_succ]) | ((with_reducible refine wp_load24u (o := ⟨some 37, .load 24 (.tmp 36), _, _, _, _⟩) ?_ (.tmp 36) ?_ (w.heap.size + 1) ?_ b qv hb HV1.out ?_); (· rfl); (· rfl); (· rfl); simp only [Act.put, List.setIfInBounds_toArray, List.set_cons_zero, List.set_cons_succ]))
    go_ret
    exact ⟨by first | rfl | (rw [q5]; rfl) | (rw [q5, q9]; rfl) | (rw [q5, q9, q11]; rfl) | simp [*], HB1.out⟩
  cases s7
  · go_wp2_with (first | ((with_reducible refine wp_load24u (o := ⟨some 35, .load 24 (.tmp 34), _, _, _, _⟩) ?_ (.tmp 34) ?_ w.heap.size ?_ a pv ha HU1.out ?_); (· rfl); (· rfl); (· rfl); simp only [Act.put, List.setIfInBounds_toArray, List.set_cons_zero, List.set_cons_succ]) | ((with_reducible refine wp_load24u (o := ⟨some 37, .load 24 (.tmp 36), _, _, _, _⟩) ?_ (.tmp 36) ?_ (w.heap.size + 1) ?_ b qv hb HV1.out ?_); (· rfl); (· rfl); (· rfl); simp only [Act.put, List.setIfInBounds_toArray, List.set_cons_zero, List.set_cons_succ]))
    go_ret
    exact ⟨by first | rfl | (rw [q5]; rfl) | (rw [q5, q9]; rfl) | (rw [q5, q9, q11]; rfl) | simp [*], HB1.out⟩
  cases s8
  · go_wp2_with (first | ((with_reducible refine wp_load24u (o := ⟨some 35, .load 24 (.tmp 34), _, _, _, _⟩) ?_ (.tmp 34) ?_ w.heap.size ?_ a pv ha HU1.out ?_); (· rfl); (· rfl); (· rfl); simp only [Act.put, List.setIfInBounds_toArray, List.set_cons_zero, List.set_cons_succ]) | ((with_reducible refine wp_load24u (o := ⟨some 37, .load 24 (.tmp 36), _, _, _, _⟩) ?_ (.tmp 36) ?_ (w.heap.size + 1) ?_ b qv hb HV1.out ?_); (· rfl); (· rfl); (· rfl); simp only [Act.put, List.setIfInBounds_toArray, List.set_cons_zero, List.set_cons_succ]))
    go_ret
    exact ⟨by first | rfl | (rw [q5]; rfl) | (rw [q5, q9]; rfl) | (rw [q5, q9, q11]; rfl) | simp [*], HB1.out⟩
  cases s10
  · go_wp2_with (first | ((with_reducible refine wp_load24u (o := ⟨some 35, .load 24 (.tmp 34), _, _, _, _⟩) ?_ (.tmp 34) ?_ w.heap.size ?_ a pv ha HU1.out ?_); (· rfl); (· rfl); (· rfl); simp only [Act.put, List.setIfInBounds_toArray, List.set_cons_zero, List.set_cons_succ]) | ((with_reducible refine wp_load24u (o := ⟨some 37, .load 24 (.tmp 36), _, _, _, _⟩) ?_ (.tmp 36) ?_ (w.heap.size + 1) ?_ b qv hb HV1.out ?_); (· rfl); (· rfl); (· rfl); simp only [Act.put, List.setIfInBounds_toArray, List.set_cons_zero, List.set_cons_succ]))
    go_ret
    exact ⟨by first | rfl | (rw [q5]; rfl) | (rw [q5, q9]; rfl) | (rw [q5, q9, q11]; rfl) | simp [*], HB1.out⟩
  cases q9 : (a.hq == b.hq)
  · go_wp2_with (first | ((with_reducible refine wp_load24u (o := ⟨some 35, .load 24 (.tmp 34), _, _, _, _⟩) ?_ (.tmp 34) ?_ w.heap.size ?_ a pv ha HU1.out ?_); (· rfl); (· rfl); (· rfl); simp only [Act.put, List.setIfInBounds_toArray, List.set_cons_zero, List.set_cons_succ]) | ((with_reducible refine wp_load24u (o := ⟨some 37, .load 24 (.tmp 36), _, _, _, _⟩) ?_ (.tmp 36) ?_ (w.heap.size + 1) ?_ b qv hb HV1.out ?_); (· rfl); (· rfl); (· rfl); simp only [Act.put, List.setIfInBounds_toArray, List.set_cons_zero, List.set_cons_succ]))
    go_ret
    exact ⟨by first | rfl | (rw [q5]; rfl) | (rw [q5, q9]; rfl) | (rw [q5, q9, q11]; rfl) | simp [*], HB1.out⟩
  cases q11 : (a.hf == b.hf)
  · go_wp2_with (first | ((with_reducible refine wp_load24u (o := ⟨some 35, .load 24 (.tmp 34), _, _, _, _⟩) ?_ (.tmp 34) ?_ w.heap.size ?_ a pv ha HU1.out ?_); (· rfl); (· rfl); (· rfl); simp only [Act.put, List.setIfInBounds_toArray, List.set_cons_zero, List.set_cons_succ]) | ((with_reducible refine wp_load24u (o := ⟨some 37, .load 24 (.tmp 36), _, _, _, _⟩) ?_ (.tmp 36) ?_ (w.heap.size + 1) ?_ b qv hb HV1.out ?_); (· rfl); (· rfl); (· rfl); simp only [Act.put, List.setIfInBounds_toArray, List.set_cons_zero, List.set_cons_succ]))
    go_ret
    exact ⟨by first | rfl | (rw [q5]; rfl) | (rw [q5, q9]; rfl) | (rw [q5, q9, q11]; rfl) | simp [*], HB1.out⟩
  · go_wp2_with (first | ((with_reducible refine wp_load24u (o := ⟨some 35, .load 24 (.tmp 34), _, _, _, _⟩) ?_ (.tmp 34) ?_ w.heap.size ?_ a pv ha HU1.out ?_); (· rfl); (· rfl); (· rfl); simp only [Act.put, List.setIfInBounds_toArray, List.set_cons_zero, List.set_cons_succ]) | ((with_reducible refine wp_load24u (o := ⟨some 37, .load 24 (.tmp 36), _, _, _, _⟩) ?_ (.tmp 36) ?_ (w.heap.size + 1) ?_ b qv hb HV1.out ?_); (· rfl); (· rfl); (· rfl); simp only [Act.put, List.setIfInBounds_toArray, List.set_cons_zero, List.set_cons_succ]))
    go_ret
    exact ⟨by first | rfl | (rw [q5]; rfl) | (rw [q5, q9]; rfl) | (rw [q5, q9, q11]; rfl) | simp [*], HB1.out⟩



set_option maxRecDepth 100000
def SegSt (S : ByteArray) (L : List T) (k j : Nat) (os : List T) : Prop :=
  (j ≤ S.size ∧ (47 : UInt8) ∉ (S.data.toList.drop k).take (j - k) ∧ os ++ Path.split (Path.enc (S.data.toList.drop k)) = L) ∨ (j = S.size + 1 ∧ os = L)

theorem piece_mid (s : ByteArray) (k j : Nat) : s.extract k j = tb ((s.data.toList.take j).drop k) := by
  apply ByteArray.ext
  apply Array.toList_inj.1
  rw [Ascii.extract_list]; rfl

theorem mid_len (s : ByteArray) (k j : Nat) : (tb ((s.data.toList.take j).drop k)).size ≤ s.size := by
  rw [tb_size, List.length_drop, List.length_take, size_list]; omega

theorem seg_end {S : ByteArray} {L : List T} {k : Nat} {os : List T} (hk : k ≤ S.size) (h : SegSt S L k S.size os) : SegSt S L (S.size + 1) (S.size + 1) (os ++ [Path.enc ((S.data.toList.take S.size).drop k)]) := by
  rcases h with ⟨_, h1, h2⟩ | ⟨h, _⟩
  · refine .inr ⟨rfl, ?_⟩
    have e : S.data.toList.take S.size = S.data.toList := by rw [← size_list, List.take_length]
    rw [e]
    have e2 : (S.data.toList.drop k).take (S.size - k) = S.data.toList.drop k := List.take_of_length_le (by rw [List.length_drop, size_list]; exact Nat.le_refl _)
    rw [e2] at h1
    rw [Path.split_none _ (Path.enc_no _ h1)] at h2
    exact h2
  · omega

theorem seg_cut {S : ByteArray} {L : List T} {k j : Nat} {os : List T} (hk : k ≤ j) (hj : j < S.size) (h : SegSt S L k j os) (hc : S[j] = 47) : SegSt S L (j + 1) (j + 1) (os ++ [Path.enc ((S.data.toList.take j).drop k)]) := by
  rcases h with ⟨_, h1, h2⟩ | ⟨h, _⟩
  · refine .inl ⟨by omega, by simp, ?_⟩
    have e : S.data.toList.drop k = (S.data.toList.drop k).take (j - k) ++ 47 :: S.data.toList.drop (j + 1) := by
      rw [← hc, ← Pct.drop_cons S j hj]
      conv => lhs; rw [← List.take_append_drop (j - k) (S.data.toList.drop k)]
      rw [List.drop_drop, show k + (j - k) = j by omega]
    have e3 : (S.data.toList.take j).drop k = (S.data.toList.drop k).take (j - k) := by rw [List.drop_take]
    rw [e, Path.split_enc_cons _ _ h1] at h2
    rw [e3, List.append_assoc]
    exact h2
  · omega

theorem seg_on {S : ByteArray} {L : List T} {k j : Nat} {os : List T} (hk : k ≤ j) (hj : j < S.size) (h : SegSt S L k j os) (hc : S[j] ≠ 47) : SegSt S L k (j + 1) os := by
  rcases h with ⟨_, h1, h2⟩ | ⟨h, _⟩
  · refine .inl ⟨by omega, ?_, h2⟩
    have hd : (S.data.toList.drop k)[j - k]? = some S[j] := by
      rw [List.getElem?_drop, show k + (j - k) = j by omega]
      exact List.getElem?_eq_getElem (l := S.data.toList) (i := j) hj
    rw [show j + 1 - k = (j - k) + 1 by omega, List.take_add_one, hd]
    intro hm
    rcases List.mem_append.1 hm with hm | hm
    · exact h1 hm
    · simp at hm; exact hc hm.symm
  · omega

end Go.Proofs.YtkhjhiofgoampaaGreatDoor.Url

/-
  url's Scheme, Tail, users, cutPort, port.
-/
import Derived.Test.YtfdhhjigpboieaaGreatDoorUSmall
namespace Go.Proofs.YtfdhhjigpboieaaGreatDoor.Url
open Go.RowKit Go.Shelf
set_option linter.unusedSimpArgs false
set_option linter.unusedVariables false
set_option maxRecDepth 100000

theorem results_tmp5 {fn : Func} {t1 t2 t3 t4 t5 : Tmp} (h : fn.results = #[.tmp t1, .tmp t2, .tmp t3, .tmp t4, .tmp t5]) (tmps : Array Value) (P : Program) (w : World) :
    (results fn tmps).run P w = .ok (.tuple #[tmps.getD t1 undef, tmps.getD t2 undef, tmps.getD t3 undef, tmps.getD t4 undef, tmps.getD t5 undef]) w := by
  simp [results, h]
theorem size_tb {l : T} {x : ByteArray} (h : tb l = x) : x.size = l.length := by rw [← h]; rfl
theorem list_tb {l : T} {x : ByteArray} (h : tb l = x) : x.data.toList = l := by rw [← h]; rfl
theorem lower_at (s : ByteArray) (hs : s.size ≤ 1000000) (x : ByteArray) (hx : tb (Ascii.lower s.data.toList) = x) (w : World) : Calls Tryz.prog 44 #[.string s] w fun e w' => e = .returned (.string x) ∧ Below w.heap.size w w' := by
  subst hx
  exact Ascii.lower_calls s (by unfold maxLen; omega) (by omega) w
theorem scheme_any (s : ByteArray) (hs : s.size ≤ 1000000) (x y : ByteArray) (b : Bool) (hx : tb (schS s.data.toList) = x) (hy : tb (schR s.data.toList) = y) (hb : schB s.data.toList = b) (m : Int) (w : World) (hm : Six.At m w) :
    Calls Tryz.prog 16 #[.string s] w fun e w' => e = .returned (.tuple #[.string x, .string y, .bool b]) ∧ Below w.heap.size w w' := by
  subst hx; subst hy; subst hb
  obtain ⟨p, hp⟩ : ∃ p, tb (bef 58 s.data.toList) = p := ⟨_, rfl⟩
  obtain ⟨q, hq⟩ : ∃ q, tb (aft 58 s.data.toList) = q := ⟨_, rfl⟩
  have hp1 : p.size ≤ 1000000 := by have := bef_len 58 s.data.toList; rw [size_list] at this; rw [size_tb hp]; omega
  have hq1 : q.size ≤ 1000000 := by have := aft_len 58 s.data.toList; rw [size_list] at this; rw [size_tb hq]; omega
  unfold schS schR schB
  rw [← list_tb hp, ← list_tb hq]
  have hcut : ∀ c, s.data.toList.contains 58 = c → ∀ u, Six.At m u → Calls Tryz.prog 42 #[.string s, .string ⟨#[58]⟩] u fun e w' => e = .returned (.tuple #[.string p, .string q, .bool c]) ∧ Below u.heap.size u w' := fun c hc u hu => cut_any 58 s hs p q c hp hq hc m u hu
  generalize s.data.toList.contains 58 = c at hcut ⊢
  have HC := Lib.hid (hcut c rfl)
  clear hcut hp hq hs
  cases c
  · go_enter Tryz.func16, Tryz.ntmps16
    go_wp2_with fail
    refine (HC.out _ hm).mono ?_
    rintro e u1 ⟨rfl, hB1⟩
    go_wp2
    exact bodyPost_ret (results_tmp3 rfl _ _ _) rfl ⟨rfl, hB1⟩
  · obtain ⟨n, hn⟩ : ∃ n, named p.data.toList = n := ⟨_, rfl⟩
    have HN := Lib.hid (named_any p hp1 n hn)
    rw [hn]
    have HL := Lib.hid (lower_at p hp1 _ rfl)
    obtain ⟨L, hL⟩ : ∃ L, tb (Ascii.lower p.data.toList) = L := ⟨_, rfl⟩
    rw [hL] at HL
    have HK := Lib.hid (Host.clone_any q hq1)
    have HT := Lib.hid (show tb q.data.toList = q from tb_of q)
    have HLL := Lib.hid hL
    clear hn hp1 hq1 hL
    cases n
    · go_enter Tryz.func16, Tryz.ntmps16
      go_wp2_with fail
      refine (HC.out _ hm).mono ?_
      rintro e u1 ⟨rfl, hB1⟩
      go_wp2_with fail
      refine (HN.out _).mono ?_
      rintro e u2 ⟨rfl, rfl⟩
      go_wp2
      exact bodyPost_ret (results_tmp3 rfl _ _ _) rfl ⟨rfl, hB1⟩
    · go_enter Tryz.func16, Tryz.ntmps16
      go_wp2_with fail
      refine (HC.out _ hm).mono ?_
      rintro e u1 ⟨rfl, hB1⟩
      go_wp2_with fail
      refine (HN.out _).mono ?_
      rintro e u2 ⟨rfl, rfl⟩
      go_wp2_with fail
      refine (HL.out _).mono ?_
      rintro e u2 ⟨rfl, hB2⟩
      go_wp2_with fail
      refine (HK.out _).mono ?_
      rintro e u3 ⟨rfl, hB3⟩
      go_wp2
      exact bodyPost_ret (results_tmp3 rfl _ _ _) rfl ⟨by rw [HLL.out, HT.out]; rfl, Ascii.below3 hB1 hB2 hB3⟩
theorem tail_any (s : ByteArray) (hs : s.size ≤ 1000000) (x y z : ByteArray) (b c : Bool) (hx : tb (tA s.data.toList) = x) (hy : tb (tQ s.data.toList) = y) (hz : tb (tF s.data.toList) = z) (hb : tHQ s.data.toList = b) (hc : tHF s.data.toList = c)
    (m : Int) (w : World) (hm : Six.At m w) :
    Calls Tryz.prog 18 #[.string s] w fun e w' => e = .returned (.tuple #[.string x, .string y, .string z, .bool b, .bool c]) ∧ Below w.heap.size w w' := by
  obtain ⟨p, hp⟩ : ∃ p, tb (bef 35 s.data.toList) = p := ⟨_, rfl⟩
  have hp1 : p.size ≤ 1000000 := by have := bef_len 35 s.data.toList; rw [size_list] at this; rw [size_tb hp]; omega
  unfold tA tQ tF tHQ tHF at *
  rw [← list_tb hp] at hx hy hb
  have hx1 : x.size ≤ 1000000 := by have := bef_len 63 p.data.toList; rw [size_list] at this; rw [size_tb hx]; omega
  have hy1 : y.size ≤ 1000000 := by have := aft_len 63 p.data.toList; rw [size_list] at this; rw [size_tb hy]; omega
  have hz1 : z.size ≤ 1000000 := by have := aft_len 35 s.data.toList; rw [size_list] at this; rw [size_tb hz]; omega
  have C1 := Lib.hid (fun u hu => cut_any 35 s hs p z c hp hz hc m u hu)
  have C2 := Lib.hid (fun u hu => cut_any 63 p hp1 x y b hx hy hb m u hu)
  have K1 := Lib.hid (Host.clone_any x hx1)
  have K2 := Lib.hid (Host.clone_any y hy1)
  have K3 := Lib.hid (Host.clone_any z hz1)
  clear hp hx hy hz hb hc hp1 hx1 hy1 hz1 hs
  go_enter Tryz.func18, Tryz.ntmps18
  go_wp2_with fail
  refine (C1.out _ hm).mono ?_
  rintro e u1 ⟨rfl, hB1⟩
  go_wp2_with fail
  refine (C2.out _ (hm.later hB1)).mono ?_
  rintro e u2 ⟨rfl, hB2⟩
  go_wp2_with fail
  refine (K1.out _).mono ?_
  rintro e u3 ⟨rfl, hB3⟩
  go_wp2_with fail
  refine (K2.out _).mono ?_
  rintro e u4 ⟨rfl, hB4⟩
  go_wp2_with fail
  refine (K3.out _).mono ?_
  rintro e u5 ⟨rfl, hB5⟩
  go_wp2
  exact bodyPost_ret (results_tmp5 rfl _ _ _) rfl ⟨rfl, Ascii.below2 (Ascii.below4 hB1 hB2 hB3 hB4) hB5⟩

/-! ### an authority -/
theorem piece_to (s : ByteArray) (k : Nat) (hk : k ≤ s.size) : s.extract 0 k = tb (s.data.toList.take k) := by
  apply ByteArray.ext
  apply Array.toList_inj.1
  show _ = s.data.toList.take k
  rw [Ascii.extract_list]; simp
theorem piece_from (s : ByteArray) (k : Nat) (hk : k ≤ s.size) : s.extract k s.size = tb (s.data.toList.drop k) := by
  apply ByteArray.ext
  apply Array.toList_inj.1
  show _ = s.data.toList.drop k
  rw [Ascii.extract_list, ← size_list, List.take_length]

theorem users_any (s : ByteArray) (hs : s.size ≤ 1000000) (x y z : ByteArray) (hx : tb (user s.data.toList) = x) (hy : tb (pass s.data.toList) = y) (hz : tb (place s.data.toList) = z) (m : Int) (w : World) (hm : Six.At m w) :
    Calls Tryz.prog 135 #[.string s] w fun e w' => e = .returned (.tuple #[.string x, .string y, .string z]) ∧ Below w.heap.size w w' := by
  have HL := Lib.hid (fun u => Tryz.strings_LastIndex s ⟨#[64]⟩ (by omega) u)
  rw [show (⟨#[64]⟩ : ByteArray).data.toList = [64] from rfl] at HL
  have hsl : s.data.toList.length = s.size := rfl
  rcases lparted 64 s.data.toList with h | ⟨a, r, h, h1⟩
  · rw [last_no _ h] at HL
    unfold user pass place at *
    rw [lbef_no _ h] at hx hy
    rw [laft_no _ h, tb_of] at hz
    have HX := Lib.hid (show (⟨#[]⟩ : ByteArray) = x from hx)
    have HY := Lib.hid (show (⟨#[]⟩ : ByteArray) = y from hy)
    have HZ := Lib.hid hz
    clear hx hy hz h hsl
    go_enter Tryz.func135, Tryz.ntmps135
    go_wp2_with fail
    refine (HL.out _).mono ?_
    rintro e u1 ⟨rfl, rfl⟩
    go_wp2
    go_ret3
    exact ⟨by rw [← HX.out, ← HY.out, ← HZ.out]; rfl, Below.refl _ _⟩
  · rw [h, last_is a r h1] at HL
    have e1 : lbef 64 s.data.toList = a := by rw [h]; exact lbef_at a r h1
    have e2 : laft 64 s.data.toList = r := by rw [h]; exact laft_at a r h1
    have hla : a.length + 1 + r.length = s.size := by rw [← hsl, h]; simp; omega
    obtain ⟨A, hA⟩ : ∃ A, tb a = A := ⟨_, rfl⟩
    have hA1 : A.size = a.length := size_tb hA
    have p1 : s.extract 0 a.length = A := by rw [piece_to s _ (by omega), h, ← hA]; simp
    have p2 : s.extract (a.length + 1) s.size = z := by
      rw [piece_from s _ (by omega), ← hz]
      unfold place
      rw [e2, h]
      have : (a ++ 64 :: r).drop (a.length + 1) = r := by simp [List.drop_append]
      rw [this]
    unfold user pass at *
    rw [e1, ← list_tb hA] at hx hy
    have C1 := Lib.hid (fun u hu c hc => cut_any 58 A (by omega) x y c hx hy hc m u hu)
    have P1 := Lib.hid p1
    have P2 := Lib.hid p2
    generalize a.length = n at hla P1 P2 HL
    clear hx hy hz h hsl e1 e2 p1 p2 hA hA1 h1
    go_enter Tryz.func135, Tryz.ntmps135
    go_wp2_with fail
    refine (HL.out _).mono ?_
    rintro e u1 ⟨rfl, rfl⟩
    have hP1 := P1.out
    clear P1
    go_wp2_with fail
    refine (C1.out _ hm _ rfl).mono ?_
    rintro e u2 ⟨rfl, hB2⟩
    have hP2 := P2.out
    clear P2
    go_wp2
    go_region
    go_wp2
    go_ret3
    exact ⟨rfl, hB2.drew⟩

theorem hname_take (p : T) : hname p = p.take (inside p + (bef 58 (p.drop (inside p))).length) := by
  unfold hname
  rw [List.take_add, bef_take]
theorem inside_le (p : T) : inside p ≤ p.length := by
  unfold inside
  split
  · exact bef_len _ _
  · omega
/-- cutPort, the place told from which the colon is looked for. -/
theorem cutPort_in (s : ByteArray) (hs : s.size ≤ 1000000) (x y : ByteArray) (k : Nat) (hk : k ≤ s.size) (hx : tb (s.data.toList.take (k + (bef 58 (s.data.toList.drop k)).length)) = x) (hy : tb (aft 58 (s.data.toList.drop k)) = y)
    (c93 : Bool) (i93 : Int) (hp : Lib.hasPrefix s.data.toList [91] = c93) (hi : Lib.index s.data.toList [93] = i93) (hki : (c93 = false ∧ k = 0) ∨ (c93 = true ∧ i93 = -1 ∧ k = 0) ∨ (c93 = true ∧ i93 = k)) (m : Int) (w : World) (hm : Six.At m w) :
    Calls Tryz.prog 136 #[.string s] w fun e w' => e = .returned (.tuple #[.string x, .string y]) ∧ Below w.heap.size w w' := by
  have HP := Lib.hid (fun u => Tryz.strings_HasPrefix s ⟨#[91]⟩ u)
  have HI := Lib.hid (fun u (hu : Six.At m u) => Tryz.strings_Index s ⟨#[93]⟩ m u (by omega) hu.max)
  rw [show (⟨#[91]⟩ : ByteArray).data.toList = [91] from rfl, hp] at HP
  rw [show (⟨#[93]⟩ : ByteArray).data.toList = [93] from rfl, hi] at HI
  obtain ⟨A, hA⟩ : ∃ A, tb (s.data.toList.drop k) = A := ⟨_, rfl⟩
  have hA1 : A.size + k = s.size := by rw [size_tb hA, List.length_drop, size_list]; omega
  have p1 : s.extract k s.size = A := by rw [piece_from s k hk, hA]
  rw [← list_tb hA] at hx hy
  obtain ⟨b, hb⟩ : ∃ b, tb (bef 58 A.data.toList) = b := ⟨_, rfl⟩
  have hb1 : b.size ≤ A.size := by rw [size_tb hb]; exact bef_len _ _
  have p2 : s.extract 0 (k + b.size) = x := by rw [piece_to s _ (by omega), ← hx, size_tb hb]
  have C1 := Lib.hid (fun u hu c hc => cut_any 58 A (by omega) b y c hb hy hc m u hu)
  have P1 := Lib.hid p1
  have P2 := Lib.hid p2
  clear hx hy hp hi p1 p2 hA hb
  have fin : ∀ u, Below w.heap.size w u → True := fun _ _ => trivial
  clear fin
  rcases hki with ⟨rfl, rfl⟩ | ⟨rfl, rfl, rfl⟩ | ⟨rfl, rfl⟩
  · go_enter Tryz.func136, Tryz.ntmps136
    go_wp2_with fail
    refine (HP.out _).mono ?_
    rintro e u1 ⟨rfl, rfl⟩
    have hP1 := P1.out
    clear P1
    go_wp2_with fail
    refine (C1.out _ hm _ rfl).mono ?_
    rintro e u2 ⟨rfl, hB2⟩
    have hP2 := P2.out
    rw [Nat.zero_add] at hP2
    clear P2
    go_wp2
    go_ret2
    exact ⟨rfl, hB2⟩
  · go_enter Tryz.func136, Tryz.ntmps136
    go_wp2_with fail
    refine (HP.out _).mono ?_
    rintro e u1 ⟨rfl, rfl⟩
    go_wp2_with fail
    refine (HI.out _ hm).mono ?_
    rintro e u1 ⟨rfl, rfl⟩
    have hmx : max (-1 : Int) 0 = 0 := by decide
    have hP1 := P1.out
    clear P1
    go_wp2_with fail
    refine (C1.out _ hm _ rfl).mono ?_
    rintro e u2 ⟨rfl, hB2⟩
    have hP2 := P2.out
    rw [Nat.zero_add] at hP2
    clear P2
    go_wp2
    go_ret2
    exact ⟨rfl, hB2⟩
  · go_enter Tryz.func136, Tryz.ntmps136
    go_wp2_with fail
    refine (HP.out _).mono ?_
    rintro e u1 ⟨rfl, rfl⟩
    go_wp2_with fail
    refine (HI.out _ hm).mono ?_
    rintro e u1 ⟨rfl, rfl⟩
    have hP1 := P1.out
    clear P1
    go_wp2_with fail
    refine (C1.out _ hm _ rfl).mono ?_
    rintro e u2 ⟨rfl, hB2⟩
    have hP2 := P2.out
    clear P2
    go_wp2
    go_ret2
    exact ⟨by rw [← hP2]; rfl, hB2⟩
theorem cutPort_any (s : ByteArray) (hs : s.size ≤ 1000000) (x y : ByteArray) (hx : tb (hname s.data.toList) = x) (hy : tb (digs s.data.toList) = y) (m : Int) (w : World) (hm : Six.At m w) :
    Calls Tryz.prog 136 #[.string s] w fun e w' => e = .returned (.tuple #[.string x, .string y]) ∧ Below w.heap.size w w' := by
  rw [hname_take] at hx
  unfold digs at hy
  refine cutPort_in s hs x y (inside s.data.toList) (inside_le _) hx hy _ _ rfl rfl ?_ m w hm
  unfold inside
  cases hp : Lib.hasPrefix s.data.toList [91]
  · exact .inl ⟨rfl, rfl⟩
  · rcases parted 93 s.data.toList with h | ⟨a, r, h, h1⟩
    · exact .inr (.inl ⟨rfl, idx_no _ h, by rw [has_no h]; rfl⟩)
    · refine .inr (.inr ⟨rfl, ?_⟩)
      rw [h, idx_at a r h1, bef_at a r h1, has_yes (by simp)]
      rfl
theorem read_at (s : ByteArray) (hs : s.size ≤ 1000000) (z : Int) (b : Bool) (hz : Deci.readI s.data.toList 65535 = z) (hb : Deci.readB s.data.toList 65535 = b) (w : World) :
    Calls Tryz.prog 166 #[.string s, .int .i64 65535] w fun e w' => e = .returned (.tuple #[.int .i64 z, .bool b]) ∧ Below w.heap.size w w' := by
  subst hz; subst hb
  exact Deci.read_calls s (by unfold maxLen; omega) 65535 (by omega) w
theorem port_yes (c s : ByteArray) (hs : s.size ≤ 1000000) (h : portB s.data.toList = true) (z : Int) (hz : portI c.data.toList s.data.toList = z) (w : World) :
    Calls Tryz.prog 138 #[.string c, .string s] w fun e w' => e = .returned (.int .i64 z) ∧ Below w.heap.size w w' := by
  subst hz
  unfold portB at h
  unfold portI
  rw [← Path.tl s] at h ⊢
  cases q1 : s.toList.isEmpty
  · rw [q1, Bool.false_or] at h
    rw [Path.tl] at h
    have hz : Deci.readI s.data.toList 65535 = (Deci.valN s.data.toList : Int) := by unfold Deci.readI; rw [if_pos h]
    have R := Lib.hid (read_at s hs _ _ hz h)
    have WW := Lib.hid (fun u => web_any c _ rfl u)
    rw [Path.tl]
    generalize (Deci.valN s.data.toList : Int) = n at R ⊢
    generalize webI c.data.toList = v at WW ⊢
    clear h hz hs
    by_cases hn : n = v
    · subst hn
      go_enter Tryz.func138, Tryz.ntmps138
      go_wp2_with fail
      refine (R.out _).mono ?_
      rintro e u1 ⟨rfl, hB1⟩
      go_wp2_with fail
      refine (need_yes _).mono ?_
      rintro e u2 ⟨rfl, rfl⟩
      go_wp2_with fail
      refine (WW.out _).mono ?_
      rintro e u2 ⟨rfl, rfl⟩
      go_wp2
      go_ret
      exact ⟨by simp, hB1⟩
    · have q2 : (n == v) = false := by simpa using hn
      go_enter Tryz.func138, Tryz.ntmps138
      go_wp2_with fail
      refine (R.out _).mono ?_
      rintro e u1 ⟨rfl, hB1⟩
      go_wp2_with fail
      refine (need_yes _).mono ?_
      rintro e u2 ⟨rfl, rfl⟩
      go_wp2_with fail
      refine (WW.out _).mono ?_
      rintro e u2 ⟨rfl, rfl⟩
      go_wp2
      go_ret
      exact ⟨by simp [hn], hB1⟩
  · go_enter Tryz.func138, Tryz.ntmps138
    go_wp2
    go_ret
    exact ⟨by simp, Below.refl _ _⟩
theorem port_no (c s : ByteArray) (hs : s.size ≤ 1000000) (h : portB s.data.toList = false) (w : World) :
    Calls Tryz.prog 138 #[.string c, .string s] w fun e w' => e = gone ∧ Below w.heap.size w w' := by
  unfold portB at h
  rw [Bool.or_eq_false_iff] at h
  have q1 : s.toList.isEmpty = false := by rw [Path.tl]; exact h.1
  have R := Lib.hid (read_at s hs _ _ rfl h.2)
  clear h hs
  go_enter Tryz.func138, Tryz.ntmps138
  go_wp2_with fail
  refine (R.out _).mono ?_
  rintro e u1 ⟨rfl, hB1⟩
  go_wp2_with fail
  refine (need_no _).mono ?_
  rintro e u2 ⟨rfl, rfl⟩
  unfold gone
  go_wp2
  exact ⟨rfl, rfl, hB1⟩
end Go.Proofs.YtfdhhjigpboieaaGreatDoor.Url

/-
  host's small calls.
-/
import Derived.Test.YtidmlhefdjpafaaDoorHFacts
namespace Go.Proofs.YtidmlhefdjpafaaDoor.Host
open Go.RowKit
open Six (arr RowAt zero8)
set_option linter.unusedSimpArgs false
set_option linter.unusedVariables false
/-- A host's cells. -/
def cH (k : Int) (s : ByteArray) (n : Int) (p : List Int) : Array Value := (.int .i64 k :: .string s :: .int .i64 n :: p.map (Value.int .i64)).toArray
/-! ### What a host is, asked of -/
theorem is42 (v : Value) (w : World) : (Instr.typeAssert (.iface 42 v) 40 42 true).run Tryd.prog w = .ok (.tuple #[v, .bool true]) w := by kernel_rfl
theorem is44 (v : Value) (w : World) : (Instr.typeAssert (.iface 44 v) 40 44 true).run Tryd.prog w = .ok (.tuple #[v, .bool true]) w := by kernel_rfl
theorem is46 (v : Value) (w : World) : (Instr.typeAssert (.iface 46 v) 40 46 true).run Tryd.prog w = .ok (.tuple #[v, .bool true]) w := by kernel_rfl
theorem no42_44 (v : Value) (w : World) : (Instr.typeAssert (.iface 44 v) 40 42 true).run Tryd.prog w = .ok (.tuple #[.string ⟨#[]⟩, .bool false]) w := by kernel_rfl
theorem no42_46 (v : Value) (w : World) : (Instr.typeAssert (.iface 46 v) 40 42 true).run Tryd.prog w = .ok (.tuple #[.string ⟨#[]⟩, .bool false]) w := by kernel_rfl
theorem no44_46 (v : Value) (w : World) : (Instr.typeAssert (.iface 46 v) 40 44 true).run Tryd.prog w = .ok (.tuple #[.int .i64 0, .bool false]) w := by kernel_rfl
theorem nil42 (w : World) : (Instr.typeAssert .nilIface 40 42 true).run Tryd.prog w = .ok (.tuple #[.string ⟨#[]⟩, .bool false]) w := by kernel_rfl
theorem nil44 (w : World) : (Instr.typeAssert .nilIface 40 44 true).run Tryd.prog w = .ok (.tuple #[.int .i64 0, .bool false]) w := by kernel_rfl
theorem nil46 (w : World) : (Instr.typeAssert .nilIface 40 46 true).run Tryd.prog w = .ok (.tuple #[.agg (arr zero8), .bool false]) w := by kernel_rfl
theorem size24 : (Tryd.prog.info? 24).map (·.size) = some 11 := by kernel_rfl
theorem cH_size (k : Int) (s : ByteArray) (n : Int) (p : List Int) (h8 : p.length = 8) : (cH k s n p).size = 11 := by simp [cH, h8]
/-- A host as a call's answer. -/
theorem ret_host {fn : Func} {d : Tmp} (h : fn.results = #[.cell d 24]) {tmps : Array Value} {W : World} (g : Nat) (k : Int) (s : ByteArray) (n : Int) (p : List Int) (h8 : p.length = 8) (hp : tmps.getD d undef = .pointer (some ⟨g, 0, none⟩)) (hg : W.heap[g]? = some (.cells (cH k s n p) 24 (0, 0))) :
    (results fn tmps).run Tryd.prog W = .ok (.agg (cH k s n p)) W :=
  results_cell_row h tmps W g 24 (cH k s n p) (0, 0) _ hp hg Tryd.underlying24 rfl (by rw [cH_size _ _ _ _ h8]; exact size24)
set_option maxRecDepth 100000 in
set_option maxHeartbeats 1000000 in
theorem whole_dom (s : ByteArray) (w : World) : Calls Tryd.prog 21 #[.iface 42 (.string s)] w fun e w' => e = .returned (.agg (cH 1 s 0 zero8)) ∧ Below w.heap.size w w' := by
  have a1 := is42 (.string s)
  go_enter Tryd.func21, Tryd.ntmps21
  go_wp2
  exact bodyPost_ret (ret_host Tryd.results21 w.heap.size 1 s 0 zero8 rfl rfl (heap_alloc_new w _)) rfl ⟨rfl, (Below.refl _ w).alloc (Nat.le_refl _) _⟩
set_option maxRecDepth 100000 in
set_option maxHeartbeats 1000000 in
theorem whole_num (n : Int) (w : World) : Calls Tryd.prog 21 #[.iface 44 (.int .i64 n)] w fun e w' => e = .returned (.agg (cH 2 ⟨#[]⟩ n zero8)) ∧ Below w.heap.size w w' := by
  have a1 := is44 (.int .i64 n)
  have a2 := no42_44 (.int .i64 n)
  go_enter Tryd.func21, Tryd.ntmps21
  go_wp2
  exact bodyPost_ret (ret_host Tryd.results21 w.heap.size 2 ⟨#[]⟩ n zero8 rfl rfl (heap_alloc_new w _)) rfl ⟨rfl, (Below.refl _ w).alloc (Nat.le_refl _) _⟩
set_option maxRecDepth 100000 in
set_option maxHeartbeats 1000000 in
theorem whole_six8 (a0 a1 a2 a3 a4 a5 a6 a7 : Int) (w : World) : Calls Tryd.prog 21 #[.iface 46 (.agg #[.int .i64 a0, .int .i64 a1, .int .i64 a2, .int .i64 a3, .int .i64 a4, .int .i64 a5, .int .i64 a6, .int .i64 a7])] w fun e w' => e = .returned (.agg (cH 3 ⟨#[]⟩ 0 [a0, a1, a2, a3, a4, a5, a6, a7])) ∧ Below w.heap.size w w' := by
  have b1 := is46 (.agg #[.int .i64 a0, .int .i64 a1, .int .i64 a2, .int .i64 a3, .int .i64 a4, .int .i64 a5, .int .i64 a6, .int .i64 a7])
  have b2 := no42_46 (.agg #[.int .i64 a0, .int .i64 a1, .int .i64 a2, .int .i64 a3, .int .i64 a4, .int .i64 a5, .int .i64 a6, .int .i64 a7])
  have b3 := no44_46 (.agg #[.int .i64 a0, .int .i64 a1, .int .i64 a2, .int .i64 a3, .int .i64 a4, .int .i64 a5, .int .i64 a6, .int .i64 a7])
  go_enter Tryd.func21, Tryd.ntmps21
  go_wp2
  exact bodyPost_ret (ret_host Tryd.results21 w.heap.size 3 ⟨#[]⟩ 0 [a0, a1, a2, a3, a4, a5, a6, a7] rfl rfl (heap_alloc2_old w _ _)) rfl ⟨rfl, ((Below.refl _ w).alloc (Nat.le_refl _) _).alloc (by simp) _⟩
theorem whole_six (p : List Int) (h8 : p.length = 8) (w : World) : Calls Tryd.prog 21 #[.iface 46 (.agg (arr p))] w fun e w' => e = .returned (.agg (cH 3 ⟨#[]⟩ 0 p)) ∧ Below w.heap.size w w' := by
  match p, h8 with
  | [a0, a1, a2, a3, a4, a5, a6, a7], _ => exact whole_six8 a0 a1 a2 a3 a4 a5 a6 a7 w
/-! ### named -/
theorem byte5 (c : Int) : (Ascii.alphaB c = true) ∨ (Ascii.alphaB c = false ∧ Ascii.digitB c = true) ∨ (Ascii.alphaB c = false ∧ Ascii.digitB c = false ∧ (c != 45) = false) ∨ (Ascii.alphaB c = false ∧ Ascii.digitB c = false ∧ (c != 45) = true ∧ (c != 95) = false) ∨
    (Ascii.alphaB c = false ∧ Ascii.digitB c = false ∧ (c != 45) = true ∧ (c != 95) = true) := by
  cases Ascii.alphaB c
  · cases Ascii.digitB c
    · by_cases h : c = 45
      · exact .inr (.inr (.inl ⟨rfl, rfl, by simp [h]⟩))
      · by_cases h2 : c = 95
        · exact .inr (.inr (.inr (.inl ⟨rfl, rfl, by simpa using h, by simp [h2]⟩)))
        · exact .inr (.inr (.inr (.inr ⟨rfl, rfl, by simpa using h, by simpa using h2⟩)))
    · exact .inr (.inl ⟨rfl, rfl⟩)
  · exact .inl rfl
theorem named5 (c : UInt8) : (namedB c = true ∧ ((Ascii.alphaB (c.toNat : Int) = true) ∨ (Ascii.alphaB (c.toNat : Int) = false ∧ Ascii.digitB (c.toNat : Int) = true) ∨ (Ascii.alphaB (c.toNat : Int) = false ∧ Ascii.digitB (c.toNat : Int) = false ∧ ((c.toNat : Int) != 45) = false) ∨
    (Ascii.alphaB (c.toNat : Int) = false ∧ Ascii.digitB (c.toNat : Int) = false ∧ ((c.toNat : Int) != 45) = true ∧ ((c.toNat : Int) != 95) = false))) ∨
    (namedB c = false ∧ Ascii.alphaB (c.toNat : Int) = false ∧ Ascii.digitB (c.toNat : Int) = false ∧ ((c.toNat : Int) != 45) = true ∧ ((c.toNat : Int) != 95) = true) := by
  unfold namedB
  rcases byte5 (c.toNat : Int) with h | ⟨h1, h2⟩ | ⟨h1, h2, h3⟩ | ⟨h1, h2, h3, h4⟩ | ⟨h1, h2, h3, h4⟩
  · exact .inl ⟨by rw [h]; rfl, .inl h⟩
  · exact .inl ⟨by rw [h1, h2]; rfl, .inr (.inl ⟨h1, h2⟩)⟩
  · refine .inl ⟨?_, .inr (.inr (.inl ⟨h1, h2, h3⟩))⟩
    have e : (c.toNat : Int) = 45 := by simpa using h3
    rw [h1, h2, decide_eq_true e]; rfl
  · refine .inl ⟨?_, .inr (.inr (.inr ⟨h1, h2, h3, h4⟩))⟩
    have e : (c.toNat : Int) = 95 := by simpa using h4
    rw [h1, h2, decide_eq_true e]; simp
  · refine .inr ⟨?_, h1, h2, h3, h4⟩
    have e1 : ¬ (c.toNat : Int) = 45 := by simpa using h3
    have e2 : ¬ (c.toNat : Int) = 95 := by simpa using h4
    rw [h1, h2, decide_eq_false e1, decide_eq_false e2]; rfl
set_option maxRecDepth 100000 in
set_option maxHeartbeats 2000000 in
theorem named_any (s : ByteArray) (hs : s.size ≤ 1000000) (b : Bool) (hb : namedL s.data.toList = b) (w : World) : Calls Tryd.prog 63 #[.string s] w fun e w' => e = .returned (.bool b) ∧ w = w' := by
  have HB := Lib.hid hb
  have HSZ := Lib.hid (show s.data.toList.length = s.size from rfl)
  clear hb
  go_enter Tryd.func63, Tryd.ntmps63
  go_wp2
  go_loop [7] (fun i => ∃ k : Nat, k ≤ s.size ∧ i = .int .i64 k ∧ Hid ((s.data.toList.take k).all namedB = true)) (fun i => s.size - (intOf i).toNat)
  case atStart => exact ⟨0, Nat.zero_le _, rfl, Lib.hid rfl⟩
  case round =>
    obtain ⟨k, hk, rfl, HA⟩ := hrel
    by_cases hlt : k < s.size
    · have t1 : (k : Int) < s.size := by omega
      have hts : s.data.toList.take (k + 1) = s.data.toList.take k ++ [s[k]] := Ascii.take_snoc s k hlt
      have hmem : s[k] ∈ s.data.toList := by
        have : s.data.toList[k]'hlt = s[k] := rfl
        rw [← this]; exact List.getElem_mem _
      rcases named5 s[k] with ⟨hn, hh⟩ | ⟨hn, h1, h2, h3, h4⟩
      · have HN := Lib.hid (show (s.data.toList.take (k + 1)).all namedB = true by rw [hts, List.all_append, HA.out]; simp [hn])
        clear hts hmem hn HA
        rcases hh with h1 | ⟨h1, h2⟩ | ⟨h1, h2, h3⟩ | ⟨h1, h2, h3, h4⟩
        all_goals
          go_wp2_with (first | (go_at_call 76; refine (Ascii.alpha_any _ _).mono ?_; rintro e w' ⟨rfl, rfl⟩) | (go_at_call 50; refine (Ascii.digit_any _ _).mono ?_; rintro e w' ⟨rfl, rfl⟩))
          go_round
          case rel => exact ⟨k + 1, by omega, by go_num, HN⟩
          case measure => simp [intOf]; omega
      · have HF := Lib.hid (show b = false by
          rw [← HB.out]
          unfold namedL
          have : s.data.toList.all namedB = false := by
            cases e : s.data.toList.all namedB
            · rfl
            · rw [List.all_eq_true.1 e _ hmem] at hn; cases hn
          rw [this]; rfl)
        clear hts hmem hn HA
        go_wp2_with (first | (go_at_call 76; refine (Ascii.alpha_any _ _).mono ?_; rintro e w' ⟨rfl, rfl⟩) | (go_at_call 50; refine (Ascii.digit_any _ _).mono ?_; rintro e w' ⟨rfl, rfl⟩))
        go_ret
        exact ⟨congrArg (fun x => Ending.returned (Value.bool x)) HF.out.symm, rfl⟩
    · obtain rfl : k = s.size := by omega
      have HF := Lib.hid (show (!s.toList.isEmpty) = b by
        rw [← HB.out]
        have h := HA.out
        rw [← HSZ.out, List.take_length] at h
        unfold namedL
        rw [h, ByteArray.toList_eq]; rfl)
      clear HA
      go_wp2
      go_ret
      exact ⟨congrArg (fun x => Ending.returned (Value.bool x)) HF.out, rfl⟩
/-! ### a domain's may -/
theorem toList_ba (x : ByteArray) : x.toList = x.data.toList := ByteArray.toList_eq x
theorem ba_eq (x y : ByteArray) : (x.toList == y.toList) = (x.data.toList == y.data.toList) := by rw [toList_ba, toList_ba]
set_option maxRecDepth 100000 in
set_option maxHeartbeats 4000000 in
theorem dmay_any (s : ByteArray) (hs : s.size ≤ 1000000) (b : Bool) (hb : domB s.data.toList = b) (m : Int) (w : World) (hm : Six.At m w) : Calls Tryd.prog 42 #[.string s] w fun e w' => e = .returned (.bool b) ∧ Below w.heap.size w w' := by
  have HB := Lib.hid hb
  have HM := Lib.hid hm
  obtain ⟨x, hx⟩ : ∃ x : ByteArray, (⟨(Ascii.lower s.data.toList).toArray⟩ : ByteArray) = x := ⟨_, rfl⟩
  have cLow := Lib.hid (fun u => Ascii.lower_calls s (by unfold maxLen; omega) (by omega) u)
  rw [hx] at cLow
  obtain ⟨l, hl⟩ : ∃ l, Four.lookB s.data.toList = l := ⟨_, rfl⟩
  have cLook := Lib.hid (fun u => Four.looks_at s hs l hl u)
  have hne : (s.toList == x.toList) = (s.data.toList == Ascii.lower s.data.toList) := by rw [ba_eq, ← hx]
  by_cases h100 : s.size ≤ 100
  · have d1 : decide ((100 : Int) < (s.size : Int)) = false := decide_eq_false (by omega)
    cases heq : (s.data.toList == Ascii.lower s.data.toList)
    · have e1 : (s.toList == x.toList) = false := hne.trans heq
      have HF := Lib.hid (show b = false by rw [← HB.out]; unfold domB; rw [heq]; simp)
      clear hb hm hx hl hne heq
      go_enter Tryd.func42, Tryd.ntmps42
      go_wp2_with fail
      refine (cLow.out _).mono ?_
      rintro e u1 ⟨rfl, hB1⟩
      go_wp2
      go_ret
      exact ⟨congrArg (fun x => Ending.returned (Value.bool x)) HF.out.symm, hB1⟩
    · have e1 : (s.toList == x.toList) = true := hne.trans heq
      have HE := Lib.hid heq
      have HL := Lib.hid hl
      cases l
      · obtain ⟨P, hP⟩ : ∃ P, Lib.splitB ⟨#[46]⟩ 0 (Lib.countB s ⟨#[46]⟩) s = P := ⟨_, rfl⟩
        have hPd : P.map (·.data.toList) = dots s.data.toList := by
          rw [← hP, Lib.splitB_data]
          exact split_dots s.data.toList
        have hPl : P.length = Lib.countB s ⟨#[46]⟩ + 1 := by rw [← hP]; exact Lib.splitB_all ⟨#[46]⟩ (by decide) 0 _ s rfl
        have cSpl := Lib.hid (fun u (hu : Six.At m u) => Tryd.strings_Split s ⟨#[46]⟩ m u (by omega) hu.max (by decide))
        rw [hP, ← hPl] at cSpl
        have hcle : P.length ≤ 200 := by
          rw [hPl]
          have := Lib.countB_le ⟨#[46]⟩ (by decide) s.size s (Nat.le_refl _)
          omega
        have HPd := Lib.hid hPd
        have HFin := Lib.hid (show P.all (fun t => namedL t.data.toList) = b by
          rw [← HB.out]
          unfold domB partsB
          rw [HE.out, HL.out, decide_eq_true (show s.data.toList.length ≤ 100 from h100), ← HPd.out, List.all_map]
          rfl)
        have HPs := Lib.hid (show ∀ t ∈ P, t.size ≤ 1000000 by
          intro t ht
          have h1 : t.data.toList ∈ Lib.splitK [46] 0 (Lib.countB s ⟨#[46]⟩) s.data.toList := by
            rw [← show P.map (·.data.toList) = Lib.splitK [46] 0 (Lib.countB s ⟨#[46]⟩) s.data.toList by rw [← hP, Lib.splitB_data]]
            exact List.mem_map.2 ⟨t, ht, rfl⟩
          have h2 := Four.split_le _ _ _ h1
          have e1 : t.data.toList.length = t.size := rfl
          have e2 : s.data.toList.length = s.size := rfl
          omega)
        clear hb hm hx hl hne heq hP hPd hPl HPd HE HL HB
        go_enter Tryd.func42, Tryd.ntmps42
        go_wp2_with fail
        refine (cLow.out _).mono ?_
        rintro e u1 ⟨rfl, hB1⟩
        have HB1 := Lib.hid hB1
        clear hB1 cLow
        go_wp2_with fail
        refine (cLook.out _).mono ?_
        rintro e u1' ⟨rfl, rfl⟩
        clear cLook
        go_wp2_with fail
        refine (cSpl.out _ (HM.out.later HB1.out)).mono ?_
        rintro e u2 ⟨rfl, hu2⟩
        have HB2 := Lib.hid (show Below u1.heap.size u1 u2 by rw [hu2]; exact (Below.refl _ _).alloc (Nat.le_refl _) _)
        have HC := Lib.hid (show ∀ j (h : j < P.length), u2.cell? ⟨u1.heap.size, j, none⟩ = some (.string P[j]) by
          intro j h
          rw [hu2, World.cell?_alloc_at _ _ _ _ rfl]
          simp [h])
        clear hu2 cSpl HM
        go_wp2
        go_loopw [23] (fun i wr => ∃ k : Nat, k ≤ P.length ∧ i = .int .i64 k ∧ Hid ((P.take k).all (fun t => namedL t.data.toList) = true) ∧ wr = u2) (fun i _ => P.length - (intOf i).toNat)
        case atStart => exact ⟨0, Nat.zero_le _, rfl, Lib.hid rfl, rfl⟩
        case round =>
          obtain ⟨k, hk, rfl, HA, rfl⟩ := hrel
          by_cases hlt : k < P.length
          · have t1 : (k : Int) < P.length := by omega
            have hc := HC.out k hlt
            have hsz := HPs.out P[k] (List.getElem_mem _)
            have hmem : P[k] ∈ P := List.getElem_mem _
            have hts : P.take (k + 1) = P.take k ++ [P[k]] := List.take_succ_eq_append_getElem hlt
            cases hn : namedL P[k].data.toList
            · have HF := Lib.hid (show b = false by
                rw [← HFin.out]
                cases e : P.all (fun t => namedL t.data.toList)
                · rfl
                · rw [List.all_eq_true.1 e _ hmem] at hn; cases hn)
              generalize P[k] = t at hc hn hsz
              have cN := Lib.hid (fun u => named_any t hsz false hn u)
              clear hmem hts hn HA
              go_wp2_with (go_at_call 63; refine (cN.out _).mono ?_; rintro e w' ⟨rfl, rfl⟩)
              go_ret
              exact ⟨congrArg (fun x => Ending.returned (Value.bool x)) HF.out.symm, Ascii.below2 HB1.out HB2.out⟩
            · have HN := Lib.hid (show (P.take (k + 1)).all (fun t => namedL t.data.toList) = true by rw [hts, List.all_append, HA.out]; simp [hn])
              generalize P[k] = t at hc hn hsz
              have cN := Lib.hid (fun u => named_any t hsz true hn u)
              clear hmem hts hn HA
              go_wp2_with (go_at_call 63; refine (cN.out _).mono ?_; rintro e w' ⟨rfl, rfl⟩)
              go_roundw
              case rel => exact ⟨k + 1, by omega, by go_num, HN, by first | trivial | rfl⟩
              case measure => simp [intOf]; omega
          · obtain rfl : k = P.length := by omega
            have HF := Lib.hid (show true = b by
              rw [← HFin.out]
              have h := HA.out
              rw [List.take_length] at h
              exact h.symm)
            clear HA
            go_wp2
            go_ret
            exact ⟨congrArg (fun x => Ending.returned (Value.bool x)) HF.out, Ascii.below2 HB1.out HB2.out⟩
      · have HF := Lib.hid (show b = false by rw [← HB.out]; unfold domB; rw [hl]; simp)
        clear hb hm hx hl hne heq
        go_enter Tryd.func42, Tryd.ntmps42
        go_wp2_with fail
        refine (cLow.out _).mono ?_
        rintro e u1 ⟨rfl, hB1⟩
        go_wp2_with fail
        refine (cLook.out _).mono ?_
        rintro e u1' ⟨rfl, rfl⟩
        go_wp2
        go_ret
        exact ⟨congrArg (fun x => Ending.returned (Value.bool x)) HF.out.symm, hB1⟩
  · have d1 : decide ((100 : Int) < (s.size : Int)) = true := decide_eq_true (by omega)
    have HF := Lib.hid (show b = false by rw [← HB.out]; unfold domB; rw [decide_eq_false (show ¬ s.data.toList.length ≤ 100 from h100)]; rfl)
    clear hb hm hx hl hne
    go_enter Tryd.func42, Tryd.ntmps42
    go_wp2
    go_ret
    exact ⟨congrArg (fun x => Ending.returned (Value.bool x)) HF.out.symm, Below.refl _ _⟩
/-! ### a number's may, the pieces' may, Clone, brackets -/
theorem fits_show (n : Int) : ((⟨(Four.showF n).toArray⟩ : ByteArray).toList.isEmpty) = !Four.fitsB n := by
  rw [toList_ba]
  show (Four.showF n).isEmpty = _
  unfold Four.showF
  cases h : Four.fitsB n
  · rfl
  · have h1 := Four.fitsB_true h
    have h2 := (Four.show4_len n.toNat (by omega)).1
    rw [if_pos rfl]
    cases e : Four.show4 n.toNat with
    | nil => rw [e] at h2; simp at h2
    | cons c r => rfl
theorem nmay_any (n : Int) (b : Bool) (hb : Four.fitsB n = b) (w : World) : Calls Tryd.prog 115 #[.int .i64 n] w fun e w' => e = .returned (.bool b) ∧ Below w.heap.size w w' := by
  obtain ⟨x, hx⟩ : ∃ x : ByteArray, (⟨(Four.showF n).toArray⟩ : ByteArray) = x := ⟨_, rfl⟩
  have hf := fits_show n
  rw [hx, hb] at hf
  have cS := Lib.hid (fun u => Four.showF_at n x hx u)
  clear hx hb
  go_enter Tryd.func115, Tryd.ntmps115
  go_wp2_with fail
  refine (cS.out _).mono ?_
  rintro e u1 ⟨rfl, hB1⟩
  go_wp2
  go_ret
  exact ⟨by simp, hB1⟩
/-- A whole array of another name of the type. -/
theorem load46 (g : Nat) (p : List Int) (h8 : p.length = 8) (t : TypeId) (fr : Nat × Nat) (w : World) (h : w.heap[g]? = some (.cells (arr p) t fr)) : (loadVar 46 ⟨g, 0, none⟩).run Tryd.prog w = .ok (.agg (arr p)) w :=
  run_loadVar_row w g t 46 (arr p) fr _ h Tryd.underlying46 rfl (by rw [Six.arr_size, h8]; kernel_rfl)
theorem pmay_any (p : List Int) (h8 : p.length = 8) (b : Bool) (hb : Six.mayP p = b) (w : World) : Calls Tryd.prog 116 #[.agg (arr p)] w fun e w' => e = .returned (.bool b) ∧ Below w.heap.size w w' := by
  match p, h8 with
  | [a0, a1, a2, a3, a4, a5, a6, a7], h8 =>
  have cM := Lib.hid (fun u => Six.may_any [a0, a1, a2, a3, a4, a5, a6, a7] rfl b hb u)
  have HB := Lib.hid (show Below w.heap.size w (w.alloc (.cells #[.int .i64 a0, .int .i64 a1, .int .i64 a2, .int .i64 a3, .int .i64 a4, .int .i64 a5, .int .i64 a6, .int .i64 a7] 46)) from (Below.refl _ w).alloc (Nat.le_refl _) _)
  clear hb h8
  show Calls Tryd.prog 116 #[.agg #[.int .i64 a0, .int .i64 a1, .int .i64 a2, .int .i64 a3, .int .i64 a4, .int .i64 a5, .int .i64 a6, .int .i64 a7]] w _
  go_enter Tryd.func116, Tryd.ntmps116
  go_wp2_with fail
  refine (cM.out _).mono ?_
  rintro e u1 ⟨rfl, hB1⟩
  go_wp2
  go_ret
  exact ⟨rfl, Ascii.below2 HB.out hB1⟩
theorem clone_any (s : ByteArray) (hs : s.size ≤ 1000000) (w : World) : Calls Tryd.prog 17 #[.string s] w fun e w' => e = .returned (.string s) ∧ Below w.heap.size w w' := by
  have cC := Lib.hid (fun u => Tryd.stringslite_Clone s u (by omega))
  go_enter Tryd.func17, Tryd.ntmps17
  go_wp2_with fail
  refine (cC.out _).mono ?_
  rintro e u1 ⟨rfl, hB1⟩
  go_wp2
  go_ret
  exact ⟨rfl, hB1⟩
/-- Does it begin by [, and end by ]? -/
def brkB (l : List UInt8) : Bool := Lib.hasPrefix l [91] && Lib.hasSuffix l [93]
def inner (l : List UInt8) : List UInt8 := (l.take (l.length - 1)).drop 1
end Go.Proofs.YtidmlhefdjpafaaDoor.Host

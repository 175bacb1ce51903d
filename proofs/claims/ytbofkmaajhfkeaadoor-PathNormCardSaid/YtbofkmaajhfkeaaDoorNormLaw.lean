/-
  PathNorm of layer 8 returns true for every input and leaves its arguments as they were: without dots, twice, is as once; no dots stay; what has none stays; there is something, if there was. Conditions: the two tables of unicode/utf8 lie as their texts lay them (listed by the card), internal/bytealg.MaxLen holds any int.
-/
import Derived.Test.YtbofkmaajhfkeaaDoorCards
import Derived.Test.YtbofkmaajhfkeaaDoorTie
import Derived.WalkKit
import Derived.ProofKit
import Derived.OpenShut
import Derived.ShutString
import Derived.ChangeOld
import Derived.Below
import Derived.Test.YtbofkmaajhfkeaaDoorPaOpen
namespace Go.Proofs.YtbofkmaajhfkeaaDoor.pathNorm
open Go.ChangeShapes Go.WideShapes Go.ChangeAt Go.RowKit
open Go.ChangeMaps (open_string shut_string)
open Go.Shelf
open Go.Proofs.YtbofkmaajhfkeaaDoor.Path
set_option linter.unusedSimpArgs false
set_option linter.unusedVariables false

theorem own : ownKnob Tryd.prog.godebug = none := by kernel_rfl
theorem laidOut : laidOutB Tryd.prog = true := by kernel_rfl

set_option maxRecDepth 100000 in
set_option maxHeartbeats 8000000 in
theorem walk (v0 : Value) (l0 : List T) (a1 : Int) (w1 : (Lit.int .i64 a1).wf = true) (m : Int) (w : World) (hm : MaxAt m w) (h0 : Strs w v0 l0) :
    Calls Tryd.prog 4 #[v0, .int .i64 a1] w fun e w' => e = .returned (.bool true) ∧ Below w.heap.size w w' := by
  have hbd := bounds_i64 w1
  have h0' := h0
  obtain ⟨ax, cx, rfl, g1, g2, _, g4⟩ := h0'
  unfold maxLen at g2
  have G4 := Lib.hid g4
  clear g4
  cases hf : fewB l0
  · have HF := Lib.hid hf
    clear hf
    go_enter Tryd.func4, Tryd.ntmps4
    go_wp2_with fail
    refine (awake_at hm).mono ?_
    rintro e u1 ⟨rfl, hB1⟩
    go_wp2_with fail
    refine (few_any _ l0 u1 (h0.later hB1)).mono ?_
    rintro e u1' ⟨rfl, rfl⟩
    rw [HF.out]
    go_wp2
    go_ret
    exact ⟨rfl, hB1⟩
  obtain ⟨f1, f2⟩ := (few_iff l0).1 hf
  have HF := Lib.hid hf
  have F2 := Lib.hid f2
  have FF := Lib.hid (show ∀ t ∈ l0, t.length ≤ 1000000 from fun t ht => by have := f2 t ht; omega)
  have n1 : (norm [] l0).length ≤ l0.length := by have := norm_len [] l0; simpa using this
  have n2 : ∀ t ∈ norm [] l0, t.length ≤ 300 := norm_mem [] l0 _ (by simp) (by simp) (fun t ht _ => f2 t ht)
  have n3 := norm_dots l0
  have n4 := norm_again l0
  have n5 : (∀ t ∈ l0, dotsN t = 0) → norm [] l0 = l0 := fun h => by rw [norm_plain l0 h]; rfl
  have n6 : ∃ b, decide (0 < (norm [] l0).length) = b ∧ decide (0 < l0.length) = b := by
    by_cases h : l0 = []
    · subst h; exact ⟨false, rfl, rfl⟩
    · exact ⟨true, decide_eq_true (List.length_pos_iff.2 (norm_ne _ _ h)), decide_eq_true (List.length_pos_iff.2 h)⟩
  clear hf f2
  have N5 := Lib.hid n5
  clear n5
  generalize hN : norm [] l0 = N at n1 n2 n3 n4 n6 N5
  have HN := Lib.hid hN
  have N2 := Lib.hid n2
  have NN := Lib.hid (show ∀ t ∈ N, t.length ≤ 1000000 from fun t ht => by have := n2 t ht; omega)
  have N3 := Lib.hid n3
  have N4 := Lib.hid n4
  have N6 := Lib.hid n6
  clear hN n2 n3 n4 n6
  go_enter Tryd.func4, Tryd.ntmps4
  go_wp2_with fail
  refine (awake_at hm).mono ?_
  rintro e u1 ⟨rfl, hB1⟩
  go_wp2_with fail
  refine (few_any _ l0 u1 (h0.later hB1)).mono ?_
  rintro e u1' ⟨rfl, rfl⟩
  rw [HF.out]
  go_wp2_with fail
  refine (norm_any _ l0 (by omega) FF.out m u1 (hm.later hB1) (h0.later hB1)).mono ?_
  rintro e u2 ⟨x, rfl, hx, hB2⟩
  rw [HN.out] at hx
  have hB2' := hB1.trans (hB2.mono hB1.size)
  have hxs := hx
  obtain ⟨ay, cy, rfl, k1, k2, _, k4⟩ := hxs
  unfold maxLen at k2
  have K4 := Lib.hid k4
  clear k4
  go_wp2_with fail
  refine (norm_any _ N (by omega) NN.out m u2 (hm.later hB2') hx).mono ?_
  rintro e u3 ⟨y, rfl, hy, hB3⟩
  rw [N4.out] at hy
  have hB3' := hB2'.trans (hB3.mono hB2'.size)
  have hx3 := hx.later hB3
  have hys := hy
  obtain ⟨az, cz, rfl, _⟩ := hys
  go_wp2_with fail
  refine (same_any _ _ N N u3 hy hx3).mono ?_
  rintro e u4 ⟨rfl, hB4⟩
  rw [show decide (N = N) = true by simp]
  have hB4' := hB3'.trans (hB4.mono hB3'.size)
  have hx4 := hx3.later hB4
  go_wp2_with fail
  refine (same_any _ _ N l0 u4 hx4 (h0.later hB4')).mono ?_
  rintro e u5 ⟨rfl, hB5⟩
  have hB5' := hB4'.trans (hB5.mono hB4'.size)
  have hx5 := hx4.later hB5
  clear hx hx3 hx4 hy
  obtain ⟨sm, hsm⟩ : ∃ b, decide (N = l0) = b := ⟨_, rfl⟩
  rw [hsm]
  have HSM := Lib.hid hsm
  clear hsm
  go_wp2
  go_loopw [10, 11] (fun d i wr => ∃ (k : Nat) (b : Bool), k ≤ l0.length ∧ i = .int .i64 k ∧ d = .bool b ∧ (b = false → ∀ j (hj : j < l0.length), j < k → dotsN l0[j] = 0) ∧ Below u5.heap.size u5 wr) (fun _ i _ => l0.length - (intOf i).toNat)
  case atStart => exact ⟨0, false, Nat.zero_le _, rfl, rfl, fun _ j _ h => absurd h (by omega), Below.refl _ _⟩
  case round =>
    obtain ⟨k, b, hk, rfl, rfl, hall, hB⟩ := hrel
    have HA := Lib.hid hall
    clear hall
    have hBw := hB5'.trans (hB.mono hB5'.size)
    by_cases hlt : k < l0.length
    · cases b
      · obtain ⟨bb, off, rfl, hcell⟩ := G4.out (by intro e; rw [e] at hlt; simp at hlt)
        have g : wr.cell? ⟨bb, off + k, none⟩ = some (.string ⟨(l0[k]).toArray⟩) := (hBw.cell (p := ⟨bb, off + k, none⟩) (World.block_lt_of_cell? _ _ (hcell k hlt))).trans (hcell k hlt)
        have hkc : k < cx := by omega
        have hts := FF.out _ (List.getElem_mem hlt)
        have HNX := Lib.hid (show dotsN l0[k] = 0 → ∀ j (hj : j < l0.length), j < k + 1 → dotsN l0[j] = 0 from fun e j hj hjk => by
          rcases Nat.lt_or_ge j k with h | h
          · exact HA.out rfl j hj h
          · obtain rfl : j = k := by omega
            exact e)
        obtain ⟨t, ht⟩ : ∃ t, l0[k] = t := ⟨_, rfl⟩
        rw [ht] at g hts HNX
        clear hcell ht
        obtain ⟨d, hd⟩ : ∃ d : Nat, dotsN t = d := ⟨_, rfl⟩
        have cd := dots_at t hts d (by rw [hd]) m wr (hm.later hBw)
        rw [hd] at HNX
        clear hd
        rcases Nat.eq_zero_or_pos d with rfl | hp
        · go_wp2_with fail
          refine cd.mono ?_
          rintro e W1 ⟨rfl, hW1⟩
          go_wp2
          go_roundw
          case rel => exact ⟨k + 1, false, by omega, by go_num, rfl, (fun _ => HNX.out trivial), hB.trans (hW1.mono hB.size)⟩
          case measure => simp [intOf]; omega
        · have q2 : decide ((0 : Int) < (d : Int)) = true := decide_eq_true (by omega)
          have q3 : decide (0 < d) = true := decide_eq_true (by omega)
          go_wp2_with fail
          refine cd.mono ?_
          rintro e W1 ⟨rfl, hW1⟩
          go_wp2
          go_roundw
          case rel => exact ⟨k + 1, true, by omega, by go_num, rfl, (fun h => by cases h), hB.trans (hW1.mono hB.size)⟩
          case measure => simp [intOf]; omega
      · go_wp2
        go_roundw
        case rel => exact ⟨k + 1, true, by omega, by go_num, rfl, (fun h => by cases h), hB⟩
        case measure => simp [intOf]; omega
    · obtain rfl : k = l0.length := by omega
      have hor : b = true ∨ (b = false ∧ sm = true) := by
        cases b
        · refine .inr ⟨rfl, ?_⟩
          rw [← HSM.out]
          exact decide_eq_true (N5.out fun t ht => by
            obtain ⟨j, hj, rfl⟩ := List.getElem_of_mem ht
            exact HA.out rfl j hj hj)
        · exact .inl rfl
      have HOR := Lib.hid hor
      clear hor HA
      have q6 : decide (N.length ≤ l0.length) = true := decide_eq_true n1
      obtain ⟨c, qa, qb⟩ := N6.out
      have hmr := hm.later hBw
      have hi : a1 < 0 ∨ (N.length : Int) ≤ a1 ∨ ∃ k : Nat, a1 = (k : Int) ∧ k < N.length := by
        rcases Int.lt_or_le a1 0 with h | h
        · exact .inl h
        · rcases Int.lt_or_le a1 N.length with h' | h'
          · exact .inr (.inr ⟨a1.toNat, by omega, by omega⟩)
          · exact .inr (.inl h')
      rcases hi with hi | hi | ⟨j, rfl, hj⟩
      · have p1 : decide (a1 < 0) = true := decide_eq_true hi
        clear hi
        rcases HOR.out with rfl | ⟨rfl, rfl⟩
        all_goals
          cases c
          all_goals
            go_wp2
            go_ret
            exact ⟨rfl, hBw⟩
      · have p1 : decide (a1 < 0) = false := decide_eq_false (by omega)
        have p2 : decide ((N.length : Int) ≤ a1) = true := decide_eq_true hi
        clear hi
        rcases HOR.out with rfl | ⟨rfl, rfl⟩
        all_goals
          cases c
          all_goals
            go_wp2
            go_ret
            exact ⟨rfl, hBw⟩
      · obtain ⟨bb, off, rfl, hcell⟩ := K4.out (by intro e; rw [e] at hj; simp at hj)
        have hBu := (hB5.mono (Nat.le_refl _))
        have g : wr.cell? ⟨bb, off + j, none⟩ = some (.string ⟨(N[j]).toArray⟩) := by
          have e5 := (hx5.later hB)
          obtain ⟨a', c', e', _, _, _, q4⟩ := e5
          cases e'
          obtain ⟨b', o', e'', hc'⟩ := q4 (by intro e; rw [e] at hj; simp at hj)
          cases e''
          exact hc' j hj
        have hjc : j < cy := by omega
        have p2 : decide (N.length ≤ j) = false := decide_eq_false (by omega)
        have hts := NN.out _ (List.getElem_mem hj)
        have hd := N3.out _ (List.getElem_mem hj)
        obtain ⟨t, ht⟩ : ∃ t, N[j] = t := ⟨_, rfl⟩
        rw [ht] at g hts hd
        clear hcell ht
        have cd := dots_at t hts 0 (by rw [hd]; rfl) m wr hmr
        clear hd
        rcases HOR.out with rfl | ⟨rfl, rfl⟩
        all_goals
          cases c
          all_goals
            go_wp2_with fail
            refine cd.mono ?_
            rintro e W1 ⟨rfl, hW1⟩
            have hBW := hBw.trans (hW1.mono hBw.size)
            go_wp2
            go_ret
            exact ⟨rfl, hBW⟩

/-! ### The row's step -/
theorem reads (os : Os) {H : Type} (enc : TypeId × Value → H) : (DataW.whole enc Tryd.prog ((Card.laidWorld os).forCall (fun _ _ => 0) ⟨#[], #[.slice none 0 0, .int .i64 0], []⟩).memory Tryd.f4.params.toList Rows.pathNormSpec.vars false (#[.slice none 0 0, .int .i64 0] : Array Value).toList 8).map (fun x => (x.1, x.2.1)) = some ([.nil, .lit (.int .i64 0)], []) := by kernel_rfl
set_option maxRecDepth 100000 in
theorem lifted (os : Os) (started : os.Started) (H : Type) (enc : TypeId × Value → H) (F : Stop.Interp) :
    ReturnsInHanded {} Tryd.checked os 4 .any ((OpenSpec.ofChange Rows.pathNormSpec).preRow enc Tryd.prog Tryd.f4 Rows.pathNormRow.domain false Rows.pathNormRow.laid) (((OpenSpec.ofChange Rows.pathNormSpec).at F).post enc Tryd.prog Tryd.f4 false true false false) := by
  obtain ⟨⟨x1, x2, x3⟩, hx, hx1⟩ := Option.map_eq_some_iff.1 (reads os enc)
  simp only [Prod.mk.injEq] at hx1
  obtain ⟨rfl, rfl⟩ := hx1
  refine returnsInHanded_of_row (C := Tryd.checked) (s := OpenSpec.ofChange Rows.pathNormSpec) own started (by kernel_rfl) Tryd.func4
    (witness_row_at (enc := enc) (C := Tryd.checked) false (Card.laidWorld os) #[.slice none 0 0, .int .i64 0] rfl (by kernel_rfl) (by kernel_rfl) (by kernel_rfl)
      (OpenSpec.preRow_of_cond 8 hx (by kernel_rfl) (fun k hk => by cases hk) (by kernel_rfl) (Card.laid_met os _))) ?_
  intro W base args ds gs before hval0 hW _ _ _ hL hsh _
  obtain ⟨m, hm⟩ := Card.maxLen_int hsh
  have hval : ∀ (j : Nat) t v, Tryd.f4.params[j]? = some t → args[j]? = some v → Value.okWide Tryd.prog W .any base t v := hval0
  have hW' := hW
  obtain ⟨p, q, hA0, hV, rfl, hfz, hnd⟩ := hW
  have hA : DataW.TrodAll enc Tryd.prog W 0 (fun _ => true) true Tryd.f4.params.toList args.toList ds p := hA0
  rw [Tryd.params4] at hA hval
  obtain ⟨v0, vs0, d0, ds0, p0, q0, hargs0, rfl, rfl, t0, r0⟩ := trodAll_cons hA
  obtain ⟨v1, vs1, d1, ds1, p1, q1, hargs1, rfl, rfl, t1, r1⟩ := trodAll_cons r0
  obtain ⟨rfl, rfl, rfl⟩ := trodAll_nil r1
  obtain rfl : args = #[v0, v1] := by cases args; simp_all
  obtain ⟨rfl, rfl⟩ := trodVars_none hV
  obtain ⟨a0, len0, cap0, rfl⟩ := okWide_slice Tryd.underlying22 (hval 0 22 v0 rfl rfl)
  have k0 := t0
  have lt0 : ∀ x ∈ p0, x.block < W.heap.size := by obtain ⟨m, hm⟩ := k0; exact DataW.trod_lt m _ _ _ hm
  obtain ⟨z0, w0⟩ := Path.open_texts t0
  obtain ⟨a1, rfl, rfl, rfl, w1⟩ := open_int Tryd.underlying3 (hval 1 3 v1 rfl rfl) t1
  clear hA0 hval0
  simp only [List.append_nil] at hW'
  refine (walk (.slice a0 len0 cap0) z0 a1 w1 m W hm w0).mono fun e W' ⟨he, bel⟩ => ?_
  subst he
  exact ⟨_, rfl, _, _, _, [], _, [], hW', trodAll_mk1 (shut_bool Tryd.underlying4 _), (trodAll_cons_mk (Below.trod laidOut (by kernel_rfl) (of_decide_eq_true (by kernel_rfl)) k0 bel lt0) (trodAll_cons_mk (shut_int Tryd.underlying3 w1) trodAll_mk0)), rfl, bel.frame _, fun h => by cases h⟩

theorem said : Rows.pathNormRow.holds Tryd.pinned (OpenSpec.ofChange Rows.pathNormSpec) :=
  OpenClaim.holds_of_cond 4 Tryd.f4 rfl rfl rfl rfl rfl rfl rfl ⟨rfl, rfl, rfl, rfl, rfl⟩ rfl rfl rfl rfl rfl (by kernel_rfl) Tryd.func4 (by kernel_rfl)
    (of_decide_eq_true (by kernel_rfl)) (by unfold Func.isWrapper; first | (rw [if_pos (by decide +kernel)]; kernel_rfl) | (rw [if_neg (by decide +kernel)]; exact ⟨rfl, rfl⟩))
    (fun os started H enc _ F => by rw [OpenClaim.pre_eq_preRow]; exact lifted os started H enc F)

/-- No parameter wants a stand-in; the program's own looks are off. -/
theorem plain (f : FuncId) (fn : Func) (hf : Tryd.pinned.checked.prog.funcNamed Rows.pathNormRow.func = some f) (hfn : Tryd.pinned.checked.prog.funcs[f]? = some fn) :
    false = Tryd.pinned.checked.prog.looks [] ∧ ∀ (j : Nat) t, fn.params[j]? = some t → Tryd.pinned.checked.prog.wantsStandIn t = false := by
  obtain rfl : f = 4 := Option.some.inj ((show Tryd.prog.funcNamed Rows.pathNormRow.func = some 4 by kernel_rfl).symm.trans hf) |>.symm
  obtain rfl : fn = Tryd.f4 := (Option.some.inj (Tryd.func4.symm.trans hfn)).symm
  refine ⟨by kernel_rfl, fun j t ht => ?_⟩
  rw [Tryd.params4] at ht
  obtain rfl | rfl : t = 22 ∨ t = 3 := by simpa using Array.mem_of_getElem? ht
  · exact (show Tryd.prog.wantsStandIn 22 = false by kernel_rfl)
  · exact (show Tryd.prog.wantsStandIn 3 = false by kernel_rfl)

/-- The statement: the card. -/
theorem proved : Rows.PathNormCardSaid :=
  Claim7.holds_tied_plain_at .later [] _ _ _ _ said (fun _ h => by cases h) (by kernel_rfl) (fun _ h => by cases h) pathNorm_row_tie rfl ⟨rfl, rfl⟩ (by kernel_rfl) rfl plain (by kernel_rfl)
#print axioms proved
end Go.Proofs.YtbofkmaajhfkeaaDoor.pathNorm

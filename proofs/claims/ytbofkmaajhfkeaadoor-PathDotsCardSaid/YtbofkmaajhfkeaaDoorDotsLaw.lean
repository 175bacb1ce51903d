/-
  PathDots of layer 8 returns true for every input and leaves its arguments as they were: one dot, in each of its forms, and another one behind it, are two dots; with a third one, or another byte, behind it a segment is no dots. Conditions: the two tables of unicode/utf8 lie as their texts lay them (listed by the card), internal/bytealg.MaxLen holds any int.
-/
import Derived.Test.YtbofkmaajhfkeaaDoorCards
import Derived.Test.YtbofkmaajhfkeaaDoorTie
import Derived.WalkKit
import Derived.ProofKit
import Derived.OpenShut
import Derived.ShutString
import Derived.ChangeOld
import Derived.Below
import Derived.Test.YtbofkmaajhfkeaaDoorPaOpen
namespace Go.Proofs.YtbofkmaajhfkeaaDoor.pathDots
open Go.ChangeShapes Go.WideShapes Go.ChangeAt Go.RowKit
open Go.ChangeMaps (open_string shut_string)
open Go.Shelf
open Go.Proofs.YtbofkmaajhfkeaaDoor.Path
set_option linter.unusedSimpArgs false
set_option linter.unusedVariables false

theorem own : ownKnob Tryd.prog.godebug = none := by kernel_rfl
theorem laidOut : laidOutB Tryd.prog = true := by kernel_rfl

theorem toListNil (s : ByteArray) (h : s.data.toList = []) : s = ⟨#[]⟩ := by
  rw [← tx_of s, h]
theorem long_any (a0 : ByteArray) (a1 : Int) (h : 100 < a0.size) (w0 : a0.size ≤ 9223372036854775807) (m : Int) (w : World) (hm : MaxAt m w) :
    Calls Tryd.prog 7 #[.string a0, .int .u8 a1] w fun e w' => e = .returned (.bool true) ∧ Below w.heap.size w w' := by
  have q : decide ((100 : Int) < (a0.size : Int)) = true := decide_eq_true (by omega)
  go_enter Tryd.func7, Tryd.ntmps7
  go_wp2_with fail
  refine (awake_at hm).mono ?_
  rintro e u1 ⟨rfl, hB1⟩
  go_wp2
  go_ret
  exact ⟨rfl, hB1⟩
set_option maxRecDepth 100000 in
set_option maxHeartbeats 8000000 in
theorem short_any (a0 : ByteArray) (x : UInt8) (h : a0.size ≤ 100) (n mo he la : Nat) (hn : dotsN a0.data.toList = n) (hmo : dotsN (a0.data.toList ++ [46]) = mo) (hhe : dotsN (a0.data.toList ++ [37, 50, 69]) = he) (hla : dotsN (a0.data.toList ++ [x]) = la)
    (ways : (a0.data.toList = [] ∧ n = 0 ∧ mo = 1 ∧ he = 1) ∨ (a0.data.toList ≠ [] ∧ n = 1 ∧ mo = 2 ∧ he = 2) ∨ (a0.data.toList ≠ [] ∧ n = 0) ∨ (a0.data.toList ≠ [] ∧ n = 2 ∧ mo = 0))
    (ends : x = 46 ∨ x = 37 ∨ x = 101 ∨ x = 69 ∨ (x ≠ 46 ∧ x ≠ 37 ∧ x ≠ 101 ∧ x ≠ 69 ∧ la = 0)) (m : Int) (w : World) (hm : MaxAt m w) :
    Calls Tryd.prog 7 #[.string a0, .int .u8 (x.toNat : Int)] w fun e w' => e = .returned (.bool true) ∧ Below w.heap.size w w' := by
  have q : decide ((100 : Int) < (a0.size : Int)) = false := decide_eq_false (by omega)
  have c1 := fun u (hu : MaxAt m u) => dots_any a0 (by omega) m u hu
  have c2 := fun u (hu : MaxAt m u) => dots_any (a0 ++ ⟨#[46]⟩) (by rw [ByteArray.size_append, show (⟨#[46]⟩ : ByteArray).size = 1 from rfl]; omega) m u hu
  have c3 := fun u (hu : MaxAt m u) => dots_any (a0 ++ ⟨#[37, 50, 69]⟩) (by rw [ByteArray.size_append, show (⟨#[37, 50, 69]⟩ : ByteArray).size = 3 from rfl]; omega) m u hu
  have c4 := fun u (hu : MaxAt m u) => dots_any (a0 ++ ⟨#[x]⟩) (by rw [ByteArray.size_append, show (⟨#[x]⟩ : ByteArray).size = 1 from rfl]; omega) m u hu
  rw [text_append, show (⟨#[46]⟩ : ByteArray).data.toList = [46] from rfl, hmo] at c2
  rw [text_append, show (⟨#[37, 50, 69]⟩ : ByteArray).data.toList = [37, 50, 69] from rfl, hhe] at c3
  rw [text_append, show (⟨#[x]⟩ : ByteArray).data.toList = [x] from rfl, hla] at c4
  rw [hn] at c1
  have C1 := Lib.hid c1
  have C2 := Lib.hid c2
  have C3 := Lib.hid c3
  have C4 := Lib.hid c4
  have WAYS := Lib.hid ways
  have ENDS := Lib.hid ends
  clear c1 c2 c3 c4 hn hmo hhe hla ways ends
  go_enter Tryd.func7, Tryd.ntmps7
  go_wp2_with fail
  refine (awake_at hm).mono ?_
  rintro e u1 ⟨rfl, hB1⟩
  go_wp2_with fail
  refine (C1.out u1 (hm.later hB1)).mono ?_
  rintro e u2 ⟨rfl, hB2⟩
  have hB2' := hB1.trans (hB2.mono hB1.size)
  clear hB1 hB2 C1
  go_wp2_with fail
  refine (C2.out u2 (hm.later hB2')).mono ?_
  rintro e u3 ⟨rfl, hB3⟩
  have hB3' := hB2'.trans (hB3.mono hB2'.size)
  clear hB2' hB3 C2
  go_wp2_with fail
  refine (C3.out u3 (hm.later hB3')).mono ?_
  rintro e u4 ⟨rfl, hB4⟩
  have hB4' := hB3'.trans (hB4.mono hB3'.size)
  clear hB3' hB4 C3
  have kc := Pct.one_conv u4 x
  have hlast := (hB4'.alloc hB4'.size (.cells #[.int .u8 (x.toNat : Int)] 5))
  have cl := C4.out _ (hm.later hlast)
  clear C4
  have hx1 : a0.toList = a0.data.toList := tl a0
  have hne : a0.data.toList ≠ [] → a0.toList.isEmpty = false := fun h => by
    rw [hx1]; cases e : a0.data.toList with
    | nil => exact absurd e h
    | cons => rfl
  have hem : a0.data.toList = [] → a0.toList.isEmpty = true := fun h => by rw [hx1, h]; rfl
  have HNE := Lib.hid hne
  have HEM := Lib.hid hem
  clear hx1 hne hem
  have ne (y : UInt8) (h : x ≠ y) : ((x.toNat : Int) == (y.toNat : Int)) = false := by
    rw [beq_eq_false_iff_ne]
    intro e
    exact h (UInt8.toNat_inj.1 (by omega))
  have NE := Lib.hid ne
  clear ne
  rcases ENDS.out with h | h | h | h | ⟨y1, y2, y3, y4, rfl⟩
  · have p1 : ((x.toNat : Int) == 46) = true := by rw [h]; rfl
    have p2 : ((x.toNat : Int) != 46) = false := by rw [h]; rfl
    clear h ENDS kc cl hlast NE
    rcases WAYS.out with ⟨h, rfl, rfl, rfl⟩ | ⟨h, rfl, rfl, rfl⟩ | ⟨h, rfl⟩ | ⟨h, rfl, rfl⟩
    · have k1 := HEM.out h
      clear h WAYS
      go_wp2
      go_ret
      exact ⟨rfl, hB4'⟩
    all_goals
      have k1 := HNE.out h
      clear h WAYS
      go_wp2
      go_ret
      exact ⟨rfl, hB4'⟩
  · have p1 : ((x.toNat : Int) == 46) = false := by rw [h]; rfl
    have p2 : ((x.toNat : Int) != 46) = true := by rw [h]; rfl
    have p3 : ((x.toNat : Int) == 37) = true := by rw [h]; rfl
    have p4 : ((x.toNat : Int) != 37) = false := by rw [h]; rfl
    clear h ENDS kc cl hlast NE
    rcases WAYS.out with ⟨h, rfl, rfl, rfl⟩ | ⟨h, rfl, rfl, rfl⟩ | ⟨h, rfl⟩ | ⟨h, rfl, rfl⟩
    · have k1 := HEM.out h
      clear h WAYS
      go_wp2
      go_ret
      exact ⟨rfl, hB4'⟩
    all_goals
      have k1 := HNE.out h
      clear h WAYS
      go_wp2
      go_ret
      exact ⟨rfl, hB4'⟩
  · have p1 : ((x.toNat : Int) == 46) = false := by rw [h]; rfl
    have p2 : ((x.toNat : Int) != 46) = true := by rw [h]; rfl
    have p3 : ((x.toNat : Int) == 37) = false := by rw [h]; rfl
    have p4 : ((x.toNat : Int) != 37) = true := by rw [h]; rfl
    have p5 : ((x.toNat : Int) == 101) = true := by rw [h]; rfl
    clear h ENDS NE
    rcases WAYS.out with ⟨h, rfl, rfl, rfl⟩ | ⟨h, rfl, rfl, rfl⟩ | ⟨h, rfl⟩ | ⟨h, rfl, rfl⟩
    · have k1 := HEM.out h
      clear h WAYS
      go_wp2_with fail
      refine cl.mono ?_
      rintro e W ⟨rfl, hW⟩
      have hBW := hlast.trans (hW.mono hlast.size)
      clear cl kc hlast hW
      go_wp2
      all_goals (go_ret; exact ⟨rfl, hBW⟩)
    all_goals
      have k1 := HNE.out h
      clear h WAYS
      go_wp2_with fail
      refine cl.mono ?_
      rintro e W ⟨rfl, hW⟩
      have hBW := hlast.trans (hW.mono hlast.size)
      clear cl kc hlast hW
      go_wp2
      all_goals (go_ret; exact ⟨rfl, hBW⟩)
  · have p1 : ((x.toNat : Int) == 46) = false := by rw [h]; rfl
    have p2 : ((x.toNat : Int) != 46) = true := by rw [h]; rfl
    have p3 : ((x.toNat : Int) == 37) = false := by rw [h]; rfl
    have p4 : ((x.toNat : Int) != 37) = true := by rw [h]; rfl
    have p5 : ((x.toNat : Int) == 101) = false := by rw [h]; rfl
    have p6 : ((x.toNat : Int) == 69) = true := by rw [h]; rfl
    clear h ENDS NE
    rcases WAYS.out with ⟨h, rfl, rfl, rfl⟩ | ⟨h, rfl, rfl, rfl⟩ | ⟨h, rfl⟩ | ⟨h, rfl, rfl⟩
    · have k1 := HEM.out h
      clear h WAYS
      go_wp2_with fail
      refine cl.mono ?_
      rintro e W ⟨rfl, hW⟩
      have hBW := hlast.trans (hW.mono hlast.size)
      clear cl kc hlast hW
      go_wp2
      all_goals (go_ret; exact ⟨rfl, hBW⟩)
    all_goals
      have k1 := HNE.out h
      clear h WAYS
      go_wp2_with fail
      refine cl.mono ?_
      rintro e W ⟨rfl, hW⟩
      have hBW := hlast.trans (hW.mono hlast.size)
      clear cl kc hlast hW
      go_wp2
      all_goals (go_ret; exact ⟨rfl, hBW⟩)
  · have p1 : ((x.toNat : Int) == 46) = false := NE.out 46 y1
    have p2 : ((x.toNat : Int) != 46) = true := by rw [bne, p1]; rfl
    have p3 : ((x.toNat : Int) == 37) = false := NE.out 37 y2
    have p4 : ((x.toNat : Int) != 37) = true := by rw [bne, p3]; rfl
    clear y1 y2 y3 y4 ENDS NE
    rcases WAYS.out with ⟨h, rfl, rfl, rfl⟩ | ⟨h, rfl, rfl, rfl⟩ | ⟨h, rfl⟩ | ⟨h, rfl, rfl⟩
    · have k1 := HEM.out h
      clear h WAYS
      go_wp2_with fail
      refine cl.mono ?_
      rintro e W ⟨rfl, hW⟩
      have hBW := hlast.trans (hW.mono hlast.size)
      clear cl kc hlast hW
      go_wp2
      all_goals (go_ret; exact ⟨rfl, hBW⟩)
    all_goals
      have k1 := HNE.out h
      clear h WAYS
      go_wp2_with fail
      refine cl.mono ?_
      rintro e W ⟨rfl, hW⟩
      have hBW := hlast.trans (hW.mono hlast.size)
      clear cl kc hlast hW
      go_wp2
      all_goals (go_ret; exact ⟨rfl, hBW⟩)
set_option maxHeartbeats 1000000 in
theorem walk (a0 : ByteArray) (a1 : Int) (w0 : a0.size ≤ maxLen) (w1 : (Lit.int .u8 a1).wf = true) (m : Int) (w : World) (hm : MaxAt m w) :
    Calls Tryd.prog 7 #[.string a0, .int .u8 a1] w fun e w' => e = .returned (.bool true) ∧ Below w.heap.size w w' := by
  unfold maxLen at w0
  rcases Nat.lt_or_ge 100 a0.size with h | h
  · exact long_any a0 a1 h w0 m w hm
  obtain ⟨x, rfl⟩ := Pct.byte_of w1
  refine short_any a0 x h _ _ _ _ rfl rfl rfl rfl ?_ ?_ m w hm
  · by_cases e : a0.data.toList = []
    · rw [e]
      exact .inl ⟨rfl, by decide +kernel, by decide +kernel, by decide +kernel⟩
    · have hle := dots_le a0.data.toList
      rcases (show dotsN a0.data.toList = 0 ∨ dotsN a0.data.toList = 1 ∨ dotsN a0.data.toList = 2 by omega) with h0 | h1 | h2
      · exact .inr (.inr (.inl ⟨e, h0⟩))
      · obtain ⟨p1, p2⟩ := dots_more a0.data.toList (.inr h1)
        exact .inr (.inl ⟨e, h1, by omega, by omega⟩)
      · exact .inr (.inr (.inr ⟨e, h2, dots_third _ h2⟩))
  · by_cases e1 : x = 46
    · exact .inl e1
    by_cases e2 : x = 37
    · exact .inr (.inl e2)
    by_cases e3 : x = 101
    · exact .inr (.inr (.inl e3))
    by_cases e4 : x = 69
    · exact .inr (.inr (.inr (.inl e4)))
    exact .inr (.inr (.inr (.inr ⟨e1, e2, e3, e4, dots_other _ x e1 e3 e4⟩)))

/-! ### The row's step -/
theorem reads (os : Os) {H : Type} (enc : TypeId × Value → H) : (DataW.whole enc Tryd.prog ((Card.laidWorld os).forCall (fun _ _ => 0) ⟨#[], #[.string ByteArray.empty, .int .u8 0], []⟩).memory Tryd.f7.params.toList Rows.pathDotsSpec.vars false (#[.string ByteArray.empty, .int .u8 0] : Array Value).toList 8).map (fun x => (x.1, x.2.1)) = some ([.lit (.string []), .lit (.int .u8 0)], []) := by kernel_rfl
set_option maxRecDepth 100000 in
theorem lifted (os : Os) (started : os.Started) (H : Type) (enc : TypeId × Value → H) (F : Stop.Interp) :
    ReturnsInHanded {} Tryd.checked os 7 .any ((OpenSpec.ofChange Rows.pathDotsSpec).preRow enc Tryd.prog Tryd.f7 Rows.pathDotsRow.domain false Rows.pathDotsRow.laid) (((OpenSpec.ofChange Rows.pathDotsSpec).at F).post enc Tryd.prog Tryd.f7 false true false false) := by
  obtain ⟨⟨x1, x2, x3⟩, hx, hx1⟩ := Option.map_eq_some_iff.1 (reads os enc)
  simp only [Prod.mk.injEq] at hx1
  obtain ⟨rfl, rfl⟩ := hx1
  refine returnsInHanded_of_row (C := Tryd.checked) (s := OpenSpec.ofChange Rows.pathDotsSpec) own started (by kernel_rfl) Tryd.func7
    (witness_row_at (enc := enc) (C := Tryd.checked) false (Card.laidWorld os) #[.string ByteArray.empty, .int .u8 0] rfl (by kernel_rfl) (by kernel_rfl) (by kernel_rfl)
      (OpenSpec.preRow_of_cond 8 hx (by kernel_rfl) (fun k hk => by cases hk) (by kernel_rfl) (Card.laid_met os _))) ?_
  intro W base args ds gs before hval0 hW _ _ _ hL hsh _
  obtain ⟨m, hm⟩ := Card.maxLen_int hsh
  have hval : ∀ (j : Nat) t v, Tryd.f7.params[j]? = some t → args[j]? = some v → Value.okWide Tryd.prog W .any base t v := hval0
  have hW' := hW
  obtain ⟨p, q, hA0, hV, rfl, hfz, hnd⟩ := hW
  have hA : DataW.TrodAll enc Tryd.prog W 0 (fun _ => true) true Tryd.f7.params.toList args.toList ds p := hA0
  rw [Tryd.params7] at hA hval
  obtain ⟨v0, vs0, d0, ds0, p0, q0, hargs0, rfl, rfl, t0, r0⟩ := trodAll_cons hA
  obtain ⟨v1, vs1, d1, ds1, p1, q1, hargs1, rfl, rfl, t1, r1⟩ := trodAll_cons r0
  obtain ⟨rfl, rfl, rfl⟩ := trodAll_nil r1
  obtain rfl : args = #[v0, v1] := by cases args; simp_all
  obtain ⟨rfl, rfl⟩ := trodVars_none hV
  obtain ⟨a0, rfl, rfl, rfl, w0⟩ := open_string Tryd.underlying9 (hval 0 9 v0 rfl rfl) t0
  obtain ⟨a1, rfl, rfl, rfl, w1⟩ := open_int Tryd.underlying5 (hval 1 5 v1 rfl rfl) t1
  clear hA0 hval0
  simp only [List.append_nil] at hW'
  refine (walk a0 a1 w0 w1 m W hm ).mono fun e W' ⟨he, bel⟩ => ?_
  subst he
  exact ⟨_, rfl, _, _, _, [], _, [], hW', trodAll_mk1 (shut_bool Tryd.underlying4 _), (trodAll_cons_mk (shut_string Tryd.underlying9 w0) (trodAll_cons_mk (shut_int Tryd.underlying5 w1) trodAll_mk0)), rfl, bel.frame _, fun h => by cases h⟩

theorem said : Rows.pathDotsRow.holds Tryd.pinned (OpenSpec.ofChange Rows.pathDotsSpec) :=
  OpenClaim.holds_of_cond 7 Tryd.f7 rfl rfl rfl rfl rfl rfl rfl ⟨rfl, rfl, rfl, rfl, rfl⟩ rfl rfl rfl rfl rfl (by kernel_rfl) Tryd.func7 (by kernel_rfl)
    (of_decide_eq_true (by kernel_rfl)) (by unfold Func.isWrapper; first | (rw [if_pos (by decide +kernel)]; kernel_rfl) | (rw [if_neg (by decide +kernel)]; exact ⟨rfl, rfl⟩))
    (fun os started H enc _ F => by rw [OpenClaim.pre_eq_preRow]; exact lifted os started H enc F)

/-- No parameter wants a stand-in; the program's own looks are off. -/
theorem plain (f : FuncId) (fn : Func) (hf : Tryd.pinned.checked.prog.funcNamed Rows.pathDotsRow.func = some f) (hfn : Tryd.pinned.checked.prog.funcs[f]? = some fn) :
    false = Tryd.pinned.checked.prog.looks [] ∧ ∀ (j : Nat) t, fn.params[j]? = some t → Tryd.pinned.checked.prog.wantsStandIn t = false := by
  obtain rfl : f = 7 := Option.some.inj ((show Tryd.prog.funcNamed Rows.pathDotsRow.func = some 7 by kernel_rfl).symm.trans hf) |>.symm
  obtain rfl : fn = Tryd.f7 := (Option.some.inj (Tryd.func7.symm.trans hfn)).symm
  refine ⟨by kernel_rfl, fun j t ht => ?_⟩
  rw [Tryd.params7] at ht
  obtain rfl | rfl : t = 9 ∨ t = 5 := by simpa using Array.mem_of_getElem? ht
  · exact (show Tryd.prog.wantsStandIn 9 = false by kernel_rfl)
  · exact (show Tryd.prog.wantsStandIn 5 = false by kernel_rfl)

/-- The statement: the card. -/
theorem proved : Rows.PathDotsCardSaid :=
  Claim7.holds_tied_plain_at .later [] _ _ _ _ said (fun _ h => by cases h) (by kernel_rfl) (fun _ h => by cases h) pathDots_row_tie rfl ⟨rfl, rfl⟩ (by kernel_rfl) rfl plain (by kernel_rfl)
#print axioms proved
end Go.Proofs.YtbofkmaajhfkeaaDoor.pathDots

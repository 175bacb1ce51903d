/-
  HeadParse of layer 13 returns true for every input and leaves its arguments as they were: what is parsed is fields whose names and values may be; written out, line by line, they are parsed again; of two texts of lines, one behind the other, the fields of both. Conditions: the two tables of unicode/utf8 lie as their texts lay them (listed by the card), internal/bytealg.MaxLen holds any int.
-/
import Derived.Test.YtagmmdnfbjgmcaaDoorCards
import Derived.Test.YtagmmdnfbjgmcaaDoorTie
import Derived.WalkKit
import Derived.ProofKit
import Derived.OpenShut
import Derived.ShutString
import Derived.ChangeOld
import Derived.Below
import Derived.Test.YtagmmdnfbjgmcaaDoorHdOut
import Derived.Test.YtagmmdnfbjgmcaaDoorLaid
namespace Go.Proofs.YtagmmdnfbjgmcaaDoor.headParse
open Go.ChangeShapes Go.WideShapes Go.ChangeAt Go.RowKit
open Go.ChangeMaps (open_string shut_string)
open Go.Shelf
open Go.Proofs.YtagmmdnfbjgmcaaDoor.Head
set_option linter.unusedSimpArgs false
set_option linter.unusedVariables false

theorem own : ownKnob Tryd.prog.godebug = none := by kernel_rfl
theorem laidOut : laidOutB Tryd.prog = true := by kernel_rfl

set_option maxRecDepth 100000
set_option maxHeartbeats 16000000 in
theorem walk (a0 : ByteArray) (a1 : ByteArray) (a2 : Int) (w0 : a0.size ≤ maxLen) (w1 : a1.size ≤ maxLen) (w2 : (Lit.int .i64 a2).wf = true) (m : Int) (w : World) (hm : Path.MaxAt m w)  :
    Calls Tryd.prog 6 #[.string a0, .string a1, .int .i64 a2] w fun e w' => e = .returned (.bool true) ∧ Below w.heap.size w w' := by
  have HM0 := Lib.hid hm
  clear hm
  go_enter Tryd.func6, Tryd.ntmps6
  go_wp2_with fail
  refine (awake_calls m w HM0.out).mono ?_
  rintro e X1 ⟨rfl, hB⟩
  have HB1 := Lib.hid (hB)
  have HM1 := Lib.hid (HM0.out.later hB)
  clear HM0
  clear hB
  rcases Nat.lt_or_ge 300 a0.size with h0 | h0
  · have q : decide ((300 : Int) < (a0.size : Int)) = true := decide_eq_true (by omega)
    go_wp2
    go_ret
    exact ⟨rfl, HB1.out⟩
  have q0 : decide ((300 : Int) < (a0.size : Int)) = false := decide_eq_false (by omega)
  rcases Nat.lt_or_ge 300 a1.size with h1 | h1
  · have q : decide ((300 : Int) < (a1.size : Int)) = true := decide_eq_true (by omega)
    go_wp2
    go_ret
    exact ⟨rfl, HB1.out⟩
  have q1 : decide ((300 : Int) < (a1.size : Int)) = false := decide_eq_false (by omega)
  have hpl0 := parsed_len a0.data.toList
  have hpl1 := parsed_len a1.data.toList
  have hz0 : List.length a0.data.toList = a0.size := rfl
  have hz1 : List.length a1.data.toList = a1.size := rfl
  go_wp2_with fail
  refine (parse_any a0 (by omega) m _ HM1.out).mono ?_
  rintro e X2 ⟨vx, rfl, hF, hB⟩
  have hsh := hF
  obtain ⟨ay1, cy1, rfl, -⟩ := hsh
  have HB2 := Lib.hid (Ascii.below2 HB1.out hB)
  have HM2 := Lib.hid (HM1.out.later hB)
  have HX_2 := Lib.hid (hF)
  clear HB1 HM1
  clear hB hF
  go_wp2_with fail
  refine (parse_any a1 (by omega) m _ HM2.out).mono ?_
  rintro e X3 ⟨vy, rfl, hF, hB⟩
  have hsh := hF
  obtain ⟨ay2, cy2, rfl, -⟩ := hsh
  have HB3 := Lib.hid (Ascii.below2 HB2.out hB)
  have HM3 := Lib.hid (HM2.out.later hB)
  have HX_3 := Lib.hid (HX_2.out.later hB)
  have HY_3 := Lib.hid (hF)
  clear HB2 HM2 HX_2
  clear hB hF
  cases hp : parseB a0.data.toList
  · have hq : (parseF a0.data.toList).length = 0 := by rw [not_parsed hp]; rfl
    have hq' : (((parseF a0.data.toList).length : Int) == 0) = true := by rw [hq]; rfl
    go_wp2
    go_ret
    exact ⟨rfl, HB3.out⟩
  have hol := (out_len a0.data.toList _ (parsed hp)).1
  have HOK := Lib.hid (parsed_ok hp)
  have HPO := Lib.hid (parsed_out hp)
  have HPA := Lib.hid (parsed_app (b := a1.data.toList) hp)
  go_wp2
  go_loopw [12, 13] (fun s i wr => ∃ k : Nat, k ≤ (parseF a0.data.toList).length ∧ i = .int .i64 k ∧ s = .string (tb (outL ((parseF a0.data.toList).take k))) ∧ Below X3.heap.size X3 wr) (fun _ i _ => (parseF a0.data.toList).length - (intOf i).toNat)
  case atStart => exact ⟨0, Nat.zero_le _, rfl, rfl, Below.refl _ _⟩
  case round =>
    obtain ⟨k, hk, rfl, rfl, hB⟩ := hrel
    by_cases hlt : k < (parseF a0.data.toList).length
    · obtain ⟨b, off, rfl, hkc, g0, g1⟩ := (HX_3.out.later hB).at_ k hlt
      have hok := HOK.out _ (List.getElem_mem hlt)
      have HT := Lib.hid (out_take (parseF a0.data.toList) k hlt)
      have hs0 : (tb (outL ((parseF a0.data.toList).take k))).size ≤ 600 := by rw [tb_size]; have := out_take_len (parseF a0.data.toList) k; omega
      have hs1 : (tb (parseF a0.data.toList)[k].1).size ≤ 300 := by rw [tb_size]; have := hok.2.2.1; omega
      have hs2 : (tb (parseF a0.data.toList)[k].2).size ≤ 300 := by rw [tb_size]; have := hok.2.2.2; omega
      clear hok
      generalize tb (outL ((parseF a0.data.toList).take k)) = S0 at HT hs0 ⊢
      generalize tb (parseF a0.data.toList)[k].1 = S1 at g0 HT hs1
      generalize tb (parseF a0.data.toList)[k].2 = S2 at g1 HT hs2
      go_wp2
      go_quiet (fail)
      have hB2 := Lib.hid (Path.drewN_below hB nq)
      generalize wr.drewN nq = W1 at hB2 ⊢
      clear g0 g1 hB
      go_wp2
      go_roundw
      case rel => exact ⟨k + 1, by omega, by go_num, by rw [← HT.out], hB2.out⟩
      case measure => simp [intOf]; omega
    · obtain rfl : k = (parseF a0.data.toList).length := by omega
      rw [List.take_length]
      have hs0 : (tb (outL (parseF a0.data.toList))).size ≤ 600 := by rw [tb_size]; omega
      generalize wr = X4 at hB ⊢
      have HB4 := Lib.hid (Ascii.below2 HB3.out hB)
      have HM4 := Lib.hid (HM3.out.later hB)
      have HX_4 := Lib.hid (HX_3.out.later hB)
      have HY_4 := Lib.hid (HY_3.out.later hB)
      clear HB3 HM3 HX_3 HY_3
      clear hB
      go_wp2_with fail
      have cS := parse_any (tb (outL (parseF a0.data.toList))) (by omega) m X4 HM4.out
      rw [tb_list, HPO.out.1, HPO.out.2] at cS
      refine (cS).mono ?_
      rintro e X5 ⟨vz, rfl, hF, hB⟩
      have hsh := hF
      obtain ⟨ay4, cy4, rfl, -⟩ := hsh
      have HB5 := Lib.hid (Ascii.below2 HB4.out hB)
      have HM5 := Lib.hid (HM4.out.later hB)
      have HX_5 := Lib.hid (HX_4.out.later hB)
      have HY_5 := Lib.hid (HY_4.out.later hB)
      have HZ_5 := Lib.hid (hF)
      clear HB4 HM4 HX_4 HY_4
      clear hB hF
      go_wp2_with fail
      have cT := parse_any (a0 ++ a1) (by rw [ByteArray.size_append]; omega) m X5 HM5.out
      rw [Path.text_append, HPA.out.1] at cT
      refine (cT).mono ?_
      rintro e X6 ⟨vb, rfl, hF, hB⟩
      have hsh := hF
      obtain ⟨ay5, cy5, rfl, -⟩ := hsh
      have HB6 := Lib.hid (Ascii.below2 HB5.out hB)
      have HM6 := Lib.hid (HM5.out.later hB)
      have HX_6 := Lib.hid (HX_5.out.later hB)
      have HY_6 := Lib.hid (HY_5.out.later hB)
      have HZ_6 := Lib.hid (HZ_5.out.later hB)
      have HT_6 := Lib.hid (hF)
      clear HB5 HM5 HX_5 HY_5 HZ_5
      clear hB hF
      have OW6 := Lib.hid (OwnF.start X6)
      have HC6 := Lib.hid (Below.refl X6.heap.size X6)
      have SHB := HB6
      have SHM := HM6
      have SHX_ := HX_6
      have SHY_ := HY_6
      have SHZ_ := HZ_6
      have SHT_ := HT_6
      go_wp2_with (at_builtin; refine wp_app_flds rfl _ _ rfl rfl OW6.out rfl HX_6.out (by rw [List.length_nil]; omega) ?_)
      intro va6 X7 hO hBb
      have hT := HC6.out.trans hBb
      try rw [List.nil_append] at hO
      have HM7' := Lib.hid (SHM.out.later hT)
      have HX_7' := Lib.hid (SHX_.out.later hT)
      have HY_7' := Lib.hid (SHY_.out.later hT)
      have HZ_7' := Lib.hid (SHZ_.out.later hT)
      have HT_7' := Lib.hid (SHT_.out.later hT)
      have HB7 := Lib.hid (Ascii.below2 SHB.out hT)
      clear HB6 HC6 HM6 HX_6 HY_6 HZ_6 HT_6 OW6
      have HM7 := HM7'
      clear HM7'
      have HX_7 := HX_7'
      clear HX_7'
      have HY_7 := HY_7'
      clear HY_7'
      have HZ_7 := HZ_7'
      clear HZ_7'
      have HT_7 := HT_7'
      clear HT_7'
      have OW7 := Lib.hid hO
      have HC7 := Lib.hid hT
      clear hO hBb hT
      go_wp2_with (at_builtin; refine wp_app_flds rfl _ _ rfl rfl OW7.out rfl HY_7.out (by omega) ?_)
      intro va7 X8 hO hBb
      have hT := HC7.out.trans hBb
      have HM8' := Lib.hid (SHM.out.later hT)
      have HX_8' := Lib.hid (SHX_.out.later hT)
      have HY_8' := Lib.hid (SHY_.out.later hT)
      have HZ_8' := Lib.hid (SHZ_.out.later hT)
      have HT_8' := Lib.hid (SHT_.out.later hT)
      have HB8 := Lib.hid (Ascii.below2 SHB.out hT)
      clear HB7 HC7 HM7 HX_7 HY_7 HZ_7 HT_7 OW7
      have HM8 := HM8'
      clear HM8'
      have HX_8 := HX_8'
      clear HX_8'
      have HY_8 := HY_8'
      clear HY_8'
      have HZ_8 := HZ_8'
      clear HZ_8'
      have HT_8 := HT_8'
      clear HT_8'
      have OW8 := Lib.hid hO
      have HC8 := Lib.hid hT
      clear hO hBb hT
      have HA_8 := Lib.hid (OW8.out.flds)
      clear OW8 HC8 SHB SHM SHX_ SHY_ SHZ_ SHT_
      go_wp2_with fail
      have cE := same_any _ _ _ _ X8 HT_8.out HA_8.out
      refine (cE).mono ?_
      rintro e X9 ⟨rfl, hB⟩
      have HB9 := Lib.hid (Ascii.below2 HB8.out hB)
      have HM9 := Lib.hid (HM8.out.later hB)
      have HX_9 := Lib.hid (HX_8.out.later hB)
      have HY_9 := Lib.hid (HY_8.out.later hB)
      have HZ_9 := Lib.hid (HZ_8.out.later hB)
      have HT_9 := Lib.hid (HT_8.out.later hB)
      have HA_9 := Lib.hid (HA_8.out.later hB)
      clear HB8 HM8 HX_8 HY_8 HZ_8 HT_8 HA_8
      clear hB 
      have hr : parseB a1.data.toList = true → decide (parseF (a0.data.toList ++ a1.data.toList) = parseF a0.data.toList ++ parseF a1.data.toList) = true := fun h => decide_eq_true (HPA.out.2 h)
      generalize decide (parseF (a0.data.toList ++ a1.data.toList) = parseF a0.data.toList ++ parseF a1.data.toList) = r at hr ⊢
      go_wp2_with fail
      have cD := same_any _ _ _ _ X9 HZ_9.out HX_9.out
      rw [show decide (parseF a0.data.toList = parseF a0.data.toList) = true from decide_eq_true rfl] at cD
      refine (cD).mono ?_
      rintro e X10 ⟨rfl, hB⟩
      have HB10 := Lib.hid (Ascii.below2 HB9.out hB)
      have HM10 := Lib.hid (HM9.out.later hB)
      have HX_10 := Lib.hid (HX_9.out.later hB)
      have HY_10 := Lib.hid (HY_9.out.later hB)
      have HZ_10 := Lib.hid (HZ_9.out.later hB)
      have HT_10 := Lib.hid (HT_9.out.later hB)
      have HA_10 := Lib.hid (HA_9.out.later hB)
      clear HB9 HM9 HX_9 HY_9 HZ_9 HT_9 HA_9
      clear hB 
      cases hp2 : parseB a1.data.toList
      · rcases Int.lt_or_le a2 0 with hi | hi
        · have qi : decide (a2 < 0) = true := decide_eq_true hi
          go_wp2
          go_ret
          exact ⟨rfl, HB10.out⟩
        have qi : decide (a2 < 0) = false := decide_eq_false (by omega)
        rcases Int.lt_or_le a2 ((parseF a0.data.toList).length : Int) with hj | hj
        rotate_left
        · have qj : decide (((parseF a0.data.toList).length : Int) ≤ a2) = true := decide_eq_true hj
          go_wp2
          go_ret
          exact ⟨rfl, HB10.out⟩
        have qj : decide (((parseF a0.data.toList).length : Int) ≤ a2) = false := decide_eq_false (by omega)
        obtain ⟨k, rfl⟩ : ∃ k : Nat, a2 = (k : Int) := ⟨a2.toNat, by omega⟩
        have hlt : k < (parseF a0.data.toList).length := by omega
        obtain ⟨b, off, rfl, hkc, g0, g1⟩ := HX_10.out.at_ k hlt
        have hok := HOK.out _ (List.getElem_mem hlt)
        have hs1 : (tb (parseF a0.data.toList)[k].1).size ≤ 300 := by rw [tb_size]; have := hok.2.2.1; omega
        have hs2 : (tb (parseF a0.data.toList)[k].2).size ≤ 300 := by rw [tb_size]; have := hok.2.2.2; omega
        have c1 := fun u => name_any (tb (parseF a0.data.toList)[k].1) (by unfold maxLen; omega) u
        have c2 := fun u => value_any (tb (parseF a0.data.toList)[k].2) (by omega) u
        rw [tb_list, hok.1] at c1
        rw [tb_list, hok.2.1] at c2
        generalize tb (parseF a0.data.toList)[k].1 = S1 at g0 c1
        generalize tb (parseF a0.data.toList)[k].2 = S2 at g1 c2
        go_wp2_with fail
        refine (c1 _).mono ?_
        rintro e w' ⟨rfl, rfl⟩
        go_wp2_with fail
        refine (c2 _).mono ?_
        rintro e X11 ⟨rfl, hB⟩
        have HB11 := Lib.hid (Ascii.below2 HB10.out hB)
        have HM11 := Lib.hid (HM10.out.later hB)
        have HX_11 := Lib.hid (HX_10.out.later hB)
        have HY_11 := Lib.hid (HY_10.out.later hB)
        have HZ_11 := Lib.hid (HZ_10.out.later hB)
        have HT_11 := Lib.hid (HT_10.out.later hB)
        have HA_11 := Lib.hid (HA_10.out.later hB)
        clear HB10 HM10 HX_10 HY_10 HZ_10 HT_10 HA_10
        clear hB 
        go_wp2
        go_ret
        exact ⟨rfl, HB11.out⟩
      obtain rfl := hr hp2
      rcases Int.lt_or_le a2 0 with hi | hi
      · have qi : decide (a2 < 0) = true := decide_eq_true hi
        go_wp2
        go_ret
        exact ⟨rfl, HB10.out⟩
      have qi : decide (a2 < 0) = false := decide_eq_false (by omega)
      rcases Int.lt_or_le a2 ((parseF a0.data.toList).length : Int) with hj | hj
      rotate_left
      · have qj : decide (((parseF a0.data.toList).length : Int) ≤ a2) = true := decide_eq_true hj
        go_wp2
        go_ret
        exact ⟨rfl, HB10.out⟩
      have qj : decide (((parseF a0.data.toList).length : Int) ≤ a2) = false := decide_eq_false (by omega)
      obtain ⟨k, rfl⟩ : ∃ k : Nat, a2 = (k : Int) := ⟨a2.toNat, by omega⟩
      have hlt : k < (parseF a0.data.toList).length := by omega
      obtain ⟨b, off, rfl, hkc, g0, g1⟩ := HX_10.out.at_ k hlt
      have hok := HOK.out _ (List.getElem_mem hlt)
      have hs1 : (tb (parseF a0.data.toList)[k].1).size ≤ 300 := by rw [tb_size]; have := hok.2.2.1; omega
      have hs2 : (tb (parseF a0.data.toList)[k].2).size ≤ 300 := by rw [tb_size]; have := hok.2.2.2; omega
      have c1 := fun u => name_any (tb (parseF a0.data.toList)[k].1) (by unfold maxLen; omega) u
      have c2 := fun u => value_any (tb (parseF a0.data.toList)[k].2) (by omega) u
      rw [tb_list, hok.1] at c1
      rw [tb_list, hok.2.1] at c2
      generalize tb (parseF a0.data.toList)[k].1 = S1 at g0 c1
      generalize tb (parseF a0.data.toList)[k].2 = S2 at g1 c2
      go_wp2_with fail
      refine (c1 _).mono ?_
      rintro e w' ⟨rfl, rfl⟩
      go_wp2_with fail
      refine (c2 _).mono ?_
      rintro e X11 ⟨rfl, hB⟩
      have HB11 := Lib.hid (Ascii.below2 HB10.out hB)
      have HM11 := Lib.hid (HM10.out.later hB)
      have HX_11 := Lib.hid (HX_10.out.later hB)
      have HY_11 := Lib.hid (HY_10.out.later hB)
      have HZ_11 := Lib.hid (HZ_10.out.later hB)
      have HT_11 := Lib.hid (HT_10.out.later hB)
      have HA_11 := Lib.hid (HA_10.out.later hB)
      clear HB10 HM10 HX_10 HY_10 HZ_10 HT_10 HA_10
      clear hB 
      go_wp2
      go_ret
      exact ⟨rfl, HB11.out⟩

/-! ### The row's step -/
theorem reads (os : Os) {H : Type} (enc : TypeId × Value → H) : (DataW.whole enc Tryd.prog ((Card.laidWorld os).forCall (fun _ _ => 0) ⟨#[], #[.string ByteArray.empty, .string ByteArray.empty, .int .i64 0], []⟩).memory Tryd.f6.params.toList Rows.headParseSpec.vars false (#[.string ByteArray.empty, .string ByteArray.empty, .int .i64 0] : Array Value).toList 8).map (fun x => (x.1, x.2.1)) = some ([.lit (.string []), .lit (.string []), .lit (.int .i64 0)], []) := by kernel_rfl
set_option maxRecDepth 100000 in
theorem lifted (os : Os) (started : os.Started) (H : Type) (enc : TypeId × Value → H) (F : Stop.Interp) :
    ReturnsInHanded {} Tryd.checked os 6 .any ((OpenSpec.ofChange Rows.headParseSpec).preRow enc Tryd.prog Tryd.f6 Rows.headParseRow.domain false Rows.headParseRow.laid) (((OpenSpec.ofChange Rows.headParseSpec).at F).post enc Tryd.prog Tryd.f6 false true false false) := by
  obtain ⟨⟨x1, x2, x3⟩, hx, hx1⟩ := Option.map_eq_some_iff.1 (reads os enc)
  simp only [Prod.mk.injEq] at hx1
  obtain ⟨rfl, rfl⟩ := hx1
  refine returnsInHanded_of_row (C := Tryd.checked) (s := OpenSpec.ofChange Rows.headParseSpec) own started (by kernel_rfl) Tryd.func6
    (witness_row_at (enc := enc) (C := Tryd.checked) false (Card.laidWorld os) #[.string ByteArray.empty, .string ByteArray.empty, .int .i64 0] rfl (by kernel_rfl) (by kernel_rfl) (by kernel_rfl)
      (OpenSpec.preRow_of_cond 8 hx (by kernel_rfl) (fun k hk => by cases hk) (by kernel_rfl) (Card.laid_met os _))) ?_
  intro W base args ds gs before hval0 hW _ _ _ hL hsh _
  obtain ⟨m, hm⟩ := Card.maxLen_int hsh
  have hval : ∀ (j : Nat) t v, Tryd.f6.params[j]? = some t → args[j]? = some v → Value.okWide Tryd.prog W .any base t v := hval0
  have hW' := hW
  obtain ⟨p, q, hA0, hV, rfl, hfz, hnd⟩ := hW
  have hA : DataW.TrodAll enc Tryd.prog W 0 (fun _ => true) true Tryd.f6.params.toList args.toList ds p := hA0
  rw [Tryd.params6] at hA hval
  obtain ⟨v0, vs0, d0, ds0, p0, q0, hargs0, rfl, rfl, t0, r0⟩ := trodAll_cons hA
  obtain ⟨v1, vs1, d1, ds1, p1, q1, hargs1, rfl, rfl, t1, r1⟩ := trodAll_cons r0
  obtain ⟨v2, vs2, d2, ds2, p2, q2, hargs2, rfl, rfl, t2, r2⟩ := trodAll_cons r1
  obtain ⟨rfl, rfl, rfl⟩ := trodAll_nil r2
  obtain rfl : args = #[v0, v1, v2] := by cases args; simp_all
  obtain ⟨rfl, rfl⟩ := trodVars_none hV
  obtain ⟨a0, rfl, rfl, rfl, w0⟩ := open_string Tryd.underlying9 (hval 0 9 v0 rfl rfl) t0
  obtain ⟨a1, rfl, rfl, rfl, w1⟩ := open_string Tryd.underlying9 (hval 1 9 v1 rfl rfl) t1
  obtain ⟨a2, rfl, rfl, rfl, w2⟩ := open_int Tryd.underlying3 (hval 2 3 v2 rfl rfl) t2
  clear hA0 hval0
  simp only [List.append_nil] at hW'
  refine (walk a0 a1 a2 w0 w1 w2 m W hm ).mono fun e W' ⟨he, bel⟩ => ?_
  subst he
  exact ⟨_, rfl, _, _, _, [], _, [], hW', trodAll_mk1 (shut_bool Tryd.underlying4 _), (trodAll_cons_mk (shut_string Tryd.underlying9 w0) (trodAll_cons_mk (shut_string Tryd.underlying9 w1) (trodAll_cons_mk (shut_int Tryd.underlying3 w2) trodAll_mk0))), rfl, bel.frame _, fun h => by cases h⟩

theorem said : Rows.headParseRow.holds Tryd.pinned (OpenSpec.ofChange Rows.headParseSpec) :=
  OpenClaim.holds_of_cond 6 Tryd.f6 rfl rfl rfl rfl rfl rfl rfl ⟨rfl, rfl, rfl, rfl, rfl⟩ rfl rfl rfl rfl rfl (by kernel_rfl) Tryd.func6 (by kernel_rfl)
    (of_decide_eq_true (by kernel_rfl)) (by unfold Func.isWrapper; first | (rw [if_pos (by decide +kernel)]; kernel_rfl) | (rw [if_neg (by decide +kernel)]; exact ⟨rfl, rfl⟩))
    (fun os started H enc _ F => by rw [OpenClaim.pre_eq_preRow]; exact lifted os started H enc F)

/-- No parameter wants a stand-in; the program's own looks are off. -/
theorem plain (f : FuncId) (fn : Func) (hf : Tryd.pinned.checked.prog.funcNamed Rows.headParseRow.func = some f) (hfn : Tryd.pinned.checked.prog.funcs[f]? = some fn) :
    false = Tryd.pinned.checked.prog.looks [] ∧ ∀ (j : Nat) t, fn.params[j]? = some t → Tryd.pinned.checked.prog.wantsStandIn t = false := by
  obtain rfl : f = 6 := Option.some.inj ((show Tryd.prog.funcNamed Rows.headParseRow.func = some 6 by kernel_rfl).symm.trans hf) |>.symm
  obtain rfl : fn = Tryd.f6 := (Option.some.inj (Tryd.func6.symm.trans hfn)).symm
  refine ⟨by kernel_rfl, fun j t ht => ?_⟩
  rw [Tryd.params6] at ht
  obtain rfl | rfl : t = 9 ∨ t = 3 := by simpa using Array.mem_of_getElem? ht
  · exact (show Tryd.prog.wantsStandIn 9 = false by kernel_rfl)
  · exact (show Tryd.prog.wantsStandIn 3 = false by kernel_rfl)

/-- The statement: the card. -/
theorem proved : Rows.HeadParseCardSaid :=
  Claim7.holds_tied_plain_at .later [] _ _ _ _ said (fun _ h => by cases h) (by kernel_rfl) (fun _ h => by cases h) headParse_row_tie rfl ⟨rfl, rfl⟩ (by kernel_rfl) rfl plain (by kernel_rfl)
#print axioms proved
end Go.Proofs.YtagmmdnfbjgmcaaDoor.headParse

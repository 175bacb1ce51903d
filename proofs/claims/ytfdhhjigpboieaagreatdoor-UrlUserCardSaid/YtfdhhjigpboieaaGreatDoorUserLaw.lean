/-
  WHAT IS PROVED: the card of UrlUser: of any two texts of at most 100 bytes each that have no low byte, slash, question mark or number sign (the first no colon either) an address with both ahead of an at sign has them, encoded, as user and password, and the host does not hang on them.
  CONDITIONS: none but the card's own: the listed tables read as their texts lay them; the texts are any.
-/
import Derived.Test.YtfdhhjigpboieaaGreatDoorCards
import Derived.Test.YtfdhhjigpboieaaGreatDoorTie
import Derived.WalkKit
import Derived.ProofKit
import Derived.OpenShut
import Derived.ShutString
import Derived.ChangeOld
import Derived.Below
import Derived.Test.YtfdhhjigpboieaaGreatDoorUQuiet
namespace Go.Proofs.YtfdhhjigpboieaaGreatDoor.urlUser
open Go.ChangeShapes Go.WideShapes Go.ChangeAt Go.RowKit
open Go.ChangeMaps (open_string shut_string)
open Go.Shelf
open Go.Proofs.YtfdhhjigpboieaaGreatDoor.Url
open Go.Proofs.YtfdhhjigpboieaaGreatDoor.Host (H)
open Go.Proofs.YtfdhhjigpboieaaGreatDoor.Path (Strs)
set_option linter.unusedSimpArgs false
set_option linter.unusedVariables false

theorem own : ownKnob Tryz.prog.godebug = none := by kernel_rfl
theorem laidOut : laidOutB Tryz.prog = true := by kernel_rfl

theorem fine5 (c : UInt8) : (decide ((c.toNat : Int) ≤ 32) = true) ∨ (decide ((c.toNat : Int) ≤ 32) = false ∧ ((c.toNat : Int) == 58) = true) ∨ (decide ((c.toNat : Int) ≤ 32) = false ∧ ((c.toNat : Int) == 58) = false ∧ ((c.toNat : Int) == 47) = true) ∨
    (decide ((c.toNat : Int) ≤ 32) = false ∧ ((c.toNat : Int) == 58) = false ∧ ((c.toNat : Int) == 47) = false ∧ ((c.toNat : Int) == 63) = true) ∨
    (decide ((c.toNat : Int) ≤ 32) = false ∧ ((c.toNat : Int) == 58) = false ∧ ((c.toNat : Int) == 47) = false ∧ ((c.toNat : Int) == 63) = false ∧ ((c.toNat : Int) == 35) = true) ∨
    (decide ((c.toNat : Int) ≤ 32) = false ∧ ((c.toNat : Int) == 58) = false ∧ ((c.toNat : Int) == 47) = false ∧ ((c.toNat : Int) == 63) = false ∧ ((c.toNat : Int) == 35) = false) := by
  cases decide ((c.toNat : Int) ≤ 32) <;> cases ((c.toNat : Int) == 58) <;> cases ((c.toNat : Int) == 47) <;> cases ((c.toNat : Int) == 63) <;> cases ((c.toNat : Int) == 35) <;> simp
theorem fine4 (c : UInt8) : (decide ((c.toNat : Int) ≤ 32) = true) ∨ (decide ((c.toNat : Int) ≤ 32) = false ∧ ((c.toNat : Int) == 47) = true) ∨
    (decide ((c.toNat : Int) ≤ 32) = false ∧ ((c.toNat : Int) == 47) = false ∧ ((c.toNat : Int) == 63) = true) ∨
    (decide ((c.toNat : Int) ≤ 32) = false ∧ ((c.toNat : Int) == 47) = false ∧ ((c.toNat : Int) == 63) = false ∧ ((c.toNat : Int) == 35) = true) ∨
    (decide ((c.toNat : Int) ≤ 32) = false ∧ ((c.toNat : Int) == 47) = false ∧ ((c.toNat : Int) == 63) = false ∧ ((c.toNat : Int) == 35) = false) := by
  cases decide ((c.toNat : Int) ≤ 32) <;> cases ((c.toNat : Int) == 47) <;> cases ((c.toNat : Int) == 63) <;> cases ((c.toNat : Int) == 35) <;> simp
def fineA (c : UInt8) : Prop := 32 < c.toNat ∧ c.toNat ≠ 58 ∧ c.toNat ≠ 47 ∧ c.toNat ≠ 63 ∧ c.toNat ≠ 35
def fineB (c : UInt8) : Prop := 32 < c.toNat ∧ c.toNat ≠ 47 ∧ c.toNat ≠ 63 ∧ c.toNat ≠ 35
theorem fineA_of (c : UInt8) (h1 : decide ((c.toNat : Int) ≤ 32) = false) (h2 : ((c.toNat : Int) == 58) = false) (h3 : ((c.toNat : Int) == 47) = false) (h4 : ((c.toNat : Int) == 63) = false) (h5 : ((c.toNat : Int) == 35) = false) : fineA c := by
  simp only [decide_eq_false_iff_not, beq_eq_false_iff_ne, ne_eq] at h1 h2 h3 h4 h5
  exact ⟨by omega, by omega, by omega, by omega, by omega⟩
theorem fineB_of (c : UInt8) (h1 : decide ((c.toNat : Int) ≤ 32) = false) (h3 : ((c.toNat : Int) == 47) = false) (h4 : ((c.toNat : Int) == 63) = false) (h5 : ((c.toNat : Int) == 35) = false) : fineB c := by
  simp only [decide_eq_false_iff_not, beq_eq_false_iff_ne, ne_eq] at h1 h3 h4 h5
  exact ⟨by omega, by omega, by omega, by omega⟩
theorem long_any (a0 a1 : ByteArray) (w0 : a0.size ≤ 9223372036854775807) (w1 : a1.size ≤ 9223372036854775807) (h : 100 < a0.size ∨ (a0.size ≤ 100 ∧ 100 < a1.size)) (m : Int) (w : World) (hm : Six.At m w) :
    Calls Tryz.prog 9 #[.string a0, .string a1] w fun e w' => e = .returned (.bool true) ∧ Below w.heap.size w w' := by
  rcases h with h | ⟨h, h'⟩
  · have q : decide ((100 : Int) < (a0.size : Int)) = true := decide_eq_true (by omega)
    go_enter Tryz.func9, Tryz.ntmps9
    go_wp2_with fail
    refine (awake_calls m w hm).mono ?_
    rintro e u1 ⟨rfl, hB1⟩
    go_wp2
    go_ret
    exact ⟨rfl, hB1⟩
  · have q0 : decide ((100 : Int) < (a0.size : Int)) = false := decide_eq_false (by omega)
    have q1 : decide ((100 : Int) < (a1.size : Int)) = true := decide_eq_true (by omega)
    go_enter Tryz.func9, Tryz.ntmps9
    go_wp2_with fail
    refine (awake_calls m w hm).mono ?_
    rintro e u1 ⟨rfl, hB1⟩
    go_wp2
    go_ret
    exact ⟨rfl, hB1⟩
set_option maxRecDepth 100000 in
set_option maxHeartbeats 16000000 in
theorem walk (a0 a1 : ByteArray) (w0 : a0.size ≤ maxLen) (w1 : a1.size ≤ maxLen) (m : Int) (w : World) (hm : Six.At m w) :
    Calls Tryz.prog 9 #[.string a0, .string a1] w fun e w' => e = .returned (.bool true) ∧ Below w.heap.size w w' := by
  unfold maxLen at w0 w1
  by_cases h0 : a0.size ≤ 100
  case neg => exact long_any a0 a1 w0 w1 (.inl (by omega)) m w hm
  by_cases h1 : a1.size ≤ 100
  case neg => exact long_any a0 a1 w0 w1 (.inr ⟨h0, by omega⟩) m w hm
  have q0 : decide ((100 : Int) < (a0.size : Int)) = false := decide_eq_false (by omega)
  have q1 : decide ((100 : Int) < (a1.size : Int)) = false := decide_eq_false (by omega)
  go_enter Tryz.func9, Tryz.ntmps9
  go_wp2_with fail
  refine (awake_calls m w hm).mono ?_
  rintro e u1 ⟨rfl, hB1⟩
  go_wp2
  go_loop [6] (fun i => ∃ k : Nat, k ≤ a0.size ∧ i = .int .i64 k ∧ Hid (∀ c ∈ a0.data.toList.take k, fineA c)) (fun i => a0.size - (intOf i).toNat)
  case atStart => exact ⟨0, Nat.zero_le _, rfl, Lib.hid (by simp)⟩
  case round =>
    obtain ⟨k, hk, rfl, HA⟩ := hrel
    by_cases hlt : k < a0.size
    · rcases fine5 a0[k] with g1 | ⟨g1, g2⟩ | ⟨g1, g2, g3⟩ | ⟨g1, g2, g3, g4⟩ | ⟨g1, g2, g3, g4, g5⟩ | ⟨g1, g2, g3, g4, g5⟩
      · go_wp2
        go_ret
        exact ⟨rfl, hB1⟩
      · go_wp2
        go_ret
        exact ⟨rfl, hB1⟩
      · go_wp2
        go_ret
        exact ⟨rfl, hB1⟩
      · go_wp2
        go_ret
        exact ⟨rfl, hB1⟩
      · go_wp2
        go_ret
        exact ⟨rfl, hB1⟩
      · have HN := Lib.hid (snoc_all fineA a0 k hlt HA.out (fineA_of _ g1 g2 g3 g4 g5))
        clear HA
        go_wp2
        go_round
        case rel => exact ⟨k + 1, by omega, by go_num, HN⟩
        case measure => simp [intOf]; omega
    · obtain rfl : k = a0.size := by omega
      have HA0 := Lib.hid (take_all fineA a0 HA.out)
      clear HA
      go_wp2
      go_loop [7] (fun i => ∃ k : Nat, k ≤ a1.size ∧ i = .int .i64 k ∧ Hid (∀ c ∈ a1.data.toList.take k, fineB c)) (fun i => a1.size - (intOf i).toNat)
      case atStart => exact ⟨0, Nat.zero_le _, rfl, Lib.hid (by simp)⟩
      case round =>
        obtain ⟨k, hk, rfl, HA⟩ := hrel
        by_cases hlt : k < a1.size
        · rcases fine4 a1[k] with g1 | ⟨g1, g3⟩ | ⟨g1, g3, g4⟩ | ⟨g1, g3, g4, g5⟩ | ⟨g1, g3, g4, g5⟩
          · go_wp2
            go_ret
            exact ⟨rfl, hB1⟩
          · go_wp2
            go_ret
            exact ⟨rfl, hB1⟩
          · go_wp2
            go_ret
            exact ⟨rfl, hB1⟩
          · go_wp2
            go_ret
            exact ⟨rfl, hB1⟩
          · have HN := Lib.hid (snoc_all fineB a1 k hlt HA.out (fineB_of _ g1 g3 g4 g5))
            clear HA
            go_wp2
            go_round
            case rel => exact ⟨k + 1, by omega, by go_num, HN⟩
            case measure => simp [intOf]; omega
        · obtain rfl : k = a1.size := by omega
          have HA1 := Lib.hid (take_all fineB a1 HA.out)
          clear HA
          obtain ⟨z1, hz1⟩ : ∃ z, (⟨#[104, 116, 116, 112, 115, 58, 47, 47]⟩ : ByteArray) ++ a0 ++ ⟨#[58]⟩ ++ a1 ++ ⟨#[64, 97, 46, 111, 114, 103, 47, 120]⟩ = z := ⟨_, rfl⟩
          obtain ⟨z2, hz2⟩ : ∃ z, (⟨#[104, 116, 116, 112, 115, 58, 47, 47]⟩ : ByteArray) ++ a0 ++ ⟨#[64, 97, 46, 111, 114, 103, 47, 120]⟩ = z := ⟨_, rfl⟩
          have hl1 : z1.data.toList = https ++ 58 :: 47 :: 47 :: ((a0.data.toList ++ 58 :: a1.data.toList) ++ 64 :: (aorg ++ [47, 120])) := by
            rw [← hz1, Path.text_append, Path.text_append, Path.text_append, Path.text_append, show (⟨#[104, 116, 116, 112, 115, 58, 47, 47]⟩ : ByteArray).data.toList = https ++ [58, 47, 47] from rfl, show (⟨#[58]⟩ : ByteArray).data.toList = [58] from rfl, show (⟨#[64, 97, 46, 111, 114, 103, 47, 120]⟩ : ByteArray).data.toList = 64 :: (aorg ++ [47, 120]) from rfl]
            simp
          have hl2 : z2.data.toList = https ++ 58 :: 47 :: 47 :: (a0.data.toList ++ 64 :: (aorg ++ [47, 120])) := by
            rw [← hz2, Path.text_append, Path.text_append, show (⟨#[104, 116, 116, 112, 115, 58, 47, 47]⟩ : ByteArray).data.toList = https ++ [58, 47, 47] from rfl, show (⟨#[64, 97, 46, 111, 114, 103, 47, 120]⟩ : ByteArray).data.toList = 64 :: (aorg ++ [47, 120]) from rfl]
            simp
          have hn58 : (58 : UInt8) ∉ a0.data.toList := fun h => (HA0.out _ h).2.1 rfl
          obtain ⟨o1, p1⟩ := user_at (a0.data.toList ++ 58 :: a1.data.toList) (fun c hc => by
            rcases List.mem_append.1 hc with h | h
            · have := HA0.out c h; exact ⟨this.1, this.2.2⟩
            · rcases List.mem_cons.1 h with rfl | h
              · decide
              · exact HA1.out c h)
          obtain ⟨o2, p2⟩ := user_at a0.data.toList (fun c hc => by have := HA0.out c hc; exact ⟨this.1, this.2.2⟩)
          rw [bef_at _ _ hn58, aft_at _ _ hn58] at p1
          rw [bef_no _ hn58, aft_no _ hn58, enc_nil] at p2
          obtain ⟨u, hu⟩ : ∃ u : U, parU z1.data.toList = u := ⟨_, rfl⟩
          obtain ⟨v, hv⟩ : ∃ u : U, parU z2.data.toList = u := ⟨_, rfl⟩
          rw [hl1, p1] at hu
          rw [hl2, p2] at hv
          have hz1s : z1.size ≤ 300 := by rw [← hz1]; simp only [size_app]; show 8 + a0.size + 1 + a1.size + 8 ≤ 300; omega
          have hz2s : z2.size ≤ 300 := by rw [← hz2]; simp only [size_app]; show 8 + a0.size + 8 ≤ 300; omega
          have CP1 := Lib.hid (fun w hm => parse_in z1 (by omega) true (by rw [hl1]; exact o1) m w hm)
          have CP2 := Lib.hid (fun w hm => parse_in z2 (by omega) true (by rw [hl2]; exact o2) m w hm)
          rw [hl1, p1, hu] at CP1
          rw [hl2, p2, hv] at CP2
          have u1 : tb u.usr = ⟨(Pct.encode 4 a0.data.toList).toArray⟩ := by rw [← hu]; rfl
          have u2 : tb u.pas = ⟨(Pct.encode 4 a1.data.toList).toArray⟩ := by rw [← hu]; rfl
          have u3 : u.h = aH := by rw [← hu]
          have v1 : tb v.usr = tb u.usr := by rw [← hu, ← hv]
          have v2 : tb v.pas = ⟨#[]⟩ := by rw [← hv]; rfl
          have v3 : v.h = aH := by rw [← hv]
          have CE1 := Lib.hid (fun w => Pct.encode_any a0 (by omega) 4 w)
          have CE2 := Lib.hid (fun w => Pct.encode_any a1 (by omega) 4 w)
          rw [← u1] at CE1
          rw [← u2] at CE2
          have CS := Lib.hid (fun w hm => Host.show_in aH rfl (by decide) ⟨#[97, 46, 111, 114, 103]⟩ (by rw [aorg_show]; rfl) m w hm)
          have heq : ∀ x, (Op.equalIn 10000 24 (.agg aH.cells) (.agg aH.cells)).run Tryz.prog x = .ok true x := fun x => Host.eq24 aH aH rfl rfl true (Host.same_refl _) x
          have H8 := Lib.hid (show u.h.p.length = 8 by rw [u3]; rfl)
          have H9 := Lib.hid (show v.h.p.length = 8 by rw [v3]; rfl)
          have HZ1 := Lib.hid hz1
          have HZ2 := Lib.hid hz2
          have HV1 := Lib.hid v1
          have HV2 := Lib.hid v2
          have HV3 := Lib.hid v3
          have HU3 := Lib.hid u3
          have HM := Lib.hid (hm.later hB1)
          have HB1 := Lib.hid hB1
          clear u1 u2 u3 v1 v2 v3 hu hv o1 p1 o2 p2 hl1 hl2 hz1 hz2 hn58 HA0 HA1 hB1 hm q0 q1
          go_wp2_with fail
          rw [HZ1.out]
          refine (CP1.out _ HM.out).mono ?_
          rintro e u2 ⟨pv, rfl, hst, hn, hB2⟩
          have hone := strs_one hst
          have hnew := new_url u2
          have HB2 := Lib.hid (Ascii.below3 HB1.out hB2 (below_url u2 u pv))
          have HM2 := Lib.hid ((HM.out.later hB2).later (below_url u2 u pv))
          have HU2 := Lib.hid (hnew.row u pv)
          clear CP1 hst hn hB2 HB1 HM HZ1
          go_wp2_with ((with_reducible refine wp_store27 (o := ⟨none, .store 27 (.tmp 8) (.tmp 96), _, _, _, _⟩) ?_ (.tmp 8) (.tmp 96) ?_ u2.heap.size ?_ u pv ?_ H8.out hone none1 (.slice none 0 0) rfl hnew ?_); (· rfl); (· rfl); (· rfl); (· rfl))
          rw [HZ2.out]
          generalize (u2.alloc (.cells #[.string ⟨#[]⟩, .string ⟨#[]⟩, .string ⟨#[]⟩, .int .i64 0, .string ⟨#[]⟩, .int .i64 0, .int .i64 0, .int .i64 0, .int .i64 0, .int .i64 0, .int .i64 0, .int .i64 0, .int .i64 0, .int .i64 0, .int .i64 0, .slice none 0 0, .string ⟨#[]⟩, .string ⟨#[]⟩, .string ⟨#[]⟩, .bool false, .bool false] 27)).setRow u2.heap.size (cU u pv) = W2 at HB2 HM2 HU2 ⊢
          generalize u2.heap.size = g1 at HU2 ⊢
          clear hnew hone HZ2
          refine (CP2.out _ HM2.out).mono ?_
          rintro e u3 ⟨qv, rfl, hst, hn, hB3⟩
          have hone := strs_one hst
          have hnew := new_url u3
          have HB := Lib.hid (Ascii.below3 HB2.out hB3 (below_url u3 v qv))
          have HM := Lib.hid ((HM2.out.later hB3).later (below_url u3 v qv))
          have HU := Lib.hid ((HU2.out.later hB3).later (below_url u3 v qv))
          have HV := Lib.hid (hnew.row v qv)
          clear CP2 hst hn hB3 HB2 HM2 HU2
          go_wp2_with ((with_reducible refine wp_store27 (o := ⟨none, .store 27 (.tmp 10) (.tmp 103), _, _, _, _⟩) ?_ (.tmp 10) (.tmp 103) ?_ u3.heap.size ?_ v qv ?_ H9.out hone none1 (.slice none 0 0) rfl hnew ?_); (· rfl); (· rfl); (· rfl); (· rfl))
          generalize (u3.alloc (.cells #[.string ⟨#[]⟩, .string ⟨#[]⟩, .string ⟨#[]⟩, .int .i64 0, .string ⟨#[]⟩, .int .i64 0, .int .i64 0, .int .i64 0, .int .i64 0, .int .i64 0, .int .i64 0, .int .i64 0, .int .i64 0, .int .i64 0, .int .i64 0, .slice none 0 0, .string ⟨#[]⟩, .string ⟨#[]⟩, .string ⟨#[]⟩, .bool false, .bool false] 27)).setRow u3.heap.size (cU v qv) = W at HB HM HU HV ⊢
          generalize u3.heap.size = g2 at HV ⊢
          clear hnew hone
          have L1 := Lib.hid (q_usr HU.out H8.out)
          have L2 := Lib.hid (q_pas HU.out H8.out)
          have L3 := Lib.hid (show Q24 W g1 3 aH from by rw [← HU3.out]; exact q_host HU.out H8.out)
          have L4 := Lib.hid (show Q9 W g2 1 (tb u.usr) from by rw [← HV1.out]; exact q_usr HV.out H9.out)
          have L5 := Lib.hid (show Q9 W g2 2 ⟨#[]⟩ from by rw [← HV2.out]; exact q_pas HV.out H9.out)
          have L6 := Lib.hid (show Q24 W g2 3 aH from by rw [← HV3.out]; exact q_host HV.out H9.out)
          generalize tb u.usr = E1 at L1 L4 CE1
          generalize tb u.pas = E2 at L2 CE2
          clear HU HV H8 H9 HU3 HV1 HV2 HV3
          refine Ascii.wp_region_quiet_below (by kernel_rfl) (by kernel_rfl) ?_
          iterate 3 (go_big_quiet_step ((intro _; rfl)))
          ((go_big_quiet_want; (with_reducible refine Host.quiet_load (o := ⟨some 108, .load 9 (.tmp 107), _, _, _, _⟩) 9 (.tmp 107) ?_ _ ?_ _ L1.out ?_); (· rfl); (· rfl)); go_big_quiet_on; simp only [Act.put, List.setIfInBounds_toArray, List.set_cons_succ, List.set_cons_zero])
          iterate 1 (go_big_quiet_step ((intro _; rfl)))
          go_big_quiet_step ((intro hu; go_at_call 29; exact (CE1.out _).mono fun e u' h => ⟨h.1, hu.trans (h.2.mono hu.size)⟩))
          iterate 4 (go_big_quiet_step ((intro _; rfl)))
          ((go_big_quiet_want; (with_reducible refine Host.quiet_load (o := ⟨some 115, .load 9 (.tmp 114), _, _, _, _⟩) 9 (.tmp 114) ?_ _ ?_ _ L2.out ?_); (· rfl); (· rfl)); go_big_quiet_on; simp only [Act.put, List.setIfInBounds_toArray, List.set_cons_succ, List.set_cons_zero])
          iterate 1 (go_big_quiet_step ((intro _; rfl)))
          go_big_quiet_step ((intro hu; go_at_call 29; exact (CE2.out _).mono fun e u' h => ⟨h.1, hu.trans (h.2.mono hu.size)⟩))
          iterate 4 (go_big_quiet_step ((intro _; rfl)))
          ((go_big_quiet_want; (with_reducible refine Host.quiet_load (o := ⟨some 122, .load 24 (.tmp 121), _, _, _, _⟩) 24 (.tmp 121) ?_ _ ?_ _ L3.out ?_); (· rfl); (· rfl)); go_big_quiet_on; simp only [Act.put, List.setIfInBounds_toArray, List.set_cons_succ, List.set_cons_zero])
          go_big_quiet_step ((intro hu; go_at_call 26; exact (CS.out _ (HM.out.later hu)).mono fun e u' h => ⟨h.1, hu.trans (h.2.mono hu.size)⟩))
          iterate 7 (go_big_quiet_step ((intro _; rfl)))
          ((go_big_quiet_want; (with_reducible refine Host.quiet_load (o := ⟨some 131, .load 9 (.tmp 130), _, _, _, _⟩) 9 (.tmp 130) ?_ _ ?_ _ L4.out ?_); (· rfl); (· rfl)); go_big_quiet_on; simp only [Act.put, List.setIfInBounds_toArray, List.set_cons_succ, List.set_cons_zero])
          iterate 1 (go_big_quiet_step ((intro _; rfl)))
          ((go_big_quiet_want; (with_reducible refine Host.quiet_load (o := ⟨some 133, .load 9 (.tmp 132), _, _, _, _⟩) 9 (.tmp 132) ?_ _ ?_ _ L1.out ?_); (· rfl); (· rfl)); go_big_quiet_on; simp only [Act.put, List.setIfInBounds_toArray, List.set_cons_succ, List.set_cons_zero])
          iterate 4 (go_big_quiet_step ((intro _; rfl)))
          ((go_big_quiet_want; (with_reducible refine Host.quiet_load (o := ⟨some 138, .load 9 (.tmp 137), _, _, _, _⟩) 9 (.tmp 137) ?_ _ ?_ _ L5.out ?_); (· rfl); (· rfl)); go_big_quiet_on; simp only [Act.put, List.setIfInBounds_toArray, List.set_cons_succ, List.set_cons_zero])
          iterate 4 (go_big_quiet_step ((intro _; rfl)))
          ((go_big_quiet_want; (with_reducible refine Host.quiet_load (o := ⟨some 143, .load 24 (.tmp 142), _, _, _, _⟩) 24 (.tmp 142) ?_ _ ?_ _ L6.out ?_); (· rfl); (· rfl)); go_big_quiet_on; simp only [Act.put, List.setIfInBounds_toArray, List.set_cons_succ, List.set_cons_zero])
          iterate 1 (go_big_quiet_step ((intro _; rfl)))
          ((go_big_quiet_want; (with_reducible refine Host.quiet_load (o := ⟨some 145, .load 24 (.tmp 144), _, _, _, _⟩) 24 (.tmp 144) ?_ _ ?_ _ L3.out ?_); (· rfl); (· rfl)); go_big_quiet_on; simp only [Act.put, List.setIfInBounds_toArray, List.set_cons_succ, List.set_cons_zero])
          repeat (go_big_quiet_step ((intro _; rfl)))
          refine wpQuiet_nil ?_
          intro x hx
          go_wp2
          go_ret
          exact ⟨rfl, Ascii.below2 HB.out hx⟩

/-! ### The row's step -/
theorem reads (os : Os) {H : Type} (enc : TypeId × Value → H) : (DataW.whole enc Tryz.prog ((Card.laidWorld os).forCall (fun _ _ => 0) ⟨#[], #[.string ByteArray.empty, .string ByteArray.empty], []⟩).memory Tryz.f9.params.toList Rows.urlUserSpec.vars false (#[.string ByteArray.empty, .string ByteArray.empty] : Array Value).toList 8).map (fun x => (x.1, x.2.1)) = some ([.lit (.string []), .lit (.string [])], []) := by kernel_rfl
set_option maxRecDepth 100000 in
theorem lifted (os : Os) (started : os.Started) (H : Type) (enc : TypeId × Value → H) (F : Stop.Interp) :
    ReturnsInHanded {} Tryz.checked os 9 .any ((OpenSpec.ofChange Rows.urlUserSpec).preRow enc Tryz.prog Tryz.f9 Rows.urlUserRow.domain false Rows.urlUserRow.laid) (((OpenSpec.ofChange Rows.urlUserSpec).at F).post enc Tryz.prog Tryz.f9 false true false false) := by
  obtain ⟨⟨x1, x2, x3⟩, hx, hx1⟩ := Option.map_eq_some_iff.1 (reads os enc)
  simp only [Prod.mk.injEq] at hx1
  obtain ⟨rfl, rfl⟩ := hx1
  refine returnsInHanded_of_row (C := Tryz.checked) (s := OpenSpec.ofChange Rows.urlUserSpec) own started (by kernel_rfl) Tryz.func9
    (witness_row_at (enc := enc) (C := Tryz.checked) false (Card.laidWorld os) #[.string ByteArray.empty, .string ByteArray.empty] rfl (by kernel_rfl) (by kernel_rfl) (by kernel_rfl)
      (OpenSpec.preRow_of_cond 8 hx (by kernel_rfl) (fun k hk => by cases hk) (by kernel_rfl) (Card.laid_met os _))) ?_
  intro W base args ds gs before hval0 hW _ _ _ hL hsh _
  obtain ⟨m, hmax⟩ := Card.maxLen_int hsh
  have hm : Six.At m W := ⟨hmax, Six.tab_of hL⟩
  have hval : ∀ (j : Nat) t v, Tryz.f9.params[j]? = some t → args[j]? = some v → Value.okWide Tryz.prog W .any base t v := hval0
  have hW' := hW
  obtain ⟨p, q, hA0, hV, rfl, hfz, hnd⟩ := hW
  have hA : DataW.TrodAll enc Tryz.prog W 0 (fun _ => true) true Tryz.f9.params.toList args.toList ds p := hA0
  rw [Tryz.params9] at hA hval
  obtain ⟨v0, vs0, d0, ds0, p0, q0, hargs0, rfl, rfl, t0, r0⟩ := trodAll_cons hA
  obtain ⟨v1, vs1, d1, ds1, p1, q1, hargs1, rfl, rfl, t1, r1⟩ := trodAll_cons r0
  obtain ⟨rfl, rfl, rfl⟩ := trodAll_nil r1
  obtain rfl : args = #[v0, v1] := by cases args; simp_all
  obtain ⟨rfl, rfl⟩ := trodVars_none hV
  obtain ⟨a0, rfl, rfl, rfl, w0⟩ := open_string Tryz.underlying9 (hval 0 9 v0 rfl rfl) t0
  obtain ⟨a1, rfl, rfl, rfl, w1⟩ := open_string Tryz.underlying9 (hval 1 9 v1 rfl rfl) t1
  clear hA0 hval0
  simp only [List.append_nil] at hW'
  refine (walk a0 a1 w0 w1 m W hm ).mono fun e W' ⟨he, bel⟩ => ?_
  subst he
  exact ⟨_, rfl, _, _, _, [], _, [], hW', trodAll_mk1 (shut_bool Tryz.underlying4 _), (trodAll_cons_mk (shut_string Tryz.underlying9 w0) (trodAll_cons_mk (shut_string Tryz.underlying9 w1) trodAll_mk0)), rfl, bel.frame _, fun h => by cases h⟩

theorem said : Rows.urlUserRow.holds Tryz.pinned (OpenSpec.ofChange Rows.urlUserSpec) :=
  OpenClaim.holds_of_cond 9 Tryz.f9 rfl rfl rfl rfl rfl rfl rfl ⟨rfl, rfl, rfl, rfl, rfl⟩ rfl rfl rfl rfl rfl (by kernel_rfl) Tryz.func9 (by kernel_rfl)
    (of_decide_eq_true (by kernel_rfl)) (by unfold Func.isWrapper; first | (rw [if_pos (by decide +kernel)]; kernel_rfl) | (rw [if_neg (by decide +kernel)]; exact ⟨rfl, rfl⟩))
    (fun os started H enc _ F => by rw [OpenClaim.pre_eq_preRow]; exact lifted os started H enc F)

/-- No parameter wants a stand-in; the program's own looks are on. -/
theorem plain (f : FuncId) (fn : Func) (hf : Tryz.pinned.checked.prog.funcNamed Rows.urlUserRow.func = some f) (hfn : Tryz.pinned.checked.prog.funcs[f]? = some fn) :
    true = Tryz.pinned.checked.prog.looks [] ∧ ∀ (j : Nat) t, fn.params[j]? = some t → Tryz.pinned.checked.prog.wantsStandIn t = false := by
  obtain rfl : f = 9 := Option.some.inj ((show Tryz.prog.funcNamed Rows.urlUserRow.func = some 9 by kernel_rfl).symm.trans hf) |>.symm
  obtain rfl : fn = Tryz.f9 := (Option.some.inj (Tryz.func9.symm.trans hfn)).symm
  refine ⟨by kernel_rfl, fun j t ht => ?_⟩
  rw [Tryz.params9] at ht
  obtain rfl : t = 9 := by simpa using Array.mem_of_getElem? ht
  · exact (show Tryz.prog.wantsStandIn 9 = false by kernel_rfl)

/-- The statement: the card. -/
theorem proved : Rows.UrlUserCardSaid :=
  Claim7.holds_tied_plain_at .later [] _ _ _ _ said (fun _ h => by cases h) (by kernel_rfl) (fun _ h => by cases h) urlUser_row_tie rfl ⟨rfl, rfl⟩ (by kernel_rfl) rfl plain (by kernel_rfl)
#print axioms proved
end Go.Proofs.YtfdhhjigpboieaaGreatDoor.urlUser

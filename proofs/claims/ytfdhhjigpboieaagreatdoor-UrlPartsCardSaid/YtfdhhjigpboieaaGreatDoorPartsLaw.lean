/-
  WHAT IS PROVED: the card of UrlParts: of any host that may be and has a name of at most 100 bytes, and any two texts of at most 100 bytes without a low byte or a number sign (the first without a question mark too): the address that the host's text, the first text as a path and the second as a query make is parsed, and has that host, that path, that query encoded, no fragment, no user, no port, and its scheme.
  CONDITIONS: none but the card's own: the listed tables read as their texts lay them; host and texts are any.
-/
import Derived.Test.YtfdhhjigpboieaaGreatDoorCards
import Derived.Test.YtfdhhjigpboieaaGreatDoorTie
import Derived.WalkKit
import Derived.ProofKit
import Derived.OpenShut
import Derived.ShutString
import Derived.ChangeOld
import Derived.Below
import Derived.Deep.RegionHeld
import Derived.Laws.AppendOwnNone
import Derived.Test.YtfdhhjigpboieaaGreatDoorUQuiet
namespace Go.Proofs.YtfdhhjigpboieaaGreatDoor.urlParts
open Go.ChangeShapes Go.WideShapes Go.ChangeAt Go.RowKit
open Go.ChangeMaps (open_string shut_string)
open Go.Shelf
open Go.Proofs.YtfdhhjigpboieaaGreatDoor.Url
open Go.Proofs.YtfdhhjigpboieaaGreatDoor.Host (H)
open Go.Proofs.YtfdhhjigpboieaaGreatDoor.Path (Strs)
set_option linter.unusedSimpArgs false
set_option linter.unusedVariables false

theorem own : ownKnob Tryz.prog.godebug = none := by kernel_rfl
theorem laidOut : laidOutB Tryz.prog = true := by kernel_rfl

theorem fine3 (c : UInt8) : (decide ((c.toNat : Int) ≤ 32) = true) ∨ (decide ((c.toNat : Int) ≤ 32) = false ∧ ((c.toNat : Int) == 63) = true) ∨
    (decide ((c.toNat : Int) ≤ 32) = false ∧ ((c.toNat : Int) == 63) = false ∧ ((c.toNat : Int) == 35) = true) ∨
    (decide ((c.toNat : Int) ≤ 32) = false ∧ ((c.toNat : Int) == 63) = false ∧ ((c.toNat : Int) == 35) = false) := by
  cases decide ((c.toNat : Int) ≤ 32) <;> cases ((c.toNat : Int) == 63) <;> cases ((c.toNat : Int) == 35) <;> simp
theorem fine2 (c : UInt8) : (decide ((c.toNat : Int) ≤ 32) = true) ∨ (decide ((c.toNat : Int) ≤ 32) = false ∧ ((c.toNat : Int) == 35) = true) ∨
    (decide ((c.toNat : Int) ≤ 32) = false ∧ ((c.toNat : Int) == 35) = false) := by
  cases decide ((c.toNat : Int) ≤ 32) <;> cases ((c.toNat : Int) == 35) <;> simp
def fineS (c : UInt8) : Prop := 32 < c.toNat ∧ c.toNat ≠ 63 ∧ c.toNat ≠ 35
def fineQ (c : UInt8) : Prop := 32 < c.toNat ∧ c.toNat ≠ 35
theorem fineS_of (c : UInt8) (h1 : decide ((c.toNat : Int) ≤ 32) = false) (h4 : ((c.toNat : Int) == 63) = false) (h5 : ((c.toNat : Int) == 35) = false) : fineS c := by
  simp only [decide_eq_false_iff_not, beq_eq_false_iff_ne, ne_eq] at h1 h4 h5
  exact ⟨by omega, by omega, by omega⟩
theorem fineQ_of (c : UInt8) (h1 : decide ((c.toNat : Int) ≤ 32) = false) (h5 : ((c.toNat : Int) == 35) = false) : fineQ c := by
  simp only [decide_eq_false_iff_not, beq_eq_false_iff_ne, ne_eq] at h1 h5
  exact ⟨by omega, by omega⟩
set_option maxRecDepth 100000 in
set_option maxHeartbeats 16000000 in
theorem walk (a0 : Host.H) (l0 : a0.p.length = 8) (a1 a2 : ByteArray) (wh : Six.wfH a0) (w1 : a1.size ≤ maxLen) (w2 : a2.size ≤ maxLen) (m : Int) (w : World) (hm : Six.At m w) :
    Calls Tryz.prog 7 #[.agg a0.cells, .string a1, .string a2] w fun e w' => e = .returned (.bool true) ∧ Below w.heap.size w w' := by
  unfold maxLen at w1 w2
  have HB0 := Lib.hid (show Below w.heap.size w (w.alloc (.cells a0.cells 24)) from (Below.refl _ w).alloc (Nat.le_refl _) _)
  have HH0 := Lib.hid (Host.HostAt.new w a0)
  have HM0 := Lib.hid (hm.later HB0.out)
  clear wh hm
  go_enter Tryz.func7, Tryz.ntmps7
  go_wp2_with fail
  generalize w.alloc (.cells a0.cells 24) = W0 at HB0 HH0 HM0 ⊢
  refine (awake_calls m W0 HM0.out).mono ?_
  rintro e u1 ⟨rfl, hB1⟩
  have HB1 := Lib.hid (Ascii.below2 HB0.out hB1)
  have HH1 := Lib.hid (HH0.out.later hB1)
  have HM1 := Lib.hid (HM0.out.later hB1)
  clear HB0 HH0 HM0 hB1
  have c1 : u1.cell? ⟨w.heap.size, 1, none⟩ = some (.string a0.s) := HH1.out.cell 1
  by_cases hs : a0.s.size ≤ 100
  case neg =>
    have q0 : decide ((100 : Int) < (a0.s.size : Int)) = true := decide_eq_true (by omega)
    go_wp2
    go_ret
    exact ⟨rfl, HB1.out⟩
  have q0 : decide ((100 : Int) < (a0.s.size : Int)) = false := decide_eq_false (by omega)
  by_cases h1 : a1.size ≤ 100
  case neg =>
    have q1 : decide ((100 : Int) < (a1.size : Int)) = true := decide_eq_true (by omega)
    go_wp2
    go_ret
    exact ⟨rfl, HB1.out⟩
  have q1 : decide ((100 : Int) < (a1.size : Int)) = false := decide_eq_false (by omega)
  by_cases h2 : a2.size ≤ 100
  case neg =>
    have q2 : decide ((100 : Int) < (a2.size : Int)) = true := decide_eq_true (by omega)
    go_wp2
    go_ret
    exact ⟨rfl, HB1.out⟩
  have q2 : decide ((100 : Int) < (a2.size : Int)) = false := decide_eq_false (by omega)
  obtain ⟨b, hb⟩ : ∃ b, Host.mayH a0 = b := ⟨_, rfl⟩
  go_wp2_with ((with_reducible refine Host.wp_load24 (o := ⟨some 32, .load 24 (.tmp 3), _, _, _, _⟩) ?_ (.tmp 3) ?_ w.heap.size ?_ a0 l0 HH1.out ?_); (· rfl); (· rfl); (· rfl); simp only [Act.put, List.setIfInBounds_toArray, List.set_cons_zero, List.set_cons_succ])
  refine (Host.may_any a0 l0 (by omega) b hb m _ HM1.out).mono ?_
  rintro e u2 ⟨rfl, hB2⟩
  have HB2 := Lib.hid (Ascii.below2 HB1.out hB2)
  have HH2 := Lib.hid (HH1.out.later hB2)
  have HM2 := Lib.hid (HM1.out.later hB2)
  clear HB1 HH1 HM1 hB2 c1 q0 q1 q2 w1 w2
  cases b
  · go_wp2
    go_ret
    exact ⟨rfl, HB2.out⟩
  go_wp2
  go_loop [8] (fun i => ∃ k : Nat, k ≤ a1.size ∧ i = .int .i64 k ∧ Hid (∀ c ∈ a1.data.toList.take k, fineS c)) (fun i => a1.size - (intOf i).toNat)
  case atStart => exact ⟨0, Nat.zero_le _, rfl, Lib.hid (by simp)⟩
  case round =>
    obtain ⟨k, hk, rfl, HA⟩ := hrel
    by_cases hlt : k < a1.size
    · rcases fine3 a1[k] with g1 | ⟨g1, g2⟩ | ⟨g1, g2, g3⟩ | ⟨g1, g2, g3⟩
      · go_wp2
        go_ret
        exact ⟨rfl, HB2.out⟩
      · go_wp2
        go_ret
        exact ⟨rfl, HB2.out⟩
      · go_wp2
        go_ret
        exact ⟨rfl, HB2.out⟩
      · have HN := Lib.hid (snoc_all fineS a1 k hlt HA.out (fineS_of _ g1 g2 g3))
        clear HA
        go_wp2
        go_round
        case rel => exact ⟨k + 1, by omega, by go_num, HN⟩
        case measure => simp [intOf]; omega
    · obtain rfl : k = a1.size := by omega
      have HA0 := Lib.hid (take_all fineS a1 HA.out)
      clear HA
      go_wp2
      go_loop [9] (fun i => ∃ k : Nat, k ≤ a2.size ∧ i = .int .i64 k ∧ Hid (∀ c ∈ a2.data.toList.take k, fineQ c)) (fun i => a2.size - (intOf i).toNat)
      case atStart => exact ⟨0, Nat.zero_le _, rfl, Lib.hid (by simp)⟩
      case round =>
        obtain ⟨k, hk, rfl, HA⟩ := hrel
        by_cases hlt : k < a2.size
        · rcases fine2 a2[k] with g1 | ⟨g1, g2⟩ | ⟨g1, g2⟩
          · go_wp2
            go_ret
            exact ⟨rfl, HB2.out⟩
          · go_wp2
            go_ret
            exact ⟨rfl, HB2.out⟩
          · have HN := Lib.hid (snoc_all fineQ a2 k hlt HA.out (fineQ_of _ g1 g2))
            clear HA
            go_wp2
            go_round
            case rel => exact ⟨k + 1, by omega, by go_num, HN⟩
            case measure => simp [intOf]; omega
        · obtain rfl : k = a2.size := by omega
          have HA1 := Lib.hid (take_all fineQ a2 HA.out)
          clear HA
          have hmay : Host.mayH a0 = true := hb
          obtain ⟨k1, k2, k3, k4⟩ := Host.show_back a0 l0 hmay
          obtain ⟨sH, hsH⟩ : ∃ s, tb (Host.showH a0) = s := ⟨_, rfl⟩
          have hsH1 : sH.size ≤ 100 := by rw [size_tb hsH]; exact k4
          obtain ⟨z, hz⟩ : ∃ z, (⟨#[104, 116, 116, 112, 58, 47, 47]⟩ : ByteArray) ++ sH ++ ⟨#[47]⟩ ++ a1 ++ ⟨#[63]⟩ ++ a2 = z := ⟨_, rfl⟩
          have hzl : z.data.toList = http ++ 58 :: 47 :: 47 :: (Host.showH a0 ++ 47 :: (a1.data.toList ++ 63 :: a2.data.toList)) := by
            rw [← hz, Path.text_append, Path.text_append, Path.text_append, Path.text_append, Path.text_append, list_tb hsH, show (⟨#[104, 116, 116, 112, 58, 47, 47]⟩ : ByteArray).data.toList = http ++ [58, 47, 47] from rfl, show (⟨#[47]⟩ : ByteArray).data.toList = [47] from rfl, show (⟨#[63]⟩ : ByteArray).data.toList = [63] from rfl]
            simp
          have hzs : z.size ≤ 400 := by rw [← hz]; simp only [size_app]; show 7 + sH.size + 1 + a1.size + 1 + a2.size ≤ 400; omega
          obtain ⟨o1, o2⟩ := parts_law a0 l0 hmay a1.data.toList a2.data.toList HA0.out HA1.out
          have hsh := Path.parse_show_len (47 :: a1.data.toList)
          have hcn := Path.show_count (Path.parse (47 :: a1.data.toList))
          have hea := Path.show_each (Path.parse (47 :: a1.data.toList))
          have hll : a1.data.toList.length ≤ 100 := h1
          simp only [List.length_cons] at hsh
          obtain ⟨P, hP⟩ : ∃ P, Path.parse (47 :: a1.data.toList) = P := ⟨_, rfl⟩
          obtain ⟨E, hE⟩ : ∃ E, Pct.encode 2 a2.data.toList = E := ⟨_, rfl⟩
          obtain ⟨G, hG⟩ : ∃ G, (⟨#[47]⟩ : ByteArray) ++ a1 = G := ⟨_, rfl⟩
          have hGl : G.data.toList = 47 :: a1.data.toList := by rw [← hG, Path.text_append]; rfl
          have hGs : G.size ≤ 200 := by rw [← hG, size_app]; show 1 + a1.size ≤ 200; omega
          rw [hP] at hsh hcn hea
          rw [hP, hE] at o2
          have hPn : P.length ≤ 100000 := by omega
          have hPt : ∀ t ∈ P, t.length ≤ 1000000 := fun t ht => by have := hea t ht; omega
          obtain ⟨u, hu⟩ : ∃ u : U, (⟨http, [], [], a0, -1, P, [], E, [], true, false⟩ : U) = u := ⟨_, rfl⟩
          have H8 := Lib.hid (show u.h.p.length = 8 by rw [← hu]; exact l0)
          have CP := Lib.hid (fun w hm => parse_in z (by omega) true (by rw [hzl]; exact o1) m w hm)
          rw [hzl, o2, hu] at CP
          have CS := Lib.hid (fun w hm => Host.show_in a0 l0 (by omega) sH hsH m w hm)
          have CW := Lib.hid (fun v x hx => Path.show_any v P hPn hPt x hx)
          have CG := Lib.hid (fun x (hx : Six.At m x) => Path.parse_new G (by omega) m x hx.max)
          rw [hGl, hP] at CG
          have CE := Lib.hid (fun x => Pct.encode_any a2 (by omega) 2 x)
          rw [hE] at CE
          obtain ⟨D, hD⟩ : ∃ D : ByteArray, (⟨(Path.show1 P).toArray⟩ : ByteArray) = D := ⟨_, rfl⟩
          rw [hD] at CW
          have HZ := Lib.hid hz
          have HG := Lib.hid hG
          have HU0 := Lib.hid hu
          clear hz hzl o1 o2 hsh hcn hea hll hP hE hGl hD HA0 HA1 hmay hb hG hu hPn hPt
          go_wp2_with ((with_reducible refine Host.wp_load24 (o := ⟨some 76, .load 24 (.tmp 3), _, _, _, _⟩) ?_ (.tmp 3) ?_ w.heap.size ?_ a0 l0 HH2.out ?_); (· rfl); (· rfl); (· rfl); simp only [Act.put, List.setIfInBounds_toArray, List.set_cons_zero, List.set_cons_succ])
          refine (CS.out _ HM2.out).mono ?_
          rintro e u3 ⟨rfl, hB3⟩
          have HB3 := Lib.hid (Ascii.below2 HB2.out hB3)
          have HH3 := Lib.hid (HH2.out.later hB3)
          have HM3 := Lib.hid (HM2.out.later hB3)
          clear HB2 HH2 HM2 hB3 CS k1 k2 k3 k4 hsH
          go_wp2_with fail
          rw [HZ.out]
          refine (CP.out _ HM3.out).mono ?_
          rintro e u4 ⟨pv, rfl, hst, hn, hB4⟩
          have hone := strs_one hst
          have hnew := new_url u4
          have HB5 := Lib.hid (Ascii.below3 HB3.out hB4 (below_url u4 u pv))
          have HM5 := Lib.hid ((HM3.out.later hB4).later (below_url u4 u pv))
          have HH5 := Lib.hid ((HH3.out.later hB4).later (below_url u4 u pv))
          have HS5 := Lib.hid (hst.later (below_url u4 u pv))
          have HU5 := Lib.hid (hnew.row u pv)
          clear CP hst hn hB4 HB3 HM3 HH3 HZ
          go_wp2_with ((with_reducible refine wp_store27 (o := ⟨none, .store 27 (.tmp 10) (.tmp 86), _, _, _, _⟩) ?_ (.tmp 10) (.tmp 86) ?_ u4.heap.size ?_ u pv ?_ H8.out hone none1 (.slice none 0 0) rfl hnew ?_); (· rfl); (· rfl); (· rfl); (· rfl); simp only [Act.put, List.setIfInBounds_toArray, List.set_cons_zero, List.set_cons_succ])
          generalize (u4.alloc (.cells #[.string ⟨#[]⟩, .string ⟨#[]⟩, .string ⟨#[]⟩, .int .i64 0, .string ⟨#[]⟩, .int .i64 0, .int .i64 0, .int .i64 0, .int .i64 0, .int .i64 0, .int .i64 0, .int .i64 0, .int .i64 0, .int .i64 0, .int .i64 0, .slice none 0 0, .string ⟨#[]⟩, .string ⟨#[]⟩, .string ⟨#[]⟩, .bool false, .bool false] 27)).setRow u4.heap.size (cU u pv) = W at HB5 HM5 HH5 HS5 HU5 ⊢
          generalize u4.heap.size = g1 at HU5 ⊢
          generalize w.heap.size = g0 at HH5 ⊢
          clear hnew hone
          obtain rfl := HU0.out
          clear HU0
          have heq : ∀ x, (Op.equalIn 10000 24 (.agg a0.cells) (.agg a0.cells)).run Tryz.prog x = .ok true x := fun x => Host.eq24 a0 a0 l0 l0 true (Host.same_refl _) x
          have HC := Lib.hid (cU_at ⟨http, [], [], a0, -1, P, [], E, [], true, false⟩ pv l0)
          have hc : Below W.heap.size W W.drew := (Below.refl _ _).drew
          refine wp_region_held_drew (S := fun v => UrlAt v g1 ⟨http, [], [], a0, -1, P, [], E, [], true, false⟩ pv ∧ Host.HostAt v g0 a0) (by kernel_rfl) ⟨HU5.out.later hc, HH5.out.later hc⟩ (fun hS => ?_)
          refine wpAnyH_take (i := 0) (oi := ⟨some 88, .move (.tmp 11), _, _, _, _⟩) (v := .bool true) rfl (by kernel_rfl) (by kernel_rfl) (by kernel_rfl) (fun _ _ _ h => h) (Or.inl ⟨by rfl, ?_⟩) (by assumption) ?_
          · (intro v hv; go_simp)
          simp only [Act.put, List.setIfInBounds_toArray, List.set_cons_zero, List.set_cons_succ]
          refine wpAnyH_take (i := 1) (oi := ⟨some 89, .move (.tmp 88), _, _, _, _⟩) (v := .bool true) rfl (by kernel_rfl) (by kernel_rfl) (by kernel_rfl) (fun _ _ _ h => h) (Or.inl ⟨by rfl, ?_⟩) (by assumption) ?_
          · (intro v hv; go_simp)
          simp only [Act.put, List.setIfInBounds_toArray, List.set_cons_zero, List.set_cons_succ]
          refine wpAnyH_take (i := 2) (oi := ⟨some 90, .fieldAddr 27 (.tmp 10) 3, _, _, _, _⟩) (v := .pointer (some ⟨g1, 3, none⟩)) rfl (by kernel_rfl) (by kernel_rfl) (by kernel_rfl) (fun _ _ _ h => h) (Or.inl ⟨by rfl, ?_⟩) (by assumption) ?_
          · (intro v hv; go_simp)
          simp only [Act.put, List.setIfInBounds_toArray, List.set_cons_zero, List.set_cons_succ]
          refine wpAnyH_take (i := 3) (oi := ⟨some 91, .load 24 (.tmp 90), _, _, _, _⟩) (v := .agg a0.cells) rfl (by kernel_rfl) (by kernel_rfl) (by kernel_rfl) (fun _ _ _ h => h) (Or.inl ⟨by rfl, ?_⟩) (by assumption) ?_
          · (exact fun v hv => run_load_of 24 (.tmp 90) ⟨g1, 3, none⟩ rfl (.agg a0.cells) (hv.1.host l0))
          simp only [Act.put, List.setIfInBounds_toArray, List.set_cons_zero, List.set_cons_succ]
          refine wpAnyH_take (i := 4) (oi := ⟨some 92, .load 24 (.tmp 3), _, _, _, _⟩) (v := .agg a0.cells) rfl (by kernel_rfl) (by kernel_rfl) (by kernel_rfl) (fun _ _ _ h => h) (Or.inl ⟨by rfl, ?_⟩) (by assumption) ?_
          · (exact fun v hv => run_load_of 24 (.tmp 3) ⟨g0, 0, none⟩ rfl (.agg a0.cells) (hv.2.load l0))
          simp only [Act.put, List.setIfInBounds_toArray, List.set_cons_zero, List.set_cons_succ]
          refine wpAnyH_take (i := 5) (oi := ⟨some 93, .binOp .eql 24 (.tmp 91) (.tmp 92) 24, _, _, _, _⟩) (v := .bool true) rfl (by kernel_rfl) (by kernel_rfl) (by kernel_rfl) (fun _ _ _ h => h) (Or.inl ⟨by rfl, ?_⟩) (by assumption) ?_
          · (intro v hv; have heq1 := heq v; go_simp)
          simp only [Act.put, List.setIfInBounds_toArray, List.set_cons_zero, List.set_cons_succ]
          refine wpAnyH_take (i := 6) (oi := ⟨some 94, .pick (.tmp 89) (.tmp 93) (.const (.bool false)), _, _, _, _⟩) (v := .bool true) rfl (by kernel_rfl) (by kernel_rfl) (by kernel_rfl) (fun _ _ _ h => h) (Or.inl ⟨by rfl, ?_⟩) (by assumption) ?_
          · (intro v hv; go_simp)
          simp only [Act.put, List.setIfInBounds_toArray, List.set_cons_zero, List.set_cons_succ]
          refine wpAnyH_take (i := 7) (oi := ⟨some 95, .move (.tmp 94), _, _, _, _⟩) (v := .bool true) rfl (by kernel_rfl) (by kernel_rfl) (by kernel_rfl) (fun _ _ _ h => h) (Or.inl ⟨by rfl, ?_⟩) (by assumption) ?_
          · (intro v hv; go_simp)
          simp only [Act.put, List.setIfInBounds_toArray, List.set_cons_zero, List.set_cons_succ]
          refine wpAnyH_take (i := 8) (oi := ⟨some 96, .fieldAddr 27 (.tmp 10) 5, _, _, _, _⟩) (v := .pointer (some ⟨g1, 15, none⟩)) rfl (by kernel_rfl) (by kernel_rfl) (by kernel_rfl) (fun _ _ _ h => h) (Or.inl ⟨by rfl, ?_⟩) (by assumption) ?_
          · (intro v hv; go_simp)
          simp only [Act.put, List.setIfInBounds_toArray, List.set_cons_zero, List.set_cons_succ]
          refine wpAnyH_take (i := 9) (oi := ⟨some 97, .load 25 (.tmp 96), _, _, _, _⟩) (v := pv) rfl (by kernel_rfl) (by kernel_rfl) (by kernel_rfl) (fun _ _ _ h => h) (Or.inl ⟨by rfl, ?_⟩) (by assumption) ?_
          · (exact fun v hv => run_load_of 25 (.tmp 96) ⟨g1, 15, none⟩ rfl (pv) (load25 ((hv.1.cell 15).trans HC.out.2.2.2.2.2.1)))
          simp only [Act.put, List.setIfInBounds_toArray, List.set_cons_zero, List.set_cons_succ]
          refine wpAnyH_take (i := 11) (oi := ⟨some 99, .move (.tmp 1), _, _, _, _⟩) (v := .string a1) rfl (by kernel_rfl) (by kernel_rfl) (by kernel_rfl) (fun _ _ _ h => h) (Or.inl ⟨by rfl, ?_⟩) (by assumption) ?_
          · (intro v hv; go_simp)
          simp only [Act.put, List.setIfInBounds_toArray, List.set_cons_zero, List.set_cons_succ]
          refine wpAnyH_take (i := 12) (oi := ⟨some 100, .binOp .add 9 (.const (.string ⟨#[47]⟩)) (.tmp 99) 9, _, _, _, _⟩) (v := .string G) rfl (by kernel_rfl) (by kernel_rfl) (by kernel_rfl) (fun _ _ _ h => h) (Or.inl ⟨by rfl, ?_⟩) (by assumption) ?_
          · (intro v hv; go_simp; rw [if_neg (by omega), HG.out])
          simp only [Act.put, List.setIfInBounds_toArray, List.set_cons_zero, List.set_cons_succ]
          refine wpAnyH_ready (rs := [10]) (by kernel_rfl) (by simp) ?_
          refine AllReadyH.cons (o := ⟨some 98, .call ⟨.value (.func 27), #[.tmp 97], _⟩, _, _, _, _⟩) rfl (fun K hK => ?_) AllReadyH.nil
          go_simp
          go_at_call 27
          refine (CW.out pv _ (HS5.out.later hc)).mono ?_
          rintro e v1 ⟨rfl, hB⟩
          have hc := below_trans hc hB
          refine hK.out _ _ ⟨HU5.out.later hc, HH5.out.later hc⟩ (fun hS => ?_)
          clear hB
          refine wpAnyH_ready (rs := [13]) (by kernel_rfl) (by simp) ?_
          refine AllReadyH.cons (o := ⟨some 101, .call ⟨.value (.func 28), #[.tmp 100], _⟩, _, _, _, _⟩) rfl (fun K hK => ?_) AllReadyH.nil
          go_simp
          go_at_call 28
          refine (CG.out _ (HM5.out.later hc)).mono ?_
          rintro e v2 ⟨rv, rfl, hrv, hB, hnew⟩
          have hc := below_trans hc hB
          refine hK.out _ _ ⟨HU5.out.later hc, HH5.out.later hc⟩ (fun hS => ?_)
          clear hB hnew
          refine wpAnyH_ready (rs := [14]) (by kernel_rfl) (by simp) ?_
          refine AllReadyH.cons (o := ⟨some 102, .call ⟨.value (.func 27), #[.tmp 101], _⟩, _, _, _, _⟩) rfl (fun K hK => ?_) AllReadyH.nil
          go_simp
          go_at_call 27
          refine (CW.out rv _ hrv).mono ?_
          rintro e v3 ⟨rfl, hB⟩
          have hc := below_trans hc hB
          refine hK.out _ _ ⟨HU5.out.later hc, HH5.out.later hc⟩ (fun hS => ?_)
          clear hB hrv
          refine wpAnyH_take (i := 15) (oi := ⟨some 103, .binOp .eql 9 (.tmp 98) (.tmp 102) 9, _, _, _, _⟩) (v := .bool true) rfl (by kernel_rfl) (by kernel_rfl) (by kernel_rfl) (fun _ _ _ h => h) (Or.inl ⟨by rfl, ?_⟩) (by assumption) ?_
          · (intro v hv; go_simp)
          simp only [Act.put, List.setIfInBounds_toArray, List.set_cons_zero, List.set_cons_succ]
          refine wpAnyH_take (i := 16) (oi := ⟨some 104, .pick (.tmp 95) (.tmp 103) (.const (.bool false)), _, _, _, _⟩) (v := .bool true) rfl (by kernel_rfl) (by kernel_rfl) (by kernel_rfl) (fun _ _ _ h => h) (Or.inl ⟨by rfl, ?_⟩) (by assumption) ?_
          · (intro v hv; go_simp)
          simp only [Act.put, List.setIfInBounds_toArray, List.set_cons_zero, List.set_cons_succ]
          refine wpAnyH_take (i := 17) (oi := ⟨some 105, .move (.tmp 104), _, _, _, _⟩) (v := .bool true) rfl (by kernel_rfl) (by kernel_rfl) (by kernel_rfl) (fun _ _ _ h => h) (Or.inl ⟨by rfl, ?_⟩) (by assumption) ?_
          · (intro v hv; go_simp)
          simp only [Act.put, List.setIfInBounds_toArray, List.set_cons_zero, List.set_cons_succ]
          refine wpAnyH_take (i := 18) (oi := ⟨some 106, .fieldAddr 27 (.tmp 10) 9, _, _, _, _⟩) (v := .pointer (some ⟨g1, 19, none⟩)) rfl (by kernel_rfl) (by kernel_rfl) (by kernel_rfl) (fun _ _ _ h => h) (Or.inl ⟨by rfl, ?_⟩) (by assumption) ?_
          · (intro v hv; go_simp)
          simp only [Act.put, List.setIfInBounds_toArray, List.set_cons_zero, List.set_cons_succ]
          refine wpAnyH_take (i := 19) (oi := ⟨some 107, .load 4 (.tmp 106), _, _, _, _⟩) (v := .bool true) rfl (by kernel_rfl) (by kernel_rfl) (by kernel_rfl) (fun _ _ _ h => h) (Or.inl ⟨by rfl, ?_⟩) (by assumption) ?_
          · (exact fun v hv => run_load_of 4 (.tmp 106) ⟨g1, 19, none⟩ rfl (.bool true) (load4 ((hv.1.cell 19).trans HC.out.2.2.2.2.2.2.2.2.2.1)))
          simp only [Act.put, List.setIfInBounds_toArray, List.set_cons_zero, List.set_cons_succ]
          refine wpAnyH_take (i := 20) (oi := ⟨some 108, .pick (.tmp 105) (.tmp 107) (.const (.bool false)), _, _, _, _⟩) (v := .bool true) rfl (by kernel_rfl) (by kernel_rfl) (by kernel_rfl) (fun _ _ _ h => h) (Or.inl ⟨by rfl, ?_⟩) (by assumption) ?_
          · (intro v hv; go_simp)
          simp only [Act.put, List.setIfInBounds_toArray, List.set_cons_zero, List.set_cons_succ]
          refine wpAnyH_take (i := 21) (oi := ⟨some 109, .move (.tmp 108), _, _, _, _⟩) (v := .bool true) rfl (by kernel_rfl) (by kernel_rfl) (by kernel_rfl) (fun _ _ _ h => h) (Or.inl ⟨by rfl, ?_⟩) (by assumption) ?_
          · (intro v hv; go_simp)
          simp only [Act.put, List.setIfInBounds_toArray, List.set_cons_zero, List.set_cons_succ]
          refine wpAnyH_take (i := 22) (oi := ⟨some 110, .fieldAddr 27 (.tmp 10) 7, _, _, _, _⟩) (v := .pointer (some ⟨g1, 17, none⟩)) rfl (by kernel_rfl) (by kernel_rfl) (by kernel_rfl) (fun _ _ _ h => h) (Or.inl ⟨by rfl, ?_⟩) (by assumption) ?_
          · (intro v hv; go_simp)
          simp only [Act.put, List.setIfInBounds_toArray, List.set_cons_zero, List.set_cons_succ]
          refine wpAnyH_take (i := 23) (oi := ⟨some 111, .load 9 (.tmp 110), _, _, _, _⟩) (v := .string (tb E)) rfl (by kernel_rfl) (by kernel_rfl) (by kernel_rfl) (fun _ _ _ h => h) (Or.inl ⟨by rfl, ?_⟩) (by assumption) ?_
          · (exact fun v hv => run_load_of 9 (.tmp 110) ⟨g1, 17, none⟩ rfl (.string (tb E)) (load9 ((hv.1.cell 17).trans HC.out.2.2.2.2.2.2.2.1)))
          simp only [Act.put, List.setIfInBounds_toArray, List.set_cons_zero, List.set_cons_succ]
          refine wpAnyH_take (i := 24) (oi := ⟨some 112, .move (.tmp 2), _, _, _, _⟩) (v := .string a2) rfl (by kernel_rfl) (by kernel_rfl) (by kernel_rfl) (fun _ _ _ h => h) (Or.inl ⟨by rfl, ?_⟩) (by assumption) ?_
          · (intro v hv; go_simp)
          simp only [Act.put, List.setIfInBounds_toArray, List.set_cons_zero, List.set_cons_succ]
          refine wpAnyH_ready (rs := [25]) (by kernel_rfl) (by simp) ?_
          refine AllReadyH.cons (o := ⟨some 113, .call ⟨.value (.func 29), #[.tmp 112, .const (.int .i64 2)], _⟩, _, _, _, _⟩) rfl (fun K hK => ?_) AllReadyH.nil
          go_simp
          go_at_call 29
          refine (CE.out _).mono ?_
          rintro e v4 ⟨rfl, hB⟩
          have hc := below_trans hc hB
          refine hK.out _ _ ⟨HU5.out.later hc, HH5.out.later hc⟩ (fun hS => ?_)
          clear hB
          refine wpAnyH_take (i := 26) (oi := ⟨some 114, .binOp .eql 9 (.tmp 111) (.tmp 113) 9, _, _, _, _⟩) (v := .bool true) rfl (by kernel_rfl) (by kernel_rfl) (by kernel_rfl) (fun _ _ _ h => h) (Or.inl ⟨by rfl, ?_⟩) (by assumption) ?_
          · (intro v hv; go_simp; first | rfl | (simp [tb]))
          simp only [Act.put, List.setIfInBounds_toArray, List.set_cons_zero, List.set_cons_succ]
          refine wpAnyH_take (i := 27) (oi := ⟨some 115, .pick (.tmp 109) (.tmp 114) (.const (.bool false)), _, _, _, _⟩) (v := .bool true) rfl (by kernel_rfl) (by kernel_rfl) (by kernel_rfl) (fun _ _ _ h => h) (Or.inl ⟨by rfl, ?_⟩) (by assumption) ?_
          · (intro v hv; go_simp)
          simp only [Act.put, List.setIfInBounds_toArray, List.set_cons_zero, List.set_cons_succ]
          refine wpAnyH_take (i := 28) (oi := ⟨some 116, .move (.tmp 115), _, _, _, _⟩) (v := .bool true) rfl (by kernel_rfl) (by kernel_rfl) (by kernel_rfl) (fun _ _ _ h => h) (Or.inl ⟨by rfl, ?_⟩) (by assumption) ?_
          · (intro v hv; go_simp)
          simp only [Act.put, List.setIfInBounds_toArray, List.set_cons_zero, List.set_cons_succ]
          refine wpAnyH_take (i := 29) (oi := ⟨some 117, .fieldAddr 27 (.tmp 10) 10, _, _, _, _⟩) (v := .pointer (some ⟨g1, 20, none⟩)) rfl (by kernel_rfl) (by kernel_rfl) (by kernel_rfl) (fun _ _ _ h => h) (Or.inl ⟨by rfl, ?_⟩) (by assumption) ?_
          · (intro v hv; go_simp)
          simp only [Act.put, List.setIfInBounds_toArray, List.set_cons_zero, List.set_cons_succ]
          refine wpAnyH_take (i := 30) (oi := ⟨some 118, .load 4 (.tmp 117), _, _, _, _⟩) (v := .bool false) rfl (by kernel_rfl) (by kernel_rfl) (by kernel_rfl) (fun _ _ _ h => h) (Or.inl ⟨by rfl, ?_⟩) (by assumption) ?_
          · (exact fun v hv => run_load_of 4 (.tmp 117) ⟨g1, 20, none⟩ rfl (.bool false) (load4 ((hv.1.cell 20).trans HC.out.2.2.2.2.2.2.2.2.2.2)))
          simp only [Act.put, List.setIfInBounds_toArray, List.set_cons_zero, List.set_cons_succ]
          refine wpAnyH_take (i := 31) (oi := ⟨some 119, .unOp .not 4 (.tmp 118), _, _, _, _⟩) (v := .bool true) rfl (by kernel_rfl) (by kernel_rfl) (by kernel_rfl) (fun _ _ _ h => h) (Or.inl ⟨by rfl, ?_⟩) (by assumption) ?_
          · (intro v hv; go_simp)
          simp only [Act.put, List.setIfInBounds_toArray, List.set_cons_zero, List.set_cons_succ]
          refine wpAnyH_take (i := 32) (oi := ⟨some 120, .pick (.tmp 116) (.tmp 119) (.const (.bool false)), _, _, _, _⟩) (v := .bool true) rfl (by kernel_rfl) (by kernel_rfl) (by kernel_rfl) (fun _ _ _ h => h) (Or.inl ⟨by rfl, ?_⟩) (by assumption) ?_
          · (intro v hv; go_simp)
          simp only [Act.put, List.setIfInBounds_toArray, List.set_cons_zero, List.set_cons_succ]
          refine wpAnyH_take (i := 33) (oi := ⟨some 121, .move (.tmp 120), _, _, _, _⟩) (v := .bool true) rfl (by kernel_rfl) (by kernel_rfl) (by kernel_rfl) (fun _ _ _ h => h) (Or.inl ⟨by rfl, ?_⟩) (by assumption) ?_
          · (intro v hv; go_simp)
          simp only [Act.put, List.setIfInBounds_toArray, List.set_cons_zero, List.set_cons_succ]
          refine wpAnyH_take (i := 34) (oi := ⟨some 122, .fieldAddr 27 (.tmp 10) 1, _, _, _, _⟩) (v := .pointer (some ⟨g1, 1, none⟩)) rfl (by kernel_rfl) (by kernel_rfl) (by kernel_rfl) (fun _ _ _ h => h) (Or.inl ⟨by rfl, ?_⟩) (by assumption) ?_
          · (intro v hv; go_simp)
          simp only [Act.put, List.setIfInBounds_toArray, List.set_cons_zero, List.set_cons_succ]
          refine wpAnyH_take (i := 35) (oi := ⟨some 123, .load 9 (.tmp 122), _, _, _, _⟩) (v := .string ⟨#[]⟩) rfl (by kernel_rfl) (by kernel_rfl) (by kernel_rfl) (fun _ _ _ h => h) (Or.inl ⟨by rfl, ?_⟩) (by assumption) ?_
          · (exact fun v hv => run_load_of 9 (.tmp 122) ⟨g1, 1, none⟩ rfl (.string ⟨#[]⟩) (load9 ((hv.1.cell 1).trans HC.out.2.1)))
          simp only [Act.put, List.setIfInBounds_toArray, List.set_cons_zero, List.set_cons_succ]
          refine wpAnyH_take (i := 36) (oi := ⟨some 124, .binOp .eql 9 (.tmp 123) (.const (.string ⟨#[]⟩)) 9, _, _, _, _⟩) (v := .bool true) rfl (by kernel_rfl) (by kernel_rfl) (by kernel_rfl) (fun _ _ _ h => h) (Or.inl ⟨by rfl, ?_⟩) (by assumption) ?_
          · (intro v hv; go_simp)
          simp only [Act.put, List.setIfInBounds_toArray, List.set_cons_zero, List.set_cons_succ]
          refine wpAnyH_take (i := 37) (oi := ⟨some 125, .pick (.tmp 121) (.tmp 124) (.const (.bool false)), _, _, _, _⟩) (v := .bool true) rfl (by kernel_rfl) (by kernel_rfl) (by kernel_rfl) (fun _ _ _ h => h) (Or.inl ⟨by rfl, ?_⟩) (by assumption) ?_
          · (intro v hv; go_simp)
          simp only [Act.put, List.setIfInBounds_toArray, List.set_cons_zero, List.set_cons_succ]
          refine wpAnyH_take (i := 38) (oi := ⟨some 126, .move (.tmp 125), _, _, _, _⟩) (v := .bool true) rfl (by kernel_rfl) (by kernel_rfl) (by kernel_rfl) (fun _ _ _ h => h) (Or.inl ⟨by rfl, ?_⟩) (by assumption) ?_
          · (intro v hv; go_simp)
          simp only [Act.put, List.setIfInBounds_toArray, List.set_cons_zero, List.set_cons_succ]
          refine wpAnyH_take (i := 39) (oi := ⟨some 127, .fieldAddr 27 (.tmp 10) 4, _, _, _, _⟩) (v := .pointer (some ⟨g1, 14, none⟩)) rfl (by kernel_rfl) (by kernel_rfl) (by kernel_rfl) (fun _ _ _ h => h) (Or.inl ⟨by rfl, ?_⟩) (by assumption) ?_
          · (intro v hv; go_simp)
          simp only [Act.put, List.setIfInBounds_toArray, List.set_cons_zero, List.set_cons_succ]
          refine wpAnyH_take (i := 40) (oi := ⟨some 128, .load 3 (.tmp 127), _, _, _, _⟩) (v := .int .i64 (-1)) rfl (by kernel_rfl) (by kernel_rfl) (by kernel_rfl) (fun _ _ _ h => h) (Or.inl ⟨by rfl, ?_⟩) (by assumption) ?_
          · (exact fun v hv => run_load_of 3 (.tmp 127) ⟨g1, 14, none⟩ rfl (.int .i64 (-1)) (load3 ((hv.1.cell 14).trans HC.out.2.2.2.2.1)))
          simp only [Act.put, List.setIfInBounds_toArray, List.set_cons_zero, List.set_cons_succ]
          refine wpAnyH_take (i := 41) (oi := ⟨some 129, .binOp .eql 3 (.tmp 128) (.const (.int .i64 (-1))) 3, _, _, _, _⟩) (v := .bool true) rfl (by kernel_rfl) (by kernel_rfl) (by kernel_rfl) (fun _ _ _ h => h) (Or.inl ⟨by rfl, ?_⟩) (by assumption) ?_
          · (intro v hv; go_simp)
          simp only [Act.put, List.setIfInBounds_toArray, List.set_cons_zero, List.set_cons_succ]
          refine wpAnyH_take (i := 42) (oi := ⟨some 130, .pick (.tmp 126) (.tmp 129) (.const (.bool false)), _, _, _, _⟩) (v := .bool true) rfl (by kernel_rfl) (by kernel_rfl) (by kernel_rfl) (fun _ _ _ h => h) (Or.inl ⟨by rfl, ?_⟩) (by assumption) ?_
          · (intro v hv; go_simp)
          simp only [Act.put, List.setIfInBounds_toArray, List.set_cons_zero, List.set_cons_succ]
          refine wpAnyH_take (i := 43) (oi := ⟨some 131, .move (.tmp 130), _, _, _, _⟩) (v := .bool true) rfl (by kernel_rfl) (by kernel_rfl) (by kernel_rfl) (fun _ _ _ h => h) (Or.inl ⟨by rfl, ?_⟩) (by assumption) ?_
          · (intro v hv; go_simp)
          simp only [Act.put, List.setIfInBounds_toArray, List.set_cons_zero, List.set_cons_succ]
          refine wpAnyH_take (i := 44) (oi := ⟨some 132, .fieldAddr 27 (.tmp 10) 0, _, _, _, _⟩) (v := .pointer (some ⟨g1, 0, none⟩)) rfl (by kernel_rfl) (by kernel_rfl) (by kernel_rfl) (fun _ _ _ h => h) (Or.inl ⟨by rfl, ?_⟩) (by assumption) ?_
          · (intro v hv; go_simp)
          simp only [Act.put, List.setIfInBounds_toArray, List.set_cons_zero, List.set_cons_succ]
          refine wpAnyH_take (i := 45) (oi := ⟨some 133, .load 9 (.tmp 132), _, _, _, _⟩) (v := .string ⟨#[104, 116, 116, 112]⟩) rfl (by kernel_rfl) (by kernel_rfl) (by kernel_rfl) (fun _ _ _ h => h) (Or.inl ⟨by rfl, ?_⟩) (by assumption) ?_
          · (exact fun v hv => run_load_of 9 (.tmp 132) ⟨g1, 0, none⟩ rfl (.string ⟨#[104, 116, 116, 112]⟩) (load9 ((hv.1.cell 0).trans HC.out.1)))
          simp only [Act.put, List.setIfInBounds_toArray, List.set_cons_zero, List.set_cons_succ]
          refine wpAnyH_take (i := 46) (oi := ⟨some 134, .binOp .eql 9 (.tmp 133) (.const (.string ⟨#[104, 116, 116, 112]⟩)) 9, _, _, _, _⟩) (v := .bool true) rfl (by kernel_rfl) (by kernel_rfl) (by kernel_rfl) (fun _ _ _ h => h) (Or.inl ⟨by rfl, ?_⟩) (by assumption) ?_
          · (intro v hv; go_simp)
          simp only [Act.put, List.setIfInBounds_toArray, List.set_cons_zero, List.set_cons_succ]
          refine wpAnyH_take (i := 47) (oi := ⟨some 135, .pick (.tmp 131) (.tmp 134) (.const (.bool false)), _, _, _, _⟩) (v := .bool true) rfl (by kernel_rfl) (by kernel_rfl) (by kernel_rfl) (fun _ _ _ h => h) (Or.inl ⟨by rfl, ?_⟩) (by assumption) ?_
          · (intro v hv; go_simp)
          simp only [Act.put, List.setIfInBounds_toArray, List.set_cons_zero, List.set_cons_succ]
          refine wpAnyH_take (i := 48) (oi := ⟨some 6, .assign (.tmp 135), _, _, _, _⟩) (v := .bool true) rfl (by kernel_rfl) (by kernel_rfl) (by kernel_rfl) (fun _ _ _ h => h) (Or.inl ⟨by rfl, ?_⟩) (by assumption) ?_
          · (intro v hv; go_simp)
          simp only [Act.put, List.setIfInBounds_toArray, List.set_cons_zero, List.set_cons_succ]
          refine wpAnyH_done (by kernel_rfl) ?_ _
          go_wp2
          go_ret
          exact ⟨rfl, Ascii.below2 HB5.out hc⟩

/-! ### The row's step -/
theorem reads (os : Os) {H : Type} (enc : TypeId × Value → H) : (DataW.whole enc Tryz.prog ((Card.laidWorld os).forCall (fun _ _ => 0) ⟨#[], #[.agg #[.int .i64 0, .string ByteArray.empty, .int .i64 0, .int .i64 0, .int .i64 0, .int .i64 0, .int .i64 0, .int .i64 0, .int .i64 0, .int .i64 0, .int .i64 0], .string ByteArray.empty, .string ByteArray.empty], []⟩).memory Tryz.f7.params.toList Rows.urlPartsSpec.vars false (#[.agg #[.int .i64 0, .string ByteArray.empty, .int .i64 0, .int .i64 0, .int .i64 0, .int .i64 0, .int .i64 0, .int .i64 0, .int .i64 0, .int .i64 0, .int .i64 0], .string ByteArray.empty, .string ByteArray.empty] : Array Value).toList 8).map (fun x => (x.1, x.2.1)) = some ([.agg [.lit (.int .i64 0), .lit (.string []), .lit (.int .i64 0), .agg [.lit (.int .i64 0), .lit (.int .i64 0), .lit (.int .i64 0), .lit (.int .i64 0), .lit (.int .i64 0), .lit (.int .i64 0), .lit (.int .i64 0), .lit (.int .i64 0)]], .lit (.string []), .lit (.string [])], []) := by kernel_rfl
set_option maxRecDepth 100000 in
theorem lifted (os : Os) (started : os.Started) (H : Type) (enc : TypeId × Value → H) (F : Stop.Interp) :
    ReturnsInHanded {} Tryz.checked os 7 .any ((OpenSpec.ofChange Rows.urlPartsSpec).preRow enc Tryz.prog Tryz.f7 Rows.urlPartsRow.domain false Rows.urlPartsRow.laid) (((OpenSpec.ofChange Rows.urlPartsSpec).at F).post enc Tryz.prog Tryz.f7 false true false false) := by
  obtain ⟨⟨x1, x2, x3⟩, hx, hx1⟩ := Option.map_eq_some_iff.1 (reads os enc)
  simp only [Prod.mk.injEq] at hx1
  obtain ⟨rfl, rfl⟩ := hx1
  refine returnsInHanded_of_row (C := Tryz.checked) (s := OpenSpec.ofChange Rows.urlPartsSpec) own started (by kernel_rfl) Tryz.func7
    (witness_row_at (enc := enc) (C := Tryz.checked) false (Card.laidWorld os) #[.agg #[.int .i64 0, .string ByteArray.empty, .int .i64 0, .int .i64 0, .int .i64 0, .int .i64 0, .int .i64 0, .int .i64 0, .int .i64 0, .int .i64 0, .int .i64 0], .string ByteArray.empty, .string ByteArray.empty] rfl (by kernel_rfl) (by kernel_rfl) (by kernel_rfl)
      (OpenSpec.preRow_of_cond 8 hx (by kernel_rfl) (fun k hk => by cases hk) (by kernel_rfl) (Card.laid_met os _))) ?_
  intro W base args ds gs before hval0 hW _ _ _ hL hsh _
  obtain ⟨m, hmax⟩ := Card.maxLen_int hsh
  have hm : Six.At m W := ⟨hmax, Six.tab_of hL⟩
  have hval : ∀ (j : Nat) t v, Tryz.f7.params[j]? = some t → args[j]? = some v → Value.okWide Tryz.prog W .any base t v := hval0
  have hW' := hW
  obtain ⟨p, q, hA0, hV, rfl, hfz, hnd⟩ := hW
  have hA : DataW.TrodAll enc Tryz.prog W 0 (fun _ => true) true Tryz.f7.params.toList args.toList ds p := hA0
  rw [Tryz.params7] at hA hval
  obtain ⟨v0, vs0, d0, ds0, p0, q0, hargs0, rfl, rfl, t0, r0⟩ := trodAll_cons hA
  obtain ⟨v1, vs1, d1, ds1, p1, q1, hargs1, rfl, rfl, t1, r1⟩ := trodAll_cons r0
  obtain ⟨v2, vs2, d2, ds2, p2, q2, hargs2, rfl, rfl, t2, r2⟩ := trodAll_cons r1
  obtain ⟨rfl, rfl, rfl⟩ := trodAll_nil r2
  obtain rfl : args = #[v0, v1, v2] := by cases args; simp_all
  obtain ⟨rfl, rfl⟩ := trodVars_none hV
  obtain ⟨a0, l0, rfl, rfl, rfl, w0⟩ := Six.open_host (hval 0 24 v0 rfl rfl) t0
  obtain ⟨a1, rfl, rfl, rfl, w1⟩ := open_string Tryz.underlying9 (hval 1 9 v1 rfl rfl) t1
  obtain ⟨a2, rfl, rfl, rfl, w2⟩ := open_string Tryz.underlying9 (hval 2 9 v2 rfl rfl) t2
  clear hA0 hval0
  simp only [List.append_nil] at hW'
  refine (walk a0 l0 a1 a2 w0 w1 w2 m W hm ).mono fun e W' ⟨he, bel⟩ => ?_
  subst he
  exact ⟨_, rfl, _, _, _, [], _, [], hW', trodAll_mk1 (shut_bool Tryz.underlying4 _), (trodAll_cons_mk (Six.shut_host l0 w0) (trodAll_cons_mk (shut_string Tryz.underlying9 w1) (trodAll_cons_mk (shut_string Tryz.underlying9 w2) trodAll_mk0))), rfl, bel.frame _, fun h => by cases h⟩

theorem said : Rows.urlPartsRow.holds Tryz.pinned (OpenSpec.ofChange Rows.urlPartsSpec) :=
  OpenClaim.holds_of_cond 7 Tryz.f7 rfl rfl rfl rfl rfl rfl rfl ⟨rfl, rfl, rfl, rfl, rfl⟩ rfl rfl rfl rfl rfl (by kernel_rfl) Tryz.func7 (by kernel_rfl)
    (of_decide_eq_true (by kernel_rfl)) (by unfold Func.isWrapper; first | (rw [if_pos (by decide +kernel)]; kernel_rfl) | (rw [if_neg (by decide +kernel)]; exact ⟨rfl, rfl⟩))
    (fun os started H enc _ F => by rw [OpenClaim.pre_eq_preRow]; exact lifted os started H enc F)

/-- No parameter wants a stand-in; the program's own looks are on. -/
theorem plain (f : FuncId) (fn : Func) (hf : Tryz.pinned.checked.prog.funcNamed Rows.urlPartsRow.func = some f) (hfn : Tryz.pinned.checked.prog.funcs[f]? = some fn) :
    true = Tryz.pinned.checked.prog.looks [] ∧ ∀ (j : Nat) t, fn.params[j]? = some t → Tryz.pinned.checked.prog.wantsStandIn t = false := by
  obtain rfl : f = 7 := Option.some.inj ((show Tryz.prog.funcNamed Rows.urlPartsRow.func = some 7 by kernel_rfl).symm.trans hf) |>.symm
  obtain rfl : fn = Tryz.f7 := (Option.some.inj (Tryz.func7.symm.trans hfn)).symm
  refine ⟨by kernel_rfl, fun j t ht => ?_⟩
  rw [Tryz.params7] at ht
  obtain rfl | rfl : t = 24 ∨ t = 9 := by simpa using Array.mem_of_getElem? ht
  · exact (show Tryz.prog.wantsStandIn 24 = false by kernel_rfl)
  · exact (show Tryz.prog.wantsStandIn 9 = false by kernel_rfl)

/-- The statement: the card. -/
theorem proved : Rows.UrlPartsCardSaid :=
  Claim7.holds_tied_plain_at .later [] _ _ _ _ said (fun _ h => by cases h) (by kernel_rfl) (fun _ h => by cases h) urlParts_row_tie rfl ⟨rfl, rfl⟩ (by kernel_rfl) rfl plain (by kernel_rfl)
#print axioms proved
end Go.Proofs.YtfdhhjigpboieaaGreatDoor.urlParts

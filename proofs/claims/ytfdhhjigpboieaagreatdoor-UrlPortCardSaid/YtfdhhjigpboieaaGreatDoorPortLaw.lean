/-
  WHAT IS PROVED: the card of UrlPort: of any host that may be and has a name of at most 100 bytes, a scheme of the web, and at most 8 digits, an address that has them has that host, and as its port -1, if there are no digits or they tell the scheme's own, else what they tell; above 65535 there is no address.
  CONDITIONS: none but the card's own: the listed tables read as their texts lay them; host and texts are any.
-/
import Derived.Test.YtfdhhjigpboieaaGreatDoorCards
import Derived.Test.YtfdhhjigpboieaaGreatDoorTie
import Derived.WalkKit
import Derived.ProofKit
import Derived.OpenShut
import Derived.ShutString
import Derived.ChangeOld
import Derived.Below
import Derived.Test.YtfdhhjigpboieaaGreatDoorUQuiet
namespace Go.Proofs.YtfdhhjigpboieaaGreatDoor.urlPort
open Go.ChangeShapes Go.WideShapes Go.ChangeAt Go.RowKit
open Go.ChangeMaps (open_string shut_string)
open Go.Shelf
open Go.Proofs.YtfdhhjigpboieaaGreatDoor.Url
open Go.Proofs.YtfdhhjigpboieaaGreatDoor.Host (H)
open Go.Proofs.YtfdhhjigpboieaaGreatDoor.Path (Strs)
set_option linter.unusedSimpArgs false
set_option linter.unusedVariables false

theorem own : ownKnob Tryz.prog.godebug = none := by kernel_rfl
theorem laidOut : laidOutB Tryz.prog = true := by kernel_rfl

theorem ten_le (k : Nat) (h : k ≤ 8) : 10 ^ k ≤ 100000000 := by
  have := Nat.pow_le_pow_right (show 0 < 10 by decide) h
  simpa using this
theorem step_val (d : ByteArray) (k : Nat) (h : k < d.size) (h8 : d.size ≤ 8) (hp : ∀ c ∈ d.data.toList.take k, Deci.digB c = true) (hd : Deci.digB d[k] = true) (v : Nat) (hv : Deci.valN (d.data.toList.take k) = v) :
    (∀ c ∈ d.data.toList.take (k + 1), Deci.digB c = true) ∧ Deci.valN (d.data.toList.take (k + 1)) = 10 * v + (d[k].toNat - 48) ∧ 10 * v + (d[k].toNat - 48) ≤ 99999999 := by
  have h1 := snoc_all (fun c => Deci.digB c = true) d k h hp hd
  have h2 : Deci.valN (d.data.toList.take (k + 1)) = 10 * v + (d[k].toNat - 48) := by rw [Ascii.take_snoc d k h, Deci.valN_snoc, hv]
  have h3 := Deci.valN_lt (d.data.toList.take (k + 1)) (List.all_eq_true.2 h1)
  have h4 : (d.data.toList.take (k + 1)).length ≤ 8 := by rw [List.length_take]; omega
  have h5 := ten_le _ h4
  exact ⟨h1, h2, by omega⟩
/-- What the law asks of the address. -/
theorem port_ways (sc d : T) (hs : sc = http ∨ sc = https) : (d = [] ∧ portI sc d = -1) ∨ (d ≠ [] ∧ (Deci.valN d : Int) = webI sc ∧ portI sc d = -1) ∨ (d ≠ [] ∧ (Deci.valN d : Int) ≠ webI sc ∧ portI sc d = (Deci.valN d : Int)) := by
  cases d with
  | nil => exact .inl ⟨rfl, rfl⟩
  | cons c r =>
    unfold portI
    rw [if_neg (by simp)]
    by_cases h : (Deci.valN (c :: r) : Int) = webI sc
    · exact .inr (.inl ⟨by simp, h, by rw [if_pos h]⟩)
    · exact .inr (.inr ⟨by simp, h, by rw [if_neg h]⟩)
set_option maxRecDepth 100000 in
set_option maxHeartbeats 16000000 in
theorem walk (a0 : Host.H) (l0 : a0.p.length = 8) (a1 a2 : ByteArray) (wh : Six.wfH a0) (w1 : a1.size ≤ maxLen) (w2 : a2.size ≤ maxLen) (m : Int) (w : World) (hm : Six.At m w) :
    Calls Tryz.prog 8 #[.agg a0.cells, .string a1, .string a2] w fun e w' => e = .returned (.bool true) ∧ Below w.heap.size w w' := by
  unfold maxLen at w1 w2
  have HB0 := Lib.hid (show Below w.heap.size w (w.alloc (.cells a0.cells 24)) from (Below.refl _ w).alloc (Nat.le_refl _) _)
  have HH0 := Lib.hid (Host.HostAt.new w a0)
  have HM0 := Lib.hid (hm.later HB0.out)
  clear wh hm
  go_enter Tryz.func8, Tryz.ntmps8
  go_wp2_with fail
  generalize w.alloc (.cells a0.cells 24) = W0 at HB0 HH0 HM0 ⊢
  refine (awake_calls m W0 HM0.out).mono ?_
  rintro e u1 ⟨rfl, hB1⟩
  have HB1 := Lib.hid (Ascii.below2 HB0.out hB1)
  have HH1 := Lib.hid (HH0.out.later hB1)
  have HM1 := Lib.hid (HM0.out.later hB1)
  clear HB0 HH0 HM0 hB1
  have c1 : u1.cell? ⟨w.heap.size, 1, none⟩ = some (.string a0.s) := HH1.out.cell 1
  by_cases hs : a0.s.size ≤ 100
  case neg =>
    have q0 : decide ((100 : Int) < (a0.s.size : Int)) = true := decide_eq_true (by omega)
    go_wp2
    go_ret
    exact ⟨rfl, HB1.out⟩
  have q0 : decide ((100 : Int) < (a0.s.size : Int)) = false := decide_eq_false (by omega)
  obtain ⟨b, hb⟩ : ∃ b, Host.mayH a0 = b := ⟨_, rfl⟩
  go_wp2_with ((with_reducible refine Host.wp_load24 (o := ⟨some 23, .load 24 (.tmp 3), _, _, _, _⟩) ?_ (.tmp 3) ?_ w.heap.size ?_ a0 l0 HH1.out ?_); (· rfl); (· rfl); (· rfl); simp only [Act.put, List.setIfInBounds_toArray, List.set_cons_zero, List.set_cons_succ])
  refine (Host.may_any a0 l0 (by omega) b hb m _ HM1.out).mono ?_
  rintro e u2 ⟨rfl, hB2⟩
  have HB2 := Lib.hid (Ascii.below2 HB1.out hB2)
  have HH2 := Lib.hid (HH1.out.later hB2)
  have HM2 := Lib.hid (HM1.out.later hB2)
  clear HB1 HH1 HM1 hB2 c1 q0
  cases b
  · go_wp2
    go_ret
    exact ⟨rfl, HB2.out⟩
  go_wp2_with fail
  refine (web_any a1 (webI a1.data.toList) rfl _).mono ?_
  rintro e u3 ⟨rfl, rfl⟩
  rcases web_cases a1.data.toList with ⟨hsc, hw⟩ | ⟨hsc, hw⟩ | hw
  case inr.inr =>
    rw [hw]
    go_wp2
    go_ret
    exact ⟨rfl, HB2.out⟩
  · have HSC := Lib.hid (show a1.data.toList = http ∨ a1.data.toList = https from by first | exact .inl hsc | exact .inr hsc)
    have h1s : a1.size ≤ 5 := by rw [← size_list, hsc]; decide
    have HW := Lib.hid hw
    rw [hw]
    clear hsc hw
    by_cases hd8 : a2.size ≤ 8
    case neg =>
      have q0 : decide ((8 : Int) < (a2.size : Int)) = true := decide_eq_true (by omega)
      go_wp2
      go_ret
      exact ⟨rfl, HB2.out⟩
    have q0 : decide ((8 : Int) < (a2.size : Int)) = false := decide_eq_false (by omega)
    go_wp2
    go_loop [8, 9] (fun n i => ∃ k v : Nat, k ≤ a2.size ∧ i = .int .i64 k ∧ n = .int .i64 v ∧ v ≤ 99999999 ∧ Hid (∀ c ∈ a2.data.toList.take k, Deci.digB c = true) ∧ Hid (Deci.valN (a2.data.toList.take k) = v)) (fun _ i => a2.size - (intOf i).toNat)
    case atStart => exact ⟨0, 0, Nat.zero_le _, rfl, rfl, by omega, Lib.hid (by simp), Lib.hid rfl⟩
    case round =>
      obtain ⟨k, v, hk, rfl, rfl, hv9, HA, HV⟩ := hrel
      by_cases hlt : k < a2.size
      · have hbyte := a2[k].toNat_lt
        cases g1 : decide (((a2[k]).toNat : Int) < 48)
        · cases g2 : decide ((57 : Int) < ((a2[k]).toNat : Int))
          · have hg : 48 ≤ (a2[k]).toNat ∧ (a2[k]).toNat ≤ 57 := by
              simp only [decide_eq_false_iff_not] at g1 g2
              omega
            obtain ⟨n1, n2, n3⟩ := step_val a2 k hlt hd8 HA.out (Deci.digB_iff.2 hg) v HV.out
            have HN1 := Lib.hid n1
            have HN2 := Lib.hid n2
            obtain ⟨x, hx⟩ : ∃ x, 10 * v + ((a2[k]).toNat - 48) = x := ⟨_, rfl⟩
            have hx2 : 10 * (v : Int) + ((a2[k]).toNat : Int) - 48 = (x : Int) := by omega
            have HX := Lib.hid hx
            clear n1 n2 HA HV hx
            go_wp2
            go_round
            case rel => exact ⟨k + 1, x, by omega, by go_num, rfl, by omega, HN1, by rw [← HX.out]; exact HN2⟩
            case measure => simp [intOf]; omega
          · go_wp2
            go_ret
            exact ⟨rfl, HB2.out⟩
        · go_wp2
          go_ret
          exact ⟨rfl, HB2.out⟩
      · obtain rfl : k = a2.size := by omega
        have HA2 := Lib.hid (take_all (fun c => Deci.digB c = true) a2 HA.out)
        have hV2 : Deci.valN a2.data.toList = v := by
          have := HV.out
          rwa [List.take_of_length_le (by exact Nat.le_refl _)] at this
        have HV2 := Lib.hid hV2
        clear HA HV hV2
        have hmay : Host.mayH a0 = true := hb
        obtain ⟨k1, k2, k3, k4⟩ := Host.show_back a0 l0 hmay
        obtain ⟨sH, hsH⟩ : ∃ s, tb (Host.showH a0) = s := ⟨_, rfl⟩
        have hsH1 : sH.size ≤ 100 := by rw [size_tb hsH]; exact k4
        obtain ⟨z, hz⟩ : ∃ z, a1 ++ (⟨#[58, 47, 47]⟩ : ByteArray) ++ sH ++ ⟨#[58]⟩ ++ a2 = z := ⟨_, rfl⟩
        have hzl : z.data.toList = a1.data.toList ++ 58 :: 47 :: 47 :: (Host.showH a0 ++ 58 :: a2.data.toList) := by
          rw [← hz, Path.text_append, Path.text_append, Path.text_append, Path.text_append, list_tb hsH, show (⟨#[58, 47, 47]⟩ : ByteArray).data.toList = [58, 47, 47] from rfl, show (⟨#[58]⟩ : ByteArray).data.toList = [58] from rfl]
          simp
        have hzs : z.size ≤ 300 := by rw [← hz]; simp only [size_app]; show a1.size + 3 + sH.size + 1 + a2.size ≤ 300; omega
        obtain ⟨o1, o2⟩ := port_law a0 l0 hmay a1.data.toList HSC.out a2.data.toList HA2.out
        rw [HV2.out] at o1 o2
        obtain ⟨u, hu⟩ : ∃ u : U, parU z.data.toList = u := ⟨_, rfl⟩
        have H8 := Lib.hid (show u.h.p.length = 8 by rw [← hu]; exact par8 _)
        have CP := Lib.hid (fun w hm => parse_in z (by omega) (decide (v ≤ 65535)) (by rw [hzl]; exact o1) m w hm)
        rw [hu] at CP
        rw [← hzl, hu] at o2
        have CS := Lib.hid (fun w hm => Host.show_in a0 l0 (by omega) sH hsH m w hm)
        have O2 := Lib.hid o2
        have HZ := Lib.hid hz
        have PW := Lib.hid (port_ways a1.data.toList a2.data.toList HSC.out)
        rw [HV2.out, HW.out] at PW
        have CW := Lib.hid (fun x => web_any a1 _ HW.out x)
        have hE : a2.toList.isEmpty = a2.data.toList.isEmpty := by rw [Path.tl]
        have HE := Lib.hid hE
        have heq : ∀ x, (Op.equalIn 10000 24 (.agg a0.cells) (.agg a0.cells)).run Tryz.prog x = .ok true x := fun x => Host.eq24 a0 a0 l0 l0 true (Host.same_refl _) x
        clear o1 o2 hz hzl hzs hu hsH k1 k2 k3 k4 HA2 HV2 hE hmay hb hlt q0 HSC
        go_wp2_with ((with_reducible refine Host.wp_load24 (o := ⟨some 65, .load 24 (.tmp 3), _, _, _, _⟩) ?_ (.tmp 3) ?_ w.heap.size ?_ a0 l0 HH2.out ?_); (· rfl); (· rfl); (· rfl); simp only [Act.put, List.setIfInBounds_toArray, List.set_cons_zero, List.set_cons_succ])
        refine (CS.out _ HM2.out).mono ?_
        rintro e u4 ⟨rfl, hB4⟩
        have HB4 := Lib.hid (Ascii.below2 HB2.out hB4)
        have HH4 := Lib.hid (HH2.out.later hB4)
        have HM4 := Lib.hid (HM2.out.later hB4)
        clear HB2 HH2 HM2 hB4 CS
        go_wp2_with fail
        rw [HZ.out]
        refine (CP.out _ HM4.out).mono ?_
        rintro e u5 ⟨pv, rfl, hst, hn, hB5⟩
        have hone := strs_one hst
        have hnew := new_url u5
        have HB := Lib.hid (Ascii.below3 HB4.out hB5 (below_url u5 u pv))
        have HH := Lib.hid ((HH4.out.later hB5).later (below_url u5 u pv))
        have HU := Lib.hid (hnew.row u pv)
        clear CP hst hn hB5 HB4 HM4 HH4 HZ
        by_cases hle : v ≤ 65535
        case neg =>
          have hf : decide (v ≤ 65535) = false := decide_eq_false hle
          have q1 : decide ((65535 : Int) < (v : Int)) = true := decide_eq_true (by omega)
          rw [hf]
          go_wp2_with ((with_reducible refine wp_store27 (o := ⟨none, .store 27 (.tmp 10) (.tmp 72), _, _, _, _⟩) ?_ (.tmp 10) (.tmp 72) ?_ u5.heap.size ?_ u pv ?_ H8.out hone none1 (.slice none 0 0) rfl hnew ?_); (· rfl); (· rfl); (· rfl); (· rfl); simp only [Act.put, List.setIfInBounds_toArray, List.set_cons_zero, List.set_cons_succ])
          go_ret
          exact ⟨rfl, HB.out⟩
        have hf : decide (v ≤ 65535) = true := decide_eq_true hle
        have q1 : decide ((65535 : Int) < (v : Int)) = false := decide_eq_false (by omega)
        rw [hf]
        obtain ⟨r1, r2⟩ := O2.out hle
        have HL := Lib.hid (fun x (hx : UrlAt x u5.heap.size u pv) => show (loadVar 24 ⟨u5.heap.size, 3, none⟩).run Tryz.prog x = .ok (.agg a0.cells) x from by rw [← r1]; exact hx.host H8.out)
        have c14 := HU.out.cell 14
        rw [(cU_at u pv H8.out).2.2.2.2.1, r2] at c14
        rcases PW.out with ⟨e1, e2⟩ | ⟨e1, e2, e3⟩ | ⟨e1, e2, e3⟩
        · have qe : a2.toList.isEmpty = true := by rw [HE.out, e1]; rfl
          rw [e2] at c14
          clear e1 e2 PW O2 r1 r2
          go_wp2_with (first | ((with_reducible refine wp_store27 (o := ⟨none, .store 27 (.tmp 10) (.tmp 72), _, _, _, _⟩) ?_ (.tmp 10) (.tmp 72) ?_ u5.heap.size ?_ u pv ?_ H8.out hone none1 (.slice none 0 0) rfl hnew ?_); (· rfl); (· rfl); (· rfl); (· rfl); simp only [Act.put, List.setIfInBounds_toArray, List.set_cons_zero, List.set_cons_succ]; generalize (u5.alloc (.cells #[.string ⟨#[]⟩, .string ⟨#[]⟩, .string ⟨#[]⟩, .int .i64 0, .string ⟨#[]⟩, .int .i64 0, .int .i64 0, .int .i64 0, .int .i64 0, .int .i64 0, .int .i64 0, .int .i64 0, .int .i64 0, .int .i64 0, .int .i64 0, .slice none 0 0, .string ⟨#[]⟩, .string ⟨#[]⟩, .string ⟨#[]⟩, .bool false, .bool false] 27)).setRow u5.heap.size (cU u pv) = W at HB HH HU c14 ⊢; generalize u5.heap.size = g at HU HL c14 ⊢; clear hnew) | ((with_reducible refine Host.wp_load_at (o := ⟨some 107, .load 24 (.tmp 106), _, _, _, _⟩) ?_ 24 (.tmp 106) ?_ ⟨g, 3, none⟩ ?_ (.agg a0.cells) (HL.out _ HU.out) ?_); (· rfl); (· rfl); (· rfl); simp only [Act.put, List.setIfInBounds_toArray, List.set_cons_zero, List.set_cons_succ]) | ((with_reducible refine Host.wp_load24 (o := ⟨some 108, .load 24 (.tmp 3), _, _, _, _⟩) ?_ (.tmp 3) ?_ w.heap.size ?_ a0 l0 HH.out ?_); (· rfl); (· rfl); (· rfl); simp only [Act.put, List.setIfInBounds_toArray, List.set_cons_zero, List.set_cons_succ]))
          go_ret
          exact ⟨rfl, HB.out⟩
        · have qe : a2.toList.isEmpty = false := by
            rw [HE.out]
            cases h : a2.data.toList with
            | nil => exact absurd h e1
            | cons c r => rfl
          rw [e3] at c14
          have q5 : ((v : Int) == 80) = true := by rw [e2]; rfl
          clear e1 e2 e3 PW O2 r1 r2
          go_wp2_with ((with_reducible refine wp_store27 (o := ⟨none, .store 27 (.tmp 10) (.tmp 72), _, _, _, _⟩) ?_ (.tmp 10) (.tmp 72) ?_ u5.heap.size ?_ u pv ?_ H8.out hone none1 (.slice none 0 0) rfl hnew ?_); (· rfl); (· rfl); (· rfl); (· rfl); simp only [Act.put, List.setIfInBounds_toArray, List.set_cons_zero, List.set_cons_succ]; generalize (u5.alloc (.cells #[.string ⟨#[]⟩, .string ⟨#[]⟩, .string ⟨#[]⟩, .int .i64 0, .string ⟨#[]⟩, .int .i64 0, .int .i64 0, .int .i64 0, .int .i64 0, .int .i64 0, .int .i64 0, .int .i64 0, .int .i64 0, .int .i64 0, .int .i64 0, .slice none 0 0, .string ⟨#[]⟩, .string ⟨#[]⟩, .string ⟨#[]⟩, .bool false, .bool false] 27)).setRow u5.heap.size (cU u pv) = W at HB HH HU c14 ⊢; generalize u5.heap.size = g at HU HL c14 ⊢; clear hnew)
          refine (CW.out _).mono ?_
          rintro e x ⟨rfl, rfl⟩
          go_wp2_with (first | ((with_reducible refine Host.wp_load_at (o := ⟨some 107, .load 24 (.tmp 106), _, _, _, _⟩) ?_ 24 (.tmp 106) ?_ ⟨g, 3, none⟩ ?_ (.agg a0.cells) (HL.out _ HU.out) ?_); (· rfl); (· rfl); (· rfl); simp only [Act.put, List.setIfInBounds_toArray, List.set_cons_zero, List.set_cons_succ]) | ((with_reducible refine Host.wp_load24 (o := ⟨some 108, .load 24 (.tmp 3), _, _, _, _⟩) ?_ (.tmp 3) ?_ w.heap.size ?_ a0 l0 HH.out ?_); (· rfl); (· rfl); (· rfl); simp only [Act.put, List.setIfInBounds_toArray, List.set_cons_zero, List.set_cons_succ]))
          go_ret
          exact ⟨rfl, HB.out⟩
        · have qe : a2.toList.isEmpty = false := by
            rw [HE.out]
            cases h : a2.data.toList with
            | nil => exact absurd h e1
            | cons c r => rfl
          rw [e3] at c14
          have q5 : ((v : Int) == 80) = false := beq_eq_false_iff_ne.2 e2
          clear e1 e2 e3 PW O2 r1 r2
          go_wp2_with ((with_reducible refine wp_store27 (o := ⟨none, .store 27 (.tmp 10) (.tmp 72), _, _, _, _⟩) ?_ (.tmp 10) (.tmp 72) ?_ u5.heap.size ?_ u pv ?_ H8.out hone none1 (.slice none 0 0) rfl hnew ?_); (· rfl); (· rfl); (· rfl); (· rfl); simp only [Act.put, List.setIfInBounds_toArray, List.set_cons_zero, List.set_cons_succ]; generalize (u5.alloc (.cells #[.string ⟨#[]⟩, .string ⟨#[]⟩, .string ⟨#[]⟩, .int .i64 0, .string ⟨#[]⟩, .int .i64 0, .int .i64 0, .int .i64 0, .int .i64 0, .int .i64 0, .int .i64 0, .int .i64 0, .int .i64 0, .int .i64 0, .int .i64 0, .slice none 0 0, .string ⟨#[]⟩, .string ⟨#[]⟩, .string ⟨#[]⟩, .bool false, .bool false] 27)).setRow u5.heap.size (cU u pv) = W at HB HH HU c14 ⊢; generalize u5.heap.size = g at HU HL c14 ⊢; clear hnew)
          refine (CW.out _).mono ?_
          rintro e x ⟨rfl, rfl⟩
          go_wp2_with (first | ((with_reducible refine Host.wp_load_at (o := ⟨some 107, .load 24 (.tmp 106), _, _, _, _⟩) ?_ 24 (.tmp 106) ?_ ⟨g, 3, none⟩ ?_ (.agg a0.cells) (HL.out _ HU.out) ?_); (· rfl); (· rfl); (· rfl); simp only [Act.put, List.setIfInBounds_toArray, List.set_cons_zero, List.set_cons_succ]) | ((with_reducible refine Host.wp_load24 (o := ⟨some 108, .load 24 (.tmp 3), _, _, _, _⟩) ?_ (.tmp 3) ?_ w.heap.size ?_ a0 l0 HH.out ?_); (· rfl); (· rfl); (· rfl); simp only [Act.put, List.setIfInBounds_toArray, List.set_cons_zero, List.set_cons_succ]))
          go_ret
          exact ⟨rfl, HB.out⟩
  · have HSC := Lib.hid (show a1.data.toList = http ∨ a1.data.toList = https from by first | exact .inl hsc | exact .inr hsc)
    have h1s : a1.size ≤ 5 := by rw [← size_list, hsc]; decide
    have HW := Lib.hid hw
    rw [hw]
    clear hsc hw
    by_cases hd8 : a2.size ≤ 8
    case neg =>
      have q0 : decide ((8 : Int) < (a2.size : Int)) = true := decide_eq_true (by omega)
      go_wp2
      go_ret
      exact ⟨rfl, HB2.out⟩
    have q0 : decide ((8 : Int) < (a2.size : Int)) = false := decide_eq_false (by omega)
    go_wp2
    go_loop [8, 9] (fun n i => ∃ k v : Nat, k ≤ a2.size ∧ i = .int .i64 k ∧ n = .int .i64 v ∧ v ≤ 99999999 ∧ Hid (∀ c ∈ a2.data.toList.take k, Deci.digB c = true) ∧ Hid (Deci.valN (a2.data.toList.take k) = v)) (fun _ i => a2.size - (intOf i).toNat)
    case atStart => exact ⟨0, 0, Nat.zero_le _, rfl, rfl, by omega, Lib.hid (by simp), Lib.hid rfl⟩
    case round =>
      obtain ⟨k, v, hk, rfl, rfl, hv9, HA, HV⟩ := hrel
      by_cases hlt : k < a2.size
      · have hbyte := a2[k].toNat_lt
        cases g1 : decide (((a2[k]).toNat : Int) < 48)
        · cases g2 : decide ((57 : Int) < ((a2[k]).toNat : Int))
          · have hg : 48 ≤ (a2[k]).toNat ∧ (a2[k]).toNat ≤ 57 := by
              simp only [decide_eq_false_iff_not] at g1 g2
              omega
            obtain ⟨n1, n2, n3⟩ := step_val a2 k hlt hd8 HA.out (Deci.digB_iff.2 hg) v HV.out
            have HN1 := Lib.hid n1
            have HN2 := Lib.hid n2
            obtain ⟨x, hx⟩ : ∃ x, 10 * v + ((a2[k]).toNat - 48) = x := ⟨_, rfl⟩
            have hx2 : 10 * (v : Int) + ((a2[k]).toNat : Int) - 48 = (x : Int) := by omega
            have HX := Lib.hid hx
            clear n1 n2 HA HV hx
            go_wp2
            go_round
            case rel => exact ⟨k + 1, x, by omega, by go_num, rfl, by omega, HN1, by rw [← HX.out]; exact HN2⟩
            case measure => simp [intOf]; omega
          · go_wp2
            go_ret
            exact ⟨rfl, HB2.out⟩
        · go_wp2
          go_ret
          exact ⟨rfl, HB2.out⟩
      · obtain rfl : k = a2.size := by omega
        have HA2 := Lib.hid (take_all (fun c => Deci.digB c = true) a2 HA.out)
        have hV2 : Deci.valN a2.data.toList = v := by
          have := HV.out
          rwa [List.take_of_length_le (by exact Nat.le_refl _)] at this
        have HV2 := Lib.hid hV2
        clear HA HV hV2
        have hmay : Host.mayH a0 = true := hb
        obtain ⟨k1, k2, k3, k4⟩ := Host.show_back a0 l0 hmay
        obtain ⟨sH, hsH⟩ : ∃ s, tb (Host.showH a0) = s := ⟨_, rfl⟩
        have hsH1 : sH.size ≤ 100 := by rw [size_tb hsH]; exact k4
        obtain ⟨z, hz⟩ : ∃ z, a1 ++ (⟨#[58, 47, 47]⟩ : ByteArray) ++ sH ++ ⟨#[58]⟩ ++ a2 = z := ⟨_, rfl⟩
        have hzl : z.data.toList = a1.data.toList ++ 58 :: 47 :: 47 :: (Host.showH a0 ++ 58 :: a2.data.toList) := by
          rw [← hz, Path.text_append, Path.text_append, Path.text_append, Path.text_append, list_tb hsH, show (⟨#[58, 47, 47]⟩ : ByteArray).data.toList = [58, 47, 47] from rfl, show (⟨#[58]⟩ : ByteArray).data.toList = [58] from rfl]
          simp
        have hzs : z.size ≤ 300 := by rw [← hz]; simp only [size_app]; show a1.size + 3 + sH.size + 1 + a2.size ≤ 300; omega
        obtain ⟨o1, o2⟩ := port_law a0 l0 hmay a1.data.toList HSC.out a2.data.toList HA2.out
        rw [HV2.out] at o1 o2
        obtain ⟨u, hu⟩ : ∃ u : U, parU z.data.toList = u := ⟨_, rfl⟩
        have H8 := Lib.hid (show u.h.p.length = 8 by rw [← hu]; exact par8 _)
        have CP := Lib.hid (fun w hm => parse_in z (by omega) (decide (v ≤ 65535)) (by rw [hzl]; exact o1) m w hm)
        rw [hu] at CP
        rw [← hzl, hu] at o2
        have CS := Lib.hid (fun w hm => Host.show_in a0 l0 (by omega) sH hsH m w hm)
        have O2 := Lib.hid o2
        have HZ := Lib.hid hz
        have PW := Lib.hid (port_ways a1.data.toList a2.data.toList HSC.out)
        rw [HV2.out, HW.out] at PW
        have CW := Lib.hid (fun x => web_any a1 _ HW.out x)
        have hE : a2.toList.isEmpty = a2.data.toList.isEmpty := by rw [Path.tl]
        have HE := Lib.hid hE
        have heq : ∀ x, (Op.equalIn 10000 24 (.agg a0.cells) (.agg a0.cells)).run Tryz.prog x = .ok true x := fun x => Host.eq24 a0 a0 l0 l0 true (Host.same_refl _) x
        clear o1 o2 hz hzl hzs hu hsH k1 k2 k3 k4 HA2 HV2 hE hmay hb hlt q0 HSC
        go_wp2_with ((with_reducible refine Host.wp_load24 (o := ⟨some 65, .load 24 (.tmp 3), _, _, _, _⟩) ?_ (.tmp 3) ?_ w.heap.size ?_ a0 l0 HH2.out ?_); (· rfl); (· rfl); (· rfl); simp only [Act.put, List.setIfInBounds_toArray, List.set_cons_zero, List.set_cons_succ])
        refine (CS.out _ HM2.out).mono ?_
        rintro e u4 ⟨rfl, hB4⟩
        have HB4 := Lib.hid (Ascii.below2 HB2.out hB4)
        have HH4 := Lib.hid (HH2.out.later hB4)
        have HM4 := Lib.hid (HM2.out.later hB4)
        clear HB2 HH2 HM2 hB4 CS
        go_wp2_with fail
        rw [HZ.out]
        refine (CP.out _ HM4.out).mono ?_
        rintro e u5 ⟨pv, rfl, hst, hn, hB5⟩
        have hone := strs_one hst
        have hnew := new_url u5
        have HB := Lib.hid (Ascii.below3 HB4.out hB5 (below_url u5 u pv))
        have HH := Lib.hid ((HH4.out.later hB5).later (below_url u5 u pv))
        have HU := Lib.hid (hnew.row u pv)
        clear CP hst hn hB5 HB4 HM4 HH4 HZ
        by_cases hle : v ≤ 65535
        case neg =>
          have hf : decide (v ≤ 65535) = false := decide_eq_false hle
          have q1 : decide ((65535 : Int) < (v : Int)) = true := decide_eq_true (by omega)
          rw [hf]
          go_wp2_with ((with_reducible refine wp_store27 (o := ⟨none, .store 27 (.tmp 10) (.tmp 72), _, _, _, _⟩) ?_ (.tmp 10) (.tmp 72) ?_ u5.heap.size ?_ u pv ?_ H8.out hone none1 (.slice none 0 0) rfl hnew ?_); (· rfl); (· rfl); (· rfl); (· rfl); simp only [Act.put, List.setIfInBounds_toArray, List.set_cons_zero, List.set_cons_succ])
          go_ret
          exact ⟨rfl, HB.out⟩
        have hf : decide (v ≤ 65535) = true := decide_eq_true hle
        have q1 : decide ((65535 : Int) < (v : Int)) = false := decide_eq_false (by omega)
        rw [hf]
        obtain ⟨r1, r2⟩ := O2.out hle
        have HL := Lib.hid (fun x (hx : UrlAt x u5.heap.size u pv) => show (loadVar 24 ⟨u5.heap.size, 3, none⟩).run Tryz.prog x = .ok (.agg a0.cells) x from by rw [← r1]; exact hx.host H8.out)
        have c14 := HU.out.cell 14
        rw [(cU_at u pv H8.out).2.2.2.2.1, r2] at c14
        rcases PW.out with ⟨e1, e2⟩ | ⟨e1, e2, e3⟩ | ⟨e1, e2, e3⟩
        · have qe : a2.toList.isEmpty = true := by rw [HE.out, e1]; rfl
          rw [e2] at c14
          clear e1 e2 PW O2 r1 r2
          go_wp2_with (first | ((with_reducible refine wp_store27 (o := ⟨none, .store 27 (.tmp 10) (.tmp 72), _, _, _, _⟩) ?_ (.tmp 10) (.tmp 72) ?_ u5.heap.size ?_ u pv ?_ H8.out hone none1 (.slice none 0 0) rfl hnew ?_); (· rfl); (· rfl); (· rfl); (· rfl); simp only [Act.put, List.setIfInBounds_toArray, List.set_cons_zero, List.set_cons_succ]; generalize (u5.alloc (.cells #[.string ⟨#[]⟩, .string ⟨#[]⟩, .string ⟨#[]⟩, .int .i64 0, .string ⟨#[]⟩, .int .i64 0, .int .i64 0, .int .i64 0, .int .i64 0, .int .i64 0, .int .i64 0, .int .i64 0, .int .i64 0, .int .i64 0, .int .i64 0, .slice none 0 0, .string ⟨#[]⟩, .string ⟨#[]⟩, .string ⟨#[]⟩, .bool false, .bool false] 27)).setRow u5.heap.size (cU u pv) = W at HB HH HU c14 ⊢; generalize u5.heap.size = g at HU HL c14 ⊢; clear hnew) | ((with_reducible refine Host.wp_load_at (o := ⟨some 107, .load 24 (.tmp 106), _, _, _, _⟩) ?_ 24 (.tmp 106) ?_ ⟨g, 3, none⟩ ?_ (.agg a0.cells) (HL.out _ HU.out) ?_); (· rfl); (· rfl); (· rfl); simp only [Act.put, List.setIfInBounds_toArray, List.set_cons_zero, List.set_cons_succ]) | ((with_reducible refine Host.wp_load24 (o := ⟨some 108, .load 24 (.tmp 3), _, _, _, _⟩) ?_ (.tmp 3) ?_ w.heap.size ?_ a0 l0 HH.out ?_); (· rfl); (· rfl); (· rfl); simp only [Act.put, List.setIfInBounds_toArray, List.set_cons_zero, List.set_cons_succ]))
          go_ret
          exact ⟨rfl, HB.out⟩
        · have qe : a2.toList.isEmpty = false := by
            rw [HE.out]
            cases h : a2.data.toList with
            | nil => exact absurd h e1
            | cons c r => rfl
          rw [e3] at c14
          have q5 : ((v : Int) == 443) = true := by rw [e2]; rfl
          clear e1 e2 e3 PW O2 r1 r2
          go_wp2_with ((with_reducible refine wp_store27 (o := ⟨none, .store 27 (.tmp 10) (.tmp 72), _, _, _, _⟩) ?_ (.tmp 10) (.tmp 72) ?_ u5.heap.size ?_ u pv ?_ H8.out hone none1 (.slice none 0 0) rfl hnew ?_); (· rfl); (· rfl); (· rfl); (· rfl); simp only [Act.put, List.setIfInBounds_toArray, List.set_cons_zero, List.set_cons_succ]; generalize (u5.alloc (.cells #[.string ⟨#[]⟩, .string ⟨#[]⟩, .string ⟨#[]⟩, .int .i64 0, .string ⟨#[]⟩, .int .i64 0, .int .i64 0, .int .i64 0, .int .i64 0, .int .i64 0, .int .i64 0, .int .i64 0, .int .i64 0, .int .i64 0, .int .i64 0, .slice none 0 0, .string ⟨#[]⟩, .string ⟨#[]⟩, .string ⟨#[]⟩, .bool false, .bool false] 27)).setRow u5.heap.size (cU u pv) = W at HB HH HU c14 ⊢; generalize u5.heap.size = g at HU HL c14 ⊢; clear hnew)
          refine (CW.out _).mono ?_
          rintro e x ⟨rfl, rfl⟩
          go_wp2_with (first | ((with_reducible refine Host.wp_load_at (o := ⟨some 107, .load 24 (.tmp 106), _, _, _, _⟩) ?_ 24 (.tmp 106) ?_ ⟨g, 3, none⟩ ?_ (.agg a0.cells) (HL.out _ HU.out) ?_); (· rfl); (· rfl); (· rfl); simp only [Act.put, List.setIfInBounds_toArray, List.set_cons_zero, List.set_cons_succ]) | ((with_reducible refine Host.wp_load24 (o := ⟨some 108, .load 24 (.tmp 3), _, _, _, _⟩) ?_ (.tmp 3) ?_ w.heap.size ?_ a0 l0 HH.out ?_); (· rfl); (· rfl); (· rfl); simp only [Act.put, List.setIfInBounds_toArray, List.set_cons_zero, List.set_cons_succ]))
          go_ret
          exact ⟨rfl, HB.out⟩
        · have qe : a2.toList.isEmpty = false := by
            rw [HE.out]
            cases h : a2.data.toList with
            | nil => exact absurd h e1
            | cons c r => rfl
          rw [e3] at c14
          have q5 : ((v : Int) == 443) = false := beq_eq_false_iff_ne.2 e2
          clear e1 e2 e3 PW O2 r1 r2
          go_wp2_with ((with_reducible refine wp_store27 (o := ⟨none, .store 27 (.tmp 10) (.tmp 72), _, _, _, _⟩) ?_ (.tmp 10) (.tmp 72) ?_ u5.heap.size ?_ u pv ?_ H8.out hone none1 (.slice none 0 0) rfl hnew ?_); (· rfl); (· rfl); (· rfl); (· rfl); simp only [Act.put, List.setIfInBounds_toArray, List.set_cons_zero, List.set_cons_succ]; generalize (u5.alloc (.cells #[.string ⟨#[]⟩, .string ⟨#[]⟩, .string ⟨#[]⟩, .int .i64 0, .string ⟨#[]⟩, .int .i64 0, .int .i64 0, .int .i64 0, .int .i64 0, .int .i64 0, .int .i64 0, .int .i64 0, .int .i64 0, .int .i64 0, .int .i64 0, .slice none 0 0, .string ⟨#[]⟩, .string ⟨#[]⟩, .string ⟨#[]⟩, .bool false, .bool false] 27)).setRow u5.heap.size (cU u pv) = W at HB HH HU c14 ⊢; generalize u5.heap.size = g at HU HL c14 ⊢; clear hnew)
          refine (CW.out _).mono ?_
          rintro e x ⟨rfl, rfl⟩
          go_wp2_with (first | ((with_reducible refine Host.wp_load_at (o := ⟨some 107, .load 24 (.tmp 106), _, _, _, _⟩) ?_ 24 (.tmp 106) ?_ ⟨g, 3, none⟩ ?_ (.agg a0.cells) (HL.out _ HU.out) ?_); (· rfl); (· rfl); (· rfl); simp only [Act.put, List.setIfInBounds_toArray, List.set_cons_zero, List.set_cons_succ]) | ((with_reducible refine Host.wp_load24 (o := ⟨some 108, .load 24 (.tmp 3), _, _, _, _⟩) ?_ (.tmp 3) ?_ w.heap.size ?_ a0 l0 HH.out ?_); (· rfl); (· rfl); (· rfl); simp only [Act.put, List.setIfInBounds_toArray, List.set_cons_zero, List.set_cons_succ]))
          go_ret
          exact ⟨rfl, HB.out⟩

/-! ### The row's step -/
theorem reads (os : Os) {H : Type} (enc : TypeId × Value → H) : (DataW.whole enc Tryz.prog ((Card.laidWorld os).forCall (fun _ _ => 0) ⟨#[], #[.agg #[.int .i64 0, .string ByteArray.empty, .int .i64 0, .int .i64 0, .int .i64 0, .int .i64 0, .int .i64 0, .int .i64 0, .int .i64 0, .int .i64 0, .int .i64 0], .string ByteArray.empty, .string ByteArray.empty], []⟩).memory Tryz.f8.params.toList Rows.urlPortSpec.vars false (#[.agg #[.int .i64 0, .string ByteArray.empty, .int .i64 0, .int .i64 0, .int .i64 0, .int .i64 0, .int .i64 0, .int .i64 0, .int .i64 0, .int .i64 0, .int .i64 0], .string ByteArray.empty, .string ByteArray.empty] : Array Value).toList 8).map (fun x => (x.1, x.2.1)) = some ([.agg [.lit (.int .i64 0), .lit (.string []), .lit (.int .i64 0), .agg [.lit (.int .i64 0), .lit (.int .i64 0), .lit (.int .i64 0), .lit (.int .i64 0), .lit (.int .i64 0), .lit (.int .i64 0), .lit (.int .i64 0), .lit (.int .i64 0)]], .lit (.string []), .lit (.string [])], []) := by kernel_rfl
set_option maxRecDepth 100000 in
theorem lifted (os : Os) (started : os.Started) (H : Type) (enc : TypeId × Value → H) (F : Stop.Interp) :
    ReturnsInHanded {} Tryz.checked os 8 .any ((OpenSpec.ofChange Rows.urlPortSpec).preRow enc Tryz.prog Tryz.f8 Rows.urlPortRow.domain false Rows.urlPortRow.laid) (((OpenSpec.ofChange Rows.urlPortSpec).at F).post enc Tryz.prog Tryz.f8 false true false false) := by
  obtain ⟨⟨x1, x2, x3⟩, hx, hx1⟩ := Option.map_eq_some_iff.1 (reads os enc)
  simp only [Prod.mk.injEq] at hx1
  obtain ⟨rfl, rfl⟩ := hx1
  refine returnsInHanded_of_row (C := Tryz.checked) (s := OpenSpec.ofChange Rows.urlPortSpec) own started (by kernel_rfl) Tryz.func8
    (witness_row_at (enc := enc) (C := Tryz.checked) false (Card.laidWorld os) #[.agg #[.int .i64 0, .string ByteArray.empty, .int .i64 0, .int .i64 0, .int .i64 0, .int .i64 0, .int .i64 0, .int .i64 0, .int .i64 0, .int .i64 0, .int .i64 0], .string ByteArray.empty, .string ByteArray.empty] rfl (by kernel_rfl) (by kernel_rfl) (by kernel_rfl)
      (OpenSpec.preRow_of_cond 8 hx (by kernel_rfl) (fun k hk => by cases hk) (by kernel_rfl) (Card.laid_met os _))) ?_
  intro W base args ds gs before hval0 hW _ _ _ hL hsh _
  obtain ⟨m, hmax⟩ := Card.maxLen_int hsh
  have hm : Six.At m W := ⟨hmax, Six.tab_of hL⟩
  have hval : ∀ (j : Nat) t v, Tryz.f8.params[j]? = some t → args[j]? = some v → Value.okWide Tryz.prog W .any base t v := hval0
  have hW' := hW
  obtain ⟨p, q, hA0, hV, rfl, hfz, hnd⟩ := hW
  have hA : DataW.TrodAll enc Tryz.prog W 0 (fun _ => true) true Tryz.f8.params.toList args.toList ds p := hA0
  rw [Tryz.params8] at hA hval
  obtain ⟨v0, vs0, d0, ds0, p0, q0, hargs0, rfl, rfl, t0, r0⟩ := trodAll_cons hA
  obtain ⟨v1, vs1, d1, ds1, p1, q1, hargs1, rfl, rfl, t1, r1⟩ := trodAll_cons r0
  obtain ⟨v2, vs2, d2, ds2, p2, q2, hargs2, rfl, rfl, t2, r2⟩ := trodAll_cons r1
  obtain ⟨rfl, rfl, rfl⟩ := trodAll_nil r2
  obtain rfl : args = #[v0, v1, v2] := by cases args; simp_all
  obtain ⟨rfl, rfl⟩ := trodVars_none hV
  obtain ⟨a0, l0, rfl, rfl, rfl, w0⟩ := Six.open_host (hval 0 24 v0 rfl rfl) t0
  obtain ⟨a1, rfl, rfl, rfl, w1⟩ := open_string Tryz.underlying9 (hval 1 9 v1 rfl rfl) t1
  obtain ⟨a2, rfl, rfl, rfl, w2⟩ := open_string Tryz.underlying9 (hval 2 9 v2 rfl rfl) t2
  clear hA0 hval0
  simp only [List.append_nil] at hW'
  refine (walk a0 l0 a1 a2 w0 w1 w2 m W hm ).mono fun e W' ⟨he, bel⟩ => ?_
  subst he
  exact ⟨_, rfl, _, _, _, [], _, [], hW', trodAll_mk1 (shut_bool Tryz.underlying4 _), (trodAll_cons_mk (Six.shut_host l0 w0) (trodAll_cons_mk (shut_string Tryz.underlying9 w1) (trodAll_cons_mk (shut_string Tryz.underlying9 w2) trodAll_mk0))), rfl, bel.frame _, fun h => by cases h⟩

theorem said : Rows.urlPortRow.holds Tryz.pinned (OpenSpec.ofChange Rows.urlPortSpec) :=
  OpenClaim.holds_of_cond 8 Tryz.f8 rfl rfl rfl rfl rfl rfl rfl ⟨rfl, rfl, rfl, rfl, rfl⟩ rfl rfl rfl rfl rfl (by kernel_rfl) Tryz.func8 (by kernel_rfl)
    (of_decide_eq_true (by kernel_rfl)) (by unfold Func.isWrapper; first | (rw [if_pos (by decide +kernel)]; kernel_rfl) | (rw [if_neg (by decide +kernel)]; exact ⟨rfl, rfl⟩))
    (fun os started H enc _ F => by rw [OpenClaim.pre_eq_preRow]; exact lifted os started H enc F)

/-- No parameter wants a stand-in; the program's own looks are on. -/
theorem plain (f : FuncId) (fn : Func) (hf : Tryz.pinned.checked.prog.funcNamed Rows.urlPortRow.func = some f) (hfn : Tryz.pinned.checked.prog.funcs[f]? = some fn) :
    true = Tryz.pinned.checked.prog.looks [] ∧ ∀ (j : Nat) t, fn.params[j]? = some t → Tryz.pinned.checked.prog.wantsStandIn t = false := by
  obtain rfl : f = 8 := Option.some.inj ((show Tryz.prog.funcNamed Rows.urlPortRow.func = some 8 by kernel_rfl).symm.trans hf) |>.symm
  obtain rfl : fn = Tryz.f8 := (Option.some.inj (Tryz.func8.symm.trans hfn)).symm
  refine ⟨by kernel_rfl, fun j t ht => ?_⟩
  rw [Tryz.params8] at ht
  obtain rfl | rfl : t = 24 ∨ t = 9 := by simpa using Array.mem_of_getElem? ht
  · exact (show Tryz.prog.wantsStandIn 24 = false by kernel_rfl)
  · exact (show Tryz.prog.wantsStandIn 9 = false by kernel_rfl)

/-- The statement: the card. -/
theorem proved : Rows.UrlPortCardSaid :=
  Claim7.holds_tied_plain_at .later [] _ _ _ _ said (fun _ h => by cases h) (by kernel_rfl) (fun _ h => by cases h) urlPort_row_tie rfl ⟨rfl, rfl⟩ (by kernel_rfl) rfl plain (by kernel_rfl)
#print axioms proved
end Go.Proofs.YtfdhhjigpboieaaGreatDoor.urlPort

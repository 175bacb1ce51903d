/-
  WHAT IS PROVED: the card of UrlMay: of any text of at most 400 bytes: with a blank and an end of a line ahead of it, a tab and a blank behind it, or a tab at any place within, the same address is parsed, or none; what is parsed may be, and is of the web just if its host may be.
  CONDITIONS: none but the card's own: the listed tables read as their texts lay them; the text and the place are any.
-/
import Derived.Test.YtfdhhjigpboieaaGreatDoorCards
import Derived.Test.YtfdhhjigpboieaaGreatDoorTie
import Derived.WalkKit
import Derived.ProofKit
import Derived.OpenShut
import Derived.ShutString
import Derived.ChangeOld
import Derived.Below
import Derived.Deep.RegionHeld
import Derived.Test.YtfdhhjigpboieaaGreatDoorUQuiet
namespace Go.Proofs.YtfdhhjigpboieaaGreatDoor.urlMay
open Go.ChangeShapes Go.WideShapes Go.ChangeAt Go.RowKit
open Go.ChangeMaps (open_string shut_string)
open Go.Shelf
open Go.Proofs.YtfdhhjigpboieaaGreatDoor.Url
open Go.Proofs.YtfdhhjigpboieaaGreatDoor.Host (H)
open Go.Proofs.YtfdhhjigpboieaaGreatDoor.Path (Strs)
set_option linter.unusedSimpArgs false
set_option linter.unusedVariables false

theorem own : ownKnob Tryz.prog.godebug = none := by kernel_rfl
theorem laidOut : laidOutB Tryz.prog = true := by kernel_rfl

theorem enc_le (set : Int) (l : T) (n : Nat) (h : l.length ≤ n) : (Pct.encode set l).length ≤ 3 * n := by have := Pct.encode_len set l; omega
theorem par_fit (l : T) (h : l.length ≤ 400) : Fit (parU l) := by
  have hc : (Ascii.clean l).length ≤ 400 := Nat.le_trans (clean_len l) h
  unfold parU
  generalize Ascii.clean l = s at hc
  have hr : (schR s).length ≤ 400 := by unfold schR; split <;> first | exact Nat.le_trans (aft_len _ _) hc | exact Nat.zero_le _
  have hs : (schS s).length ≤ 400 := by
    unfold schS
    split
    · simp only [Ascii.lower, List.length_map]; exact Nat.le_trans (bef_len _ _) hc
    · exact Nat.zero_le _
  have hA : (tA (schR s)).length ≤ 400 := Nat.le_trans (Nat.le_trans (bef_len _ _) (bef_len _ _)) hr
  have hQ : (tQ (schR s)).length ≤ 400 := Nat.le_trans (Nat.le_trans (aft_len _ _) (bef_len _ _)) hr
  have hF : (tF (schR s)).length ≤ 400 := Nat.le_trans (aft_len _ _) hr
  cases ho : okS s
  · rw [par_none s ho]
    exact ⟨rfl, by decide, by decide, by decide, by decide, by decide, by decide, by decide, by decide, by decide⟩
  · unfold parS
    rw [if_pos ho]
    have e2 := enc_le 2 _ _ hQ
    have e1 := enc_le 1 _ _ hF
    unfold aheadU
    split
    · have e0 := enc_le 1 _ _ hA
      exact ⟨rfl, (by show 0 ≤ 1000; omega), (by show 0 ≤ 10000; omega), (fun t ht => absurd ht (by exact List.not_mem_nil)), (by show (schS s).length ≤ 1000000; omega), (by show 0 ≤ 1000000; omega), (by show 0 ≤ 1000000; omega), (by show (Pct.encode 1 (tA (schR s))).length ≤ 1000000; omega), (by show (Pct.encode 2 (tQ (schR s))).length ≤ 1000000; omega), (by show (Pct.encode 1 (tF (schR s))).length ≤ 1000000; omega)⟩
    · generalize tA (schR s) = t at hA
      have h2 : (t.drop 2).length ≤ 400 := by rw [List.length_drop]; omega
      have ha : (auth t).length ≤ 400 := Nat.le_trans (bef_len _ _) h2
      have hg : (segT t).length ≤ 400 := Nat.le_trans (aft_len _ _) h2
      have hp : (place (auth t)).length ≤ 400 := Nat.le_trans (laft_len _ _) ha
      have hn : (hname (place (auth t))).length ≤ 400 := by rw [hname_take]; exact Nat.le_trans (List.length_take_le' _ _) hp
      have hu : (user (auth t)).length ≤ 400 := Nat.le_trans (Nat.le_trans (bef_len _ _) (lbef_len _ _)) ha
      have hw : (pass (auth t)).length ≤ 400 := Nat.le_trans (Nat.le_trans (aft_len _ _) (lbef_len _ _)) ha
      have eu := enc_le 4 _ _ hu
      have ew := enc_le 4 _ _ hw
      have hh := Host.par_size (hname (place (auth t))) 400 hn
      have hsh := Path.parse_show_len (47 :: segT t)
      have hsl : (Path.show1 (Path.parse (47 :: segT t))).length ≤ 1300 := by simp only [List.length_cons] at hsh; omega
      have hcn := Path.show_count (Path.parse (47 :: segT t))
      have hea := Path.show_each (Path.parse (47 :: segT t))
      exact ⟨Host.parH_len _, (by show (Host.parH (hname (place (auth t)))).s.size ≤ 1000; omega), (by show (Path.parse (47 :: segT t)).length ≤ 10000; omega), fun x hx => by have := hea x hx; omega, (by show (schS s).length ≤ 1000000; omega), (by show (Pct.encode 4 (user (auth t))).length ≤ 1000000; omega), (by show (Pct.encode 4 (pass (auth t))).length ≤ 1000000; omega), (by show 0 ≤ 1000000; omega), (by show (Pct.encode 2 (tQ (schR s))).length ≤ 1000000; omega), (by show (Pct.encode 1 (tF (schR s))).length ≤ 1000000; omega)⟩
set_option maxRecDepth 100000 in
set_option maxHeartbeats 16000000 in
theorem walk (a0 : ByteArray) (a1 : Int) (w0 : a0.size ≤ maxLen) (w1 : (Lit.int .i64 a1).wf = true) (m : Int) (w : World) (hm : Six.At m w) :
    Calls Tryz.prog 4 #[.string a0, .int .i64 a1] w fun e w' => e = .returned (.bool true) ∧ Below w.heap.size w w' := by
  unfold maxLen at w0
  go_enter Tryz.func4, Tryz.ntmps4
  go_wp2_with fail
  refine (awake_calls m w hm).mono ?_
  rintro e u1 ⟨rfl, hB1⟩
  have HM1 := Lib.hid (hm.later hB1)
  have HB1 := Lib.hid hB1
  clear hB1 hm
  by_cases h0 : a0.size ≤ 400
  case neg =>
    have q0 : decide ((400 : Int) < (a0.size : Int)) = true := decide_eq_true (by omega)
    go_wp2
    go_ret
    exact ⟨rfl, HB1.out⟩
  have q0 : decide ((400 : Int) < (a0.size : Int)) = false := decide_eq_false (by omega)
  by_cases h1 : 0 ≤ a1
  case neg =>
    have q1 : decide (a1 < (0 : Int)) = true := decide_eq_true (by omega)
    go_wp2
    go_ret
    exact ⟨rfl, HB1.out⟩
  have q1 : decide (a1 < (0 : Int)) = false := decide_eq_false (by omega)
  by_cases h2 : a1 ≤ (a0.size : Int)
  case neg =>
    have q2 : decide ((a0.size : Int) < a1) = true := decide_eq_true (by omega)
    go_wp2
    go_ret
    exact ⟨rfl, HB1.out⟩
  have q2 : decide ((a0.size : Int) < a1) = false := decide_eq_false (by omega)
  obtain ⟨k, rfl⟩ : ∃ k : Nat, a1 = (k : Int) := ⟨a1.toNat, by omega⟩
  have hk : k ≤ a0.size := by omega
  obtain ⟨x1, hx1⟩ : ∃ x, (⟨#[32, 10]⟩ : ByteArray) ++ a0 ++ ⟨#[9, 32]⟩ = x := ⟨_, rfl⟩
  obtain ⟨P, hP⟩ : ∃ x, a0.extract 0 k = x := ⟨_, rfl⟩
  obtain ⟨R, hR⟩ : ∃ x, a0.extract k a0.size = x := ⟨_, rfl⟩
  obtain ⟨x2, hx2⟩ : ∃ x, P ++ (⟨#[9]⟩ : ByteArray) ++ R = x := ⟨_, rfl⟩
  have hPl : P.data.toList = a0.data.toList.take k := by rw [← hP, piece_to a0 k hk]; rfl
  have hRl : R.data.toList = a0.data.toList.drop k := by rw [← hR, piece_from a0 k hk]; rfl
  have hPs : P.size ≤ 400 := by rw [← size_list, hPl]; exact Nat.le_trans (List.length_take_le' _ _) h0
  have hRs : R.size ≤ 400 := by rw [← size_list, hRl, List.length_drop, size_list]; omega
  have l1 : Ascii.clean x1.data.toList = Ascii.clean a0.data.toList := by
    rw [← hx1, Path.text_append, Path.text_append, show (⟨#[32, 10]⟩ : ByteArray).data.toList = [32, 10] from rfl, show (⟨#[9, 32]⟩ : ByteArray).data.toList = [9, 32] from rfl]
    exact clean_around a0.data.toList
  have l2 : Ascii.clean x2.data.toList = Ascii.clean a0.data.toList := by
    rw [← hx2, Path.text_append, Path.text_append, show (⟨#[9]⟩ : ByteArray).data.toList = [9] from rfl, hPl, hRl, List.append_assoc]
    show Ascii.clean (a0.data.toList.take k ++ 9 :: a0.data.toList.drop k) = _
    rw [clean_tab, List.take_append_drop]
  have s1 : x1.size ≤ 600 := by rw [← hx1]; simp only [size_app]; show 2 + a0.size + 2 ≤ 600; omega
  have s2 : x2.size ≤ 900 := by rw [← hx2]; simp only [size_app]; show P.size + 1 + R.size ≤ 900; omega
  obtain ⟨b, hb⟩ : ∃ b, okU a0.data.toList = b := ⟨_, rfl⟩
  obtain ⟨u, hu⟩ : ∃ u : U, parU a0.data.toList = u := ⟨_, rfl⟩
  have CP0 := Lib.hid (fun w hm => parse_in a0 (by omega) b hb m w hm)
  have CP1 := Lib.hid (fun w hm => parse_in x1 (by omega) b (by unfold okU; rw [l1]; exact hb) m w hm)
  have CP2 := Lib.hid (fun w hm => parse_in x2 (by omega) b (by unfold okU; rw [l2]; exact hb) m w hm)
  rw [hu] at CP0
  rw [show parU x1.data.toList = u from by unfold parU; rw [l1]; exact hu] at CP1
  rw [show parU x2.data.toList = u from by unfold parU; rw [l2]; exact hu] at CP2
  have H8 := Lib.hid (show u.h.p.length = 8 by rw [← hu]; exact par8 _)
  have HMay := Lib.hid (show b = true → mayU u = true from fun h => by rw [← hu]; exact par_may _ (hb.trans h))
  have HWeb := Lib.hid (show b = true → decide (webI u.sch > 0) = Host.mayH u.h from fun h => by rw [← hu]; exact par_web _ (hb.trans h))
  have HFit := Lib.hid (show Fit u from by rw [← hu]; exact par_fit a0.data.toList h0)
  have HX1 := Lib.hid hx1
  have HX2 := Lib.hid hx2
  have HPx := Lib.hid hP
  have HRx := Lib.hid hR
  clear hx1 hx2 l1 l2 s1 s2 hb hu hPl hRl hP hR w1
  go_wp2_with fail
  refine (CP0.out _ HM1.out).mono ?_
  rintro e u2 ⟨pv, rfl, hst, hn, hB2⟩
  have hone := strs_one hst
  have hnew := new_url u2
  have HB3 := Lib.hid (Ascii.below3 HB1.out hB2 (below_url u2 u pv))
  have HM3 := Lib.hid ((HM1.out.later hB2).later (below_url u2 u pv))
  have HS3 := Lib.hid (hst.later (below_url u2 u pv))
  have HU3 := Lib.hid (hnew.row u pv)
  clear CP0 hst hn hB2 HB1 HM1 q0 q1 q2
  go_wp2_with ((with_reducible refine wp_store27 (o := ⟨none, .store 27 (.tmp 6) (.tmp 34), _, _, _, _⟩) ?_ (.tmp 6) (.tmp 34) ?_ u2.heap.size ?_ u pv ?_ H8.out hone none1 (.slice none 0 0) rfl hnew ?_); (· rfl); (· rfl); (· rfl); (· rfl); simp only [Act.put, List.setIfInBounds_toArray, List.set_cons_zero, List.set_cons_succ])
  rw [HX1.out]
  generalize (u2.alloc (.cells #[.string ⟨#[]⟩, .string ⟨#[]⟩, .string ⟨#[]⟩, .int .i64 0, .string ⟨#[]⟩, .int .i64 0, .int .i64 0, .int .i64 0, .int .i64 0, .int .i64 0, .int .i64 0, .int .i64 0, .int .i64 0, .int .i64 0, .int .i64 0, .slice none 0 0, .string ⟨#[]⟩, .string ⟨#[]⟩, .string ⟨#[]⟩, .bool false, .bool false] 27)).setRow u2.heap.size (cU u pv) = u3 at HB3 HM3 HS3 HU3 ⊢
  generalize u2.heap.size = g1 at HU3 ⊢
  clear hnew hone HX1
  refine (CP1.out _ HM3.out).mono ?_
  rintro e u4 ⟨qv, rfl, hst, hn, hB4⟩
  have hone := strs_one hst
  have hnew := new_url u4
  have HB5 := Lib.hid (Ascii.below3 HB3.out hB4 (below_url u4 u qv))
  have HM5 := Lib.hid ((HM3.out.later hB4).later (below_url u4 u qv))
  have HS5 := Lib.hid ((HS3.out.later hB4).later (below_url u4 u qv))
  have HT5 := Lib.hid (hst.later (below_url u4 u qv))
  have HU5 := Lib.hid ((HU3.out.later hB4).later (below_url u4 u qv))
  have HV5 := Lib.hid (hnew.row u qv)
  clear CP1 hst hn hB4 HB3 HM3 HS3 HU3
  have p1 : a0.extract 0 k = P := HPx.out
  have p2 : a0.extract k a0.size = R := HRx.out
  go_wp2_with ((with_reducible refine wp_store27 (o := ⟨none, .store 27 (.tmp 8) (.tmp 41), _, _, _, _⟩) ?_ (.tmp 8) (.tmp 41) ?_ u4.heap.size ?_ u qv ?_ H8.out hone none1 (.slice none 0 0) rfl hnew ?_); (· rfl); (· rfl); (· rfl); (· rfl); simp only [Act.put, List.setIfInBounds_toArray, List.set_cons_zero, List.set_cons_succ])
  generalize (u4.alloc (.cells #[.string ⟨#[]⟩, .string ⟨#[]⟩, .string ⟨#[]⟩, .int .i64 0, .string ⟨#[]⟩, .int .i64 0, .int .i64 0, .int .i64 0, .int .i64 0, .int .i64 0, .int .i64 0, .int .i64 0, .int .i64 0, .int .i64 0, .int .i64 0, .slice none 0 0, .string ⟨#[]⟩, .string ⟨#[]⟩, .string ⟨#[]⟩, .bool false, .bool false] 27)).setRow u4.heap.size (cU u qv) = u5 at HB5 HM5 HS5 HT5 HU5 HV5 ⊢
  generalize u4.heap.size = g2 at HV5 ⊢
  clear hnew hone
  have hc : Below u5.heap.size u5 u5.drew := (Below.refl _ _).drew
  refine wp_region_held_drew (S := fun _ => True) (by kernel_rfl) trivial (fun _ => ?_)
  refine wpAnyH_take (i := 0) (oi := ⟨some 44, .move (.tmp 0), _, _, _, _⟩) (v := .string a0) rfl (by kernel_rfl) (by kernel_rfl) (by kernel_rfl) (fun _ _ _ h => h) (Or.inl ⟨by rfl, ?_⟩) trivial ?_
  · (intro v hv; go_simp)
  simp only [Act.put, List.setIfInBounds_toArray, List.set_cons_zero, List.set_cons_succ]
  refine wpAnyH_take (i := 1) (oi := ⟨some 45, .move (.tmp 1), _, _, _, _⟩) (v := .int .i64 k) rfl (by kernel_rfl) (by kernel_rfl) (by kernel_rfl) (fun _ _ _ h => h) (Or.inl ⟨by rfl, ?_⟩) trivial ?_
  · (intro v hv; go_simp)
  simp only [Act.put, List.setIfInBounds_toArray, List.set_cons_zero, List.set_cons_succ]
  refine wpAnyH_take (i := 2) (oi := ⟨some 46, .slice 9 (.tmp 44) none (some (.tmp 45)) none, _, _, _, _⟩) (v := .string P) rfl (by kernel_rfl) (by kernel_rfl) (by kernel_rfl) (fun _ _ _ h => h) (Or.inl ⟨by rfl, ?_⟩) trivial ?_
  · (intro v hv; go_simp)
  simp only [Act.put, List.setIfInBounds_toArray, List.set_cons_zero, List.set_cons_succ]
  refine wpAnyH_take (i := 3) (oi := ⟨some 47, .binOp .add 9 (.tmp 46) (.const (.string ⟨#[9]⟩)) 9, _, _, _, _⟩) (v := .string (P ++ ⟨#[9]⟩)) rfl (by kernel_rfl) (by kernel_rfl) (by kernel_rfl) (fun _ _ _ h => h) (Or.inl ⟨by rfl, ?_⟩) trivial ?_
  · (intro v hv; go_simp; omega)
  simp only [Act.put, List.setIfInBounds_toArray, List.set_cons_zero, List.set_cons_succ]
  refine wpAnyH_take (i := 4) (oi := ⟨some 48, .move (.tmp 0), _, _, _, _⟩) (v := .string a0) rfl (by kernel_rfl) (by kernel_rfl) (by kernel_rfl) (fun _ _ _ h => h) (Or.inl ⟨by rfl, ?_⟩) trivial ?_
  · (intro v hv; go_simp)
  simp only [Act.put, List.setIfInBounds_toArray, List.set_cons_zero, List.set_cons_succ]
  refine wpAnyH_take (i := 5) (oi := ⟨some 49, .move (.tmp 1), _, _, _, _⟩) (v := .int .i64 k) rfl (by kernel_rfl) (by kernel_rfl) (by kernel_rfl) (fun _ _ _ h => h) (Or.inl ⟨by rfl, ?_⟩) trivial ?_
  · (intro v hv; go_simp)
  simp only [Act.put, List.setIfInBounds_toArray, List.set_cons_zero, List.set_cons_succ]
  refine wpAnyH_take (i := 6) (oi := ⟨some 50, .slice 9 (.tmp 48) (some (.tmp 49)) none none, _, _, _, _⟩) (v := .string R) rfl (by kernel_rfl) (by kernel_rfl) (by kernel_rfl) (fun _ _ _ h => h) (Or.inl ⟨by rfl, ?_⟩) trivial ?_
  · (intro v hv; go_simp)
  simp only [Act.put, List.setIfInBounds_toArray, List.set_cons_zero, List.set_cons_succ]
  refine wpAnyH_take (i := 7) (oi := ⟨some 51, .binOp .add 9 (.tmp 47) (.tmp 50) 9, _, _, _, _⟩) (v := .string x2) rfl (by kernel_rfl) (by kernel_rfl) (by kernel_rfl) (fun _ _ _ h => h) (Or.inl ⟨by rfl, ?_⟩) trivial ?_
  · (intro v hv; go_simp; rw [HX2.out]; rw [if_neg (by omega)])
  simp only [Act.put, List.setIfInBounds_toArray, List.set_cons_zero, List.set_cons_succ]
  refine wpAnyH_ready (rs := [8, 12]) (by kernel_rfl) (by simp) ?_
  refine AllReadyH.cons (o := ⟨some 52, .call ⟨.value (.func 13), #[.tmp 51], _⟩, _, _, _, _⟩) rfl (fun K hK => ?_) (AllReadyH.cons (o := ⟨some 10, .alloc 27, _, _, _, _⟩) rfl (fun K hK => ?_) AllReadyH.nil)
  · go_simp
    go_at_call 13
    refine (CP2.out _ (HM5.out.later hc)).mono ?_
    rintro e u6 ⟨rv, rfl, hst, hn, hB6⟩
    refine hK.out _ _ trivial (fun _ => ?_)
    have hone := strs_one hst
    refine wpAnyH_take (i := 9) (oi := ⟨some 43, .move (.tmp 52), _, _, _, _⟩) (v := .tuple #[.agg (cU u rv), .bool b]) rfl (by kernel_rfl) (by kernel_rfl) (by kernel_rfl) (fun _ _ _ h => h) (Or.inl ⟨by rfl, ?_⟩) trivial ?_
    · (intro v hv; go_simp)
    simp only [Act.put, List.setIfInBounds_toArray, List.set_cons_zero, List.set_cons_succ]
    refine wpAnyH_take (i := 10) (oi := ⟨some 53, .extract (.tmp 43) 0, _, _, _, _⟩) (v := .agg (cU u rv)) rfl (by kernel_rfl) (by kernel_rfl) (by kernel_rfl) (fun _ _ _ h => h) (Or.inl ⟨by rfl, ?_⟩) trivial ?_
    · (intro v hv; go_simp)
    simp only [Act.put, List.setIfInBounds_toArray, List.set_cons_zero, List.set_cons_succ]
    refine wpAnyH_take (i := 11) (oi := ⟨some 54, .extract (.tmp 43) 1, _, _, _, _⟩) (v := .bool b) rfl (by kernel_rfl) (by kernel_rfl) (by kernel_rfl) (fun _ _ _ h => h) (Or.inl ⟨by rfl, ?_⟩) trivial ?_
    · (intro v hv; go_simp)
    simp only [Act.put, List.setIfInBounds_toArray, List.set_cons_zero, List.set_cons_succ]
    refine wpAnyH_ready (rs := [12]) (by kernel_rfl) (by simp) ?_
    refine AllReadyH.cons (o := ⟨some 10, .alloc 27, _, _, _, _⟩) rfl (fun K hK => ?_) AllReadyH.nil
    go_simp
    refine hK.out _ _ trivial (fun _ => ?_)
    have hnew := new_url u6
    have hc6 := below_trans hc hB6
    refine wpAnyH_ready (rs := [13]) (by kernel_rfl) (by simp) ?_
    refine AllReadyH.cons (o := ⟨none, .store 27 (.tmp 10) (.tmp 53), _, _, _, _⟩) rfl (fun K hK => ?_) AllReadyH.nil
    rw [if_pos (by rfl)]
    refine wp_store_row 27 (.tmp 10) (.tmp 53) rfl u6.heap.size (cU u rv) rfl rfl 27 (cU none1 (.slice none 0 0)) hnew (by rw [cU_size _ _ H8.out]; exact size27) (by first | exact (cU_size none1 (.slice none 0 0) rfl).trans (cU_size u rv H8.out).symm | exact (cU_size u rv H8.out).trans (cU_size none1 (.slice none 0 0) rfl).symm) (cU_one _ _ hone) ?_
    refine hK.out _ _ trivial (fun _ => ?_)
    refine wpAnyH_take (i := 14) (oi := ⟨some 11, .assign (.tmp 54), _, _, _, _⟩) (v := .bool b) rfl (by kernel_rfl) (by kernel_rfl) (by kernel_rfl) (fun _ _ _ h => h) (Or.inl ⟨by rfl, ?_⟩) trivial ?_
    · (intro v hv; go_simp)
    simp only [Act.put, List.setIfInBounds_toArray, List.set_cons_zero, List.set_cons_succ]
    refine wpAnyH_done (by kernel_rfl) ?_ _
    have HB6 := Lib.hid (Ascii.below3 HB5.out hc6 (below_url u6 u rv))
    have HM6 := Lib.hid ((HM5.out.later hc6).later (below_url u6 u rv))
    have HU6 := Lib.hid ((HU5.out.later hc6).later (below_url u6 u rv))
    have HV6 := Lib.hid ((HV5.out.later hc6).later (below_url u6 u rv))
    have HR6 := Lib.hid (hnew.row u rv)
    have HS6 := Lib.hid ((HS5.out.later hc6).later (below_url u6 u rv))
    have HT6 := Lib.hid ((HT5.out.later hc6).later (below_url u6 u rv))
    have HRS6 := Lib.hid (hst.later (below_url u6 u rv))
    generalize (u6.alloc (.cells #[.string ⟨#[]⟩, .string ⟨#[]⟩, .string ⟨#[]⟩, .int .i64 0, .string ⟨#[]⟩, .int .i64 0, .int .i64 0, .int .i64 0, .int .i64 0, .int .i64 0, .int .i64 0, .int .i64 0, .int .i64 0, .int .i64 0, .int .i64 0, .slice none 0 0, .string ⟨#[]⟩, .string ⟨#[]⟩, .string ⟨#[]⟩, .bool false, .bool false] 27)).setRow u6.heap.size (cU u rv) = W6 at HB6 HM6 HU6 HV6 HR6 HS6 HT6 HRS6 ⊢
    generalize u6.heap.size = g3 at HR6 ⊢
    clear hnew hone hst hn hB6 hc hc6 HB5 HM5 HU5 HV5 HS5 HT5 CP2 HX2
    cases b
    · have HF := Lib.hid (fun x hx hy => same_any u u pv qv H8.out H8.out true ((same_iff _ _).2 rfl) x hx hy)
      have HG := Lib.hid (fun x hx hy => same_any u u pv rv H8.out H8.out true ((same_iff _ _).2 rfl) x hx hy)
      go_wp2_with (first | ((with_reducible refine wp_load27 (o := ⟨some 64, .load 27 (.tmp 6), _, _, _, _⟩) ?_ (.tmp 6) ?_ g1 ?_ u pv H8.out HU6.out ?_); (· rfl); (· rfl); (· rfl); simp only [Act.put, List.setIfInBounds_toArray, List.set_cons_zero, List.set_cons_succ]) | ((with_reducible refine wp_load27 (o := ⟨some 65, .load 27 (.tmp 8), _, _, _, _⟩) ?_ (.tmp 8) ?_ g2 ?_ u qv H8.out HV6.out ?_); (· rfl); (· rfl); (· rfl); simp only [Act.put, List.setIfInBounds_toArray, List.set_cons_zero, List.set_cons_succ]))
      refine (HF.out _ HS6.out HT6.out).mono ?_
      rintro e x ⟨rfl, hx⟩
      have HUx := Lib.hid (HU6.out.later hx)
      have HRx := Lib.hid (HR6.out.later hx)
      have HBx := Lib.hid (Ascii.below2 HB6.out hx)
      have HSx := Lib.hid (HS6.out.later hx)
      have HRSx := Lib.hid (HRS6.out.later hx)
      clear HU6 HV6 HR6 HB6 HM6 HS6 HT6 HRS6 hx HF
      go_wp2_with (first | ((with_reducible refine wp_load27 (o := ⟨some 70, .load 27 (.tmp 6), _, _, _, _⟩) ?_ (.tmp 6) ?_ g1 ?_ u pv H8.out HUx.out ?_); (· rfl); (· rfl); (· rfl); simp only [Act.put, List.setIfInBounds_toArray, List.set_cons_zero, List.set_cons_succ]) | ((with_reducible refine wp_load27 (o := ⟨some 71, .load 27 (.tmp 10), _, _, _, _⟩) ?_ (.tmp 10) ?_ g3 ?_ u rv H8.out HRx.out ?_); (· rfl); (· rfl); (· rfl); simp only [Act.put, List.setIfInBounds_toArray, List.set_cons_zero, List.set_cons_succ]))
      refine (HG.out _ HSx.out HRSx.out).mono ?_
      rintro e y ⟨rfl, hy⟩
      have HBy := Lib.hid (Ascii.below2 HBx.out hy)
      clear HUx HRx HBx HSx HRSx hy HG
      go_wp2_with fail
      refine Ascii.wp_region_quiet_below (by kernel_rfl) (by kernel_rfl) ?_
      repeat (go_big_quiet_step ((intro _; rfl)))
      refine wpQuiet_nil ?_
      intro z hz
      go_wp2
      go_ret
      exact ⟨rfl, Ascii.below2 HBy.out hz⟩
    · have hmay := HMay.out rfl
      have hweb := HWeb.out rfl
      have HF := Lib.hid (fun x hx hy => same_any u u pv qv H8.out H8.out true ((same_iff _ _).2 rfl) x hx hy)
      have HG := Lib.hid (fun x hx hy => same_any u u pv rv H8.out H8.out true ((same_iff _ _).2 rfl) x hx hy)
      have CM := Lib.hid (fun x hx hy => may_any u pv HFit.out true hmay m x hx hy)
      obtain ⟨c, hc⟩ : ∃ c, Host.mayH u.h = c := ⟨_, rfl⟩
      have CH := Lib.hid (fun x hx => Host.may_any u.h H8.out HFit.out.hs c hc m x hx)
      have CWb := Lib.hid (fun x => web_any (tb u.sch) (webI u.sch) rfl x)
      have qw : decide ((0 : Int) < webI u.sch) = c := by rw [← hc, ← hweb]
      generalize webI u.sch = zw at CWb qw
      clear hmay hweb hc HMay HWeb
      go_wp2_with (first | ((with_reducible refine wp_load27 (o := ⟨some 64, .load 27 (.tmp 6), _, _, _, _⟩) ?_ (.tmp 6) ?_ g1 ?_ u pv H8.out HU6.out ?_); (· rfl); (· rfl); (· rfl); simp only [Act.put, List.setIfInBounds_toArray, List.set_cons_zero, List.set_cons_succ]) | ((with_reducible refine wp_load27 (o := ⟨some 65, .load 27 (.tmp 8), _, _, _, _⟩) ?_ (.tmp 8) ?_ g2 ?_ u qv H8.out HV6.out ?_); (· rfl); (· rfl); (· rfl); simp only [Act.put, List.setIfInBounds_toArray, List.set_cons_zero, List.set_cons_succ]))
      refine (HF.out _ HS6.out HT6.out).mono ?_
      rintro e x ⟨rfl, hx⟩
      have HUx := Lib.hid (HU6.out.later hx)
      have HRx := Lib.hid (HR6.out.later hx)
      have HBx := Lib.hid (Ascii.below2 HB6.out hx)
      have HSx := Lib.hid (HS6.out.later hx)
      have HRSx := Lib.hid (HRS6.out.later hx)
      have HMx := Lib.hid (HM6.out.later hx)
      clear HU6 HV6 HR6 HB6 HM6 HS6 HT6 HRS6 hx HF
      go_wp2_with (first | ((with_reducible refine wp_load27 (o := ⟨some 70, .load 27 (.tmp 6), _, _, _, _⟩) ?_ (.tmp 6) ?_ g1 ?_ u pv H8.out HUx.out ?_); (· rfl); (· rfl); (· rfl); simp only [Act.put, List.setIfInBounds_toArray, List.set_cons_zero, List.set_cons_succ]) | ((with_reducible refine wp_load27 (o := ⟨some 71, .load 27 (.tmp 10), _, _, _, _⟩) ?_ (.tmp 10) ?_ g3 ?_ u rv H8.out HRx.out ?_); (· rfl); (· rfl); (· rfl); simp only [Act.put, List.setIfInBounds_toArray, List.set_cons_zero, List.set_cons_succ]))
      refine (HG.out _ HSx.out HRSx.out).mono ?_
      rintro e y ⟨rfl, hy⟩
      have HBy := Lib.hid (Ascii.below2 HBx.out hy)
      have HUy := Lib.hid (HUx.out.later hy)
      have HSy := Lib.hid (HSx.out.later hy)
      have HMy := Lib.hid (HMx.out.later hy)
      clear HUx HRx HBx HSx HRSx HMx hy HG
      have HSx := HSy
      have HMx := HMy
      have L1 := Lib.hid (q_url HUy.out H8.out)
      have L2 := Lib.hid (q_sch HUy.out H8.out)
      have L3 := Lib.hid (q_host HUy.out H8.out)
      go_wp2_with fail
      cases c
      · refine Ascii.wp_region_quiet_below (by kernel_rfl) (by kernel_rfl) ?_
        iterate 3 (go_big_quiet_step ((intro _; rfl)))
        ((go_big_quiet_want; (with_reducible refine Host.quiet_load (o := ⟨some 78, .load 27 (.tmp 6), _, _, _, _⟩) 27 (.tmp 6) ?_ _ ?_ _ L1.out ?_); (· rfl); (· rfl)); go_big_quiet_on; simp only [Act.put, List.setIfInBounds_toArray, List.set_cons_succ, List.set_cons_zero])
        go_big_quiet_step ((intro hu; go_at_call 21; exact (CM.out _ (HMx.out.later hu) (HSx.out.later hu)).mono fun e u' h => ⟨h.1, hu.trans (h.2.mono hu.size)⟩))
        iterate 2 (go_big_quiet_step ((intro _; rfl)))
        ((go_big_quiet_want; (with_reducible refine Host.quiet_load (o := ⟨some 82, .load 9 (.tmp 81), _, _, _, _⟩) 9 (.tmp 81) ?_ _ ?_ _ L2.out ?_); (· rfl); (· rfl)); go_big_quiet_on; simp only [Act.put, List.setIfInBounds_toArray, List.set_cons_succ, List.set_cons_zero])
        go_big_quiet_step ((intro hu; go_at_call 23; exact (CWb.out _).mono fun e u' h => ⟨h.1, h.2 ▸ hu⟩))
        iterate 2 (go_big_quiet_step ((intro _; rfl)))
        ((go_big_quiet_want; (with_reducible refine Host.quiet_load (o := ⟨some 86, .load 24 (.tmp 85), _, _, _, _⟩) 24 (.tmp 85) ?_ _ ?_ _ L3.out ?_); (· rfl); (· rfl)); go_big_quiet_on; simp only [Act.put, List.setIfInBounds_toArray, List.set_cons_succ, List.set_cons_zero])
        go_big_quiet_step ((intro hu; go_at_call 25; exact (CH.out _ (HMx.out.later hu)).mono fun e u' h => ⟨h.1, hu.trans (h.2.mono hu.size)⟩))
        repeat (go_big_quiet_step ((intro _; rfl)))
        refine wpQuiet_nil ?_
        intro z hz
        go_wp2
        go_ret
        exact ⟨rfl, Ascii.below2 HBy.out hz⟩
      · refine Ascii.wp_region_quiet_below (by kernel_rfl) (by kernel_rfl) ?_
        iterate 3 (go_big_quiet_step ((intro _; rfl)))
        ((go_big_quiet_want; (with_reducible refine Host.quiet_load (o := ⟨some 78, .load 27 (.tmp 6), _, _, _, _⟩) 27 (.tmp 6) ?_ _ ?_ _ L1.out ?_); (· rfl); (· rfl)); go_big_quiet_on; simp only [Act.put, List.setIfInBounds_toArray, List.set_cons_succ, List.set_cons_zero])
        go_big_quiet_step ((intro hu; go_at_call 21; exact (CM.out _ (HMx.out.later hu) (HSx.out.later hu)).mono fun e u' h => ⟨h.1, hu.trans (h.2.mono hu.size)⟩))
        iterate 2 (go_big_quiet_step ((intro _; rfl)))
        ((go_big_quiet_want; (with_reducible refine Host.quiet_load (o := ⟨some 82, .load 9 (.tmp 81), _, _, _, _⟩) 9 (.tmp 81) ?_ _ ?_ _ L2.out ?_); (· rfl); (· rfl)); go_big_quiet_on; simp only [Act.put, List.setIfInBounds_toArray, List.set_cons_succ, List.set_cons_zero])
        go_big_quiet_step ((intro hu; go_at_call 23; exact (CWb.out _).mono fun e u' h => ⟨h.1, h.2 ▸ hu⟩))
        iterate 2 (go_big_quiet_step ((intro _; rfl)))
        ((go_big_quiet_want; (with_reducible refine Host.quiet_load (o := ⟨some 86, .load 24 (.tmp 85), _, _, _, _⟩) 24 (.tmp 85) ?_ _ ?_ _ L3.out ?_); (· rfl); (· rfl)); go_big_quiet_on; simp only [Act.put, List.setIfInBounds_toArray, List.set_cons_succ, List.set_cons_zero])
        go_big_quiet_step ((intro hu; go_at_call 25; exact (CH.out _ (HMx.out.later hu)).mono fun e u' h => ⟨h.1, hu.trans (h.2.mono hu.size)⟩))
        repeat (go_big_quiet_step ((intro _; rfl)))
        refine wpQuiet_nil ?_
        intro z hz
        go_wp2
        go_ret
        exact ⟨rfl, Ascii.below2 HBy.out hz⟩
  · go_simp
    refine hK.out _ _ trivial (fun _ => ?_)
    have hs1 : (u5.alloc (.cells #[.string ⟨#[]⟩, .string ⟨#[]⟩, .string ⟨#[]⟩, .int .i64 0, .string ⟨#[]⟩, .int .i64 0, .int .i64 0, .int .i64 0, .int .i64 0, .int .i64 0, .int .i64 0, .int .i64 0, .int .i64 0, .int .i64 0, .int .i64 0, .slice none 0 0, .string ⟨#[]⟩, .string ⟨#[]⟩, .string ⟨#[]⟩, .bool false, .bool false] 27)).drew.heap.size = u5.heap.size + 1 := Array.size_push _
    have hc1 : Below u5.heap.size u5 (u5.alloc (.cells #[.string ⟨#[]⟩, .string ⟨#[]⟩, .string ⟨#[]⟩, .int .i64 0, .string ⟨#[]⟩, .int .i64 0, .int .i64 0, .int .i64 0, .int .i64 0, .int .i64 0, .int .i64 0, .int .i64 0, .int .i64 0, .int .i64 0, .int .i64 0, .slice none 0 0, .string ⟨#[]⟩, .string ⟨#[]⟩, .string ⟨#[]⟩, .bool false, .bool false] 27)).drew := ((Below.refl _ u5).alloc (Nat.le_refl _) _).drew
    have hnew : UrlAt (u5.alloc (.cells #[.string ⟨#[]⟩, .string ⟨#[]⟩, .string ⟨#[]⟩, .int .i64 0, .string ⟨#[]⟩, .int .i64 0, .int .i64 0, .int .i64 0, .int .i64 0, .int .i64 0, .int .i64 0, .int .i64 0, .int .i64 0, .int .i64 0, .int .i64 0, .slice none 0 0, .string ⟨#[]⟩, .string ⟨#[]⟩, .string ⟨#[]⟩, .bool false, .bool false] 27)).drew u5.heap.size none1 (.slice none 0 0) := new_url u5
    refine wpAnyH_ready (rs := [8]) (by kernel_rfl) (by simp) ?_
    refine AllReadyH.cons (o := ⟨some 52, .call ⟨.value (.func 13), #[.tmp 51], _⟩, _, _, _, _⟩) rfl (fun K hK => ?_) AllReadyH.nil
    go_simp
    go_at_call 13
    refine (CP2.out _ (HM5.out.later hc1)).mono ?_
    rintro e u6 ⟨rv, rfl, hst, hn, hB6⟩
    refine hK.out _ _ trivial (fun _ => ?_)
    have hone := strs_one hst
    have hr := hnew.later hB6
    have hc6 := below_trans hc1 hB6
    have hc7 : Below u5.heap.size u5 (u6.setRow u5.heap.size (cU u rv)) := below_row hc6 (Nat.le_refl _) _
    refine wpAnyH_take (i := 9) (oi := ⟨some 43, .move (.tmp 52), _, _, _, _⟩) (v := .tuple #[.agg (cU u rv), .bool b]) rfl (by kernel_rfl) (by kernel_rfl) (by kernel_rfl) (fun _ _ _ h => h) (Or.inl ⟨by rfl, ?_⟩) trivial ?_
    · (intro v hv; go_simp)
    simp only [Act.put, List.setIfInBounds_toArray, List.set_cons_zero, List.set_cons_succ]
    refine wpAnyH_take (i := 10) (oi := ⟨some 53, .extract (.tmp 43) 0, _, _, _, _⟩) (v := .agg (cU u rv)) rfl (by kernel_rfl) (by kernel_rfl) (by kernel_rfl) (fun _ _ _ h => h) (Or.inl ⟨by rfl, ?_⟩) trivial ?_
    · (intro v hv; go_simp)
    simp only [Act.put, List.setIfInBounds_toArray, List.set_cons_zero, List.set_cons_succ]
    refine wpAnyH_take (i := 11) (oi := ⟨some 54, .extract (.tmp 43) 1, _, _, _, _⟩) (v := .bool b) rfl (by kernel_rfl) (by kernel_rfl) (by kernel_rfl) (fun _ _ _ h => h) (Or.inl ⟨by rfl, ?_⟩) trivial ?_
    · (intro v hv; go_simp)
    simp only [Act.put, List.setIfInBounds_toArray, List.set_cons_zero, List.set_cons_succ]
    refine wpAnyH_ready (rs := [13]) (by kernel_rfl) (by simp) ?_
    refine AllReadyH.cons (o := ⟨none, .store 27 (.tmp 10) (.tmp 53), _, _, _, _⟩) rfl (fun K hK => ?_) AllReadyH.nil
    rw [if_pos (by rfl)]
    refine wp_store_row 27 (.tmp 10) (.tmp 53) rfl u5.heap.size (cU u rv) rfl rfl 27 (cU none1 (.slice none 0 0)) hr (by rw [cU_size _ _ H8.out]; exact size27) (by first | exact (cU_size none1 (.slice none 0 0) rfl).trans (cU_size u rv H8.out).symm | exact (cU_size u rv H8.out).trans (cU_size none1 (.slice none 0 0) rfl).symm) (cU_one _ _ hone) ?_
    refine hK.out _ _ trivial (fun _ => ?_)
    refine wpAnyH_take (i := 14) (oi := ⟨some 11, .assign (.tmp 54), _, _, _, _⟩) (v := .bool b) rfl (by kernel_rfl) (by kernel_rfl) (by kernel_rfl) (fun _ _ _ h => h) (Or.inl ⟨by rfl, ?_⟩) trivial ?_
    · (intro v hv; go_simp)
    simp only [Act.put, List.setIfInBounds_toArray, List.set_cons_zero, List.set_cons_succ]
    refine wpAnyH_done (by kernel_rfl) ?_ _
    have HB6 := Lib.hid (Ascii.below2 HB5.out hc7)
    have HM6 := Lib.hid (HM5.out.later hc7)
    have HU6 := Lib.hid (HU5.out.later hc7)
    have HV6 := Lib.hid (HV5.out.later hc7)
    have HR6 := Lib.hid (hr.row u rv)
    have HS6 := Lib.hid (HS5.out.later hc7)
    have HT6 := Lib.hid (HT5.out.later hc7)
    have HRS6 := Lib.hid (strs_other u5.heap.size hst (by rw [← hs1]; exact hn) (fun k hk => Url.setRow_other u6 u5.heap.size (cU u rv) (Ne.symm hk)))
    generalize u6.setRow u5.heap.size (cU u rv) = W6 at HB6 HM6 HU6 HV6 HR6 HS6 HT6 HRS6 hc7 ⊢
    clear hnew hone hst hn hB6 hc hc1 hc6 hc7 hr hs1 HB5 HM5 HU5 HV5 HS5 HT5 CP2 HX2
    generalize u5.heap.size = g3 at HR6 ⊢
    cases b
    · have HF := Lib.hid (fun x hx hy => same_any u u pv qv H8.out H8.out true ((same_iff _ _).2 rfl) x hx hy)
      have HG := Lib.hid (fun x hx hy => same_any u u pv rv H8.out H8.out true ((same_iff _ _).2 rfl) x hx hy)
      go_wp2_with (first | ((with_reducible refine wp_load27 (o := ⟨some 64, .load 27 (.tmp 6), _, _, _, _⟩) ?_ (.tmp 6) ?_ g1 ?_ u pv H8.out HU6.out ?_); (· rfl); (· rfl); (· rfl); simp only [Act.put, List.setIfInBounds_toArray, List.set_cons_zero, List.set_cons_succ]) | ((with_reducible refine wp_load27 (o := ⟨some 65, .load 27 (.tmp 8), _, _, _, _⟩) ?_ (.tmp 8) ?_ g2 ?_ u qv H8.out HV6.out ?_); (· rfl); (· rfl); (· rfl); simp only [Act.put, List.setIfInBounds_toArray, List.set_cons_zero, List.set_cons_succ]))
      refine (HF.out _ HS6.out HT6.out).mono ?_
      rintro e x ⟨rfl, hx⟩
      have HUx := Lib.hid (HU6.out.later hx)
      have HRx := Lib.hid (HR6.out.later hx)
      have HBx := Lib.hid (Ascii.below2 HB6.out hx)
      have HSx := Lib.hid (HS6.out.later hx)
      have HRSx := Lib.hid (HRS6.out.later hx)
      clear HU6 HV6 HR6 HB6 HM6 HS6 HT6 HRS6 hx HF
      go_wp2_with (first | ((with_reducible refine wp_load27 (o := ⟨some 70, .load 27 (.tmp 6), _, _, _, _⟩) ?_ (.tmp 6) ?_ g1 ?_ u pv H8.out HUx.out ?_); (· rfl); (· rfl); (· rfl); simp only [Act.put, List.setIfInBounds_toArray, List.set_cons_zero, List.set_cons_succ]) | ((with_reducible refine wp_load27 (o := ⟨some 71, .load 27 (.tmp 10), _, _, _, _⟩) ?_ (.tmp 10) ?_ g3 ?_ u rv H8.out HRx.out ?_); (· rfl); (· rfl); (· rfl); simp only [Act.put, List.setIfInBounds_toArray, List.set_cons_zero, List.set_cons_succ]))
      refine (HG.out _ HSx.out HRSx.out).mono ?_
      rintro e y ⟨rfl, hy⟩
      have HBy := Lib.hid (Ascii.below2 HBx.out hy)
      clear HUx HRx HBx HSx HRSx hy HG
      go_wp2_with fail
      refine Ascii.wp_region_quiet_below (by kernel_rfl) (by kernel_rfl) ?_
      repeat (go_big_quiet_step ((intro _; rfl)))
      refine wpQuiet_nil ?_
      intro z hz
      go_wp2
      go_ret
      exact ⟨rfl, Ascii.below2 HBy.out hz⟩
    · have hmay := HMay.out rfl
      have hweb := HWeb.out rfl
      have HF := Lib.hid (fun x hx hy => same_any u u pv qv H8.out H8.out true ((same_iff _ _).2 rfl) x hx hy)
      have HG := Lib.hid (fun x hx hy => same_any u u pv rv H8.out H8.out true ((same_iff _ _).2 rfl) x hx hy)
      have CM := Lib.hid (fun x hx hy => may_any u pv HFit.out true hmay m x hx hy)
      obtain ⟨c, hc⟩ : ∃ c, Host.mayH u.h = c := ⟨_, rfl⟩
      have CH := Lib.hid (fun x hx => Host.may_any u.h H8.out HFit.out.hs c hc m x hx)
      have CWb := Lib.hid (fun x => web_any (tb u.sch) (webI u.sch) rfl x)
      have qw : decide ((0 : Int) < webI u.sch) = c := by rw [← hc, ← hweb]
      generalize webI u.sch = zw at CWb qw
      clear hmay hweb hc HMay HWeb
      go_wp2_with (first | ((with_reducible refine wp_load27 (o := ⟨some 64, .load 27 (.tmp 6), _, _, _, _⟩) ?_ (.tmp 6) ?_ g1 ?_ u pv H8.out HU6.out ?_); (· rfl); (· rfl); (· rfl); simp only [Act.put, List.setIfInBounds_toArray, List.set_cons_zero, List.set_cons_succ]) | ((with_reducible refine wp_load27 (o := ⟨some 65, .load 27 (.tmp 8), _, _, _, _⟩) ?_ (.tmp 8) ?_ g2 ?_ u qv H8.out HV6.out ?_); (· rfl); (· rfl); (· rfl); simp only [Act.put, List.setIfInBounds_toArray, List.set_cons_zero, List.set_cons_succ]))
      refine (HF.out _ HS6.out HT6.out).mono ?_
      rintro e x ⟨rfl, hx⟩
      have HUx := Lib.hid (HU6.out.later hx)
      have HRx := Lib.hid (HR6.out.later hx)
      have HBx := Lib.hid (Ascii.below2 HB6.out hx)
      have HSx := Lib.hid (HS6.out.later hx)
      have HRSx := Lib.hid (HRS6.out.later hx)
      have HMx := Lib.hid (HM6.out.later hx)
      clear HU6 HV6 HR6 HB6 HM6 HS6 HT6 HRS6 hx HF
      go_wp2_with (first | ((with_reducible refine wp_load27 (o := ⟨some 70, .load 27 (.tmp 6), _, _, _, _⟩) ?_ (.tmp 6) ?_ g1 ?_ u pv H8.out HUx.out ?_); (· rfl); (· rfl); (· rfl); simp only [Act.put, List.setIfInBounds_toArray, List.set_cons_zero, List.set_cons_succ]) | ((with_reducible refine wp_load27 (o := ⟨some 71, .load 27 (.tmp 10), _, _, _, _⟩) ?_ (.tmp 10) ?_ g3 ?_ u rv H8.out HRx.out ?_); (· rfl); (· rfl); (· rfl); simp only [Act.put, List.setIfInBounds_toArray, List.set_cons_zero, List.set_cons_succ]))
      refine (HG.out _ HSx.out HRSx.out).mono ?_
      rintro e y ⟨rfl, hy⟩
      have HBy := Lib.hid (Ascii.below2 HBx.out hy)
      have HUy := Lib.hid (HUx.out.later hy)
      have HSy := Lib.hid (HSx.out.later hy)
      have HMy := Lib.hid (HMx.out.later hy)
      clear HUx HRx HBx HSx HRSx HMx hy HG
      have HSx := HSy
      have HMx := HMy
      have L1 := Lib.hid (q_url HUy.out H8.out)
      have L2 := Lib.hid (q_sch HUy.out H8.out)
      have L3 := Lib.hid (q_host HUy.out H8.out)
      go_wp2_with fail
      cases c
      · refine Ascii.wp_region_quiet_below (by kernel_rfl) (by kernel_rfl) ?_
        iterate 3 (go_big_quiet_step ((intro _; rfl)))
        ((go_big_quiet_want; (with_reducible refine Host.quiet_load (o := ⟨some 78, .load 27 (.tmp 6), _, _, _, _⟩) 27 (.tmp 6) ?_ _ ?_ _ L1.out ?_); (· rfl); (· rfl)); go_big_quiet_on; simp only [Act.put, List.setIfInBounds_toArray, List.set_cons_succ, List.set_cons_zero])
        go_big_quiet_step ((intro hu; go_at_call 21; exact (CM.out _ (HMx.out.later hu) (HSx.out.later hu)).mono fun e u' h => ⟨h.1, hu.trans (h.2.mono hu.size)⟩))
        iterate 2 (go_big_quiet_step ((intro _; rfl)))
        ((go_big_quiet_want; (with_reducible refine Host.quiet_load (o := ⟨some 82, .load 9 (.tmp 81), _, _, _, _⟩) 9 (.tmp 81) ?_ _ ?_ _ L2.out ?_); (· rfl); (· rfl)); go_big_quiet_on; simp only [Act.put, List.setIfInBounds_toArray, List.set_cons_succ, List.set_cons_zero])
        go_big_quiet_step ((intro hu; go_at_call 23; exact (CWb.out _).mono fun e u' h => ⟨h.1, h.2 ▸ hu⟩))
        iterate 2 (go_big_quiet_step ((intro _; rfl)))
        ((go_big_quiet_want; (with_reducible refine Host.quiet_load (o := ⟨some 86, .load 24 (.tmp 85), _, _, _, _⟩) 24 (.tmp 85) ?_ _ ?_ _ L3.out ?_); (· rfl); (· rfl)); go_big_quiet_on; simp only [Act.put, List.setIfInBounds_toArray, List.set_cons_succ, List.set_cons_zero])
        go_big_quiet_step ((intro hu; go_at_call 25; exact (CH.out _ (HMx.out.later hu)).mono fun e u' h => ⟨h.1, hu.trans (h.2.mono hu.size)⟩))
        repeat (go_big_quiet_step ((intro _; rfl)))
        refine wpQuiet_nil ?_
        intro z hz
        go_wp2
        go_ret
        exact ⟨rfl, Ascii.below2 HBy.out hz⟩
      · refine Ascii.wp_region_quiet_below (by kernel_rfl) (by kernel_rfl) ?_
        iterate 3 (go_big_quiet_step ((intro _; rfl)))
        ((go_big_quiet_want; (with_reducible refine Host.quiet_load (o := ⟨some 78, .load 27 (.tmp 6), _, _, _, _⟩) 27 (.tmp 6) ?_ _ ?_ _ L1.out ?_); (· rfl); (· rfl)); go_big_quiet_on; simp only [Act.put, List.setIfInBounds_toArray, List.set_cons_succ, List.set_cons_zero])
        go_big_quiet_step ((intro hu; go_at_call 21; exact (CM.out _ (HMx.out.later hu) (HSx.out.later hu)).mono fun e u' h => ⟨h.1, hu.trans (h.2.mono hu.size)⟩))
        iterate 2 (go_big_quiet_step ((intro _; rfl)))
        ((go_big_quiet_want; (with_reducible refine Host.quiet_load (o := ⟨some 82, .load 9 (.tmp 81), _, _, _, _⟩) 9 (.tmp 81) ?_ _ ?_ _ L2.out ?_); (· rfl); (· rfl)); go_big_quiet_on; simp only [Act.put, List.setIfInBounds_toArray, List.set_cons_succ, List.set_cons_zero])
        go_big_quiet_step ((intro hu; go_at_call 23; exact (CWb.out _).mono fun e u' h => ⟨h.1, h.2 ▸ hu⟩))
        iterate 2 (go_big_quiet_step ((intro _; rfl)))
        ((go_big_quiet_want; (with_reducible refine Host.quiet_load (o := ⟨some 86, .load 24 (.tmp 85), _, _, _, _⟩) 24 (.tmp 85) ?_ _ ?_ _ L3.out ?_); (· rfl); (· rfl)); go_big_quiet_on; simp only [Act.put, List.setIfInBounds_toArray, List.set_cons_succ, List.set_cons_zero])
        go_big_quiet_step ((intro hu; go_at_call 25; exact (CH.out _ (HMx.out.later hu)).mono fun e u' h => ⟨h.1, hu.trans (h.2.mono hu.size)⟩))
        repeat (go_big_quiet_step ((intro _; rfl)))
        refine wpQuiet_nil ?_
        intro z hz
        go_wp2
        go_ret
        exact ⟨rfl, Ascii.below2 HBy.out hz⟩

/-! ### The row's step -/
theorem reads (os : Os) {H : Type} (enc : TypeId × Value → H) : (DataW.whole enc Tryz.prog ((Card.laidWorld os).forCall (fun _ _ => 0) ⟨#[], #[.string ByteArray.empty, .int .i64 0], []⟩).memory Tryz.f4.params.toList Rows.urlMaySpec.vars false (#[.string ByteArray.empty, .int .i64 0] : Array Value).toList 8).map (fun x => (x.1, x.2.1)) = some ([.lit (.string []), .lit (.int .i64 0)], []) := by kernel_rfl
set_option maxRecDepth 100000 in
theorem lifted (os : Os) (started : os.Started) (H : Type) (enc : TypeId × Value → H) (F : Stop.Interp) :
    ReturnsInHanded {} Tryz.checked os 4 .any ((OpenSpec.ofChange Rows.urlMaySpec).preRow enc Tryz.prog Tryz.f4 Rows.urlMayRow.domain false Rows.urlMayRow.laid) (((OpenSpec.ofChange Rows.urlMaySpec).at F).post enc Tryz.prog Tryz.f4 false true false false) := by
  obtain ⟨⟨x1, x2, x3⟩, hx, hx1⟩ := Option.map_eq_some_iff.1 (reads os enc)
  simp only [Prod.mk.injEq] at hx1
  obtain ⟨rfl, rfl⟩ := hx1
  refine returnsInHanded_of_row (C := Tryz.checked) (s := OpenSpec.ofChange Rows.urlMaySpec) own started (by kernel_rfl) Tryz.func4
    (witness_row_at (enc := enc) (C := Tryz.checked) false (Card.laidWorld os) #[.string ByteArray.empty, .int .i64 0] rfl (by kernel_rfl) (by kernel_rfl) (by kernel_rfl)
      (OpenSpec.preRow_of_cond 8 hx (by kernel_rfl) (fun k hk => by cases hk) (by kernel_rfl) (Card.laid_met os _))) ?_
  intro W base args ds gs before hval0 hW _ _ _ hL hsh _
  obtain ⟨m, hmax⟩ := Card.maxLen_int hsh
  have hm : Six.At m W := ⟨hmax, Six.tab_of hL⟩
  have hval : ∀ (j : Nat) t v, Tryz.f4.params[j]? = some t → args[j]? = some v → Value.okWide Tryz.prog W .any base t v := hval0
  have hW' := hW
  obtain ⟨p, q, hA0, hV, rfl, hfz, hnd⟩ := hW
  have hA : DataW.TrodAll enc Tryz.prog W 0 (fun _ => true) true Tryz.f4.params.toList args.toList ds p := hA0
  rw [Tryz.params4] at hA hval
  obtain ⟨v0, vs0, d0, ds0, p0, q0, hargs0, rfl, rfl, t0, r0⟩ := trodAll_cons hA
  obtain ⟨v1, vs1, d1, ds1, p1, q1, hargs1, rfl, rfl, t1, r1⟩ := trodAll_cons r0
  obtain ⟨rfl, rfl, rfl⟩ := trodAll_nil r1
  obtain rfl : args = #[v0, v1] := by cases args; simp_all
  obtain ⟨rfl, rfl⟩ := trodVars_none hV
  obtain ⟨a0, rfl, rfl, rfl, w0⟩ := open_string Tryz.underlying9 (hval 0 9 v0 rfl rfl) t0
  obtain ⟨a1, rfl, rfl, rfl, w1⟩ := open_int Tryz.underlying3 (hval 1 3 v1 rfl rfl) t1
  clear hA0 hval0
  simp only [List.append_nil] at hW'
  refine (walk a0 a1 w0 w1 m W hm ).mono fun e W' ⟨he, bel⟩ => ?_
  subst he
  exact ⟨_, rfl, _, _, _, [], _, [], hW', trodAll_mk1 (shut_bool Tryz.underlying4 _), (trodAll_cons_mk (shut_string Tryz.underlying9 w0) (trodAll_cons_mk (shut_int Tryz.underlying3 w1) trodAll_mk0)), rfl, bel.frame _, fun h => by cases h⟩

theorem said : Rows.urlMayRow.holds Tryz.pinned (OpenSpec.ofChange Rows.urlMaySpec) :=
  OpenClaim.holds_of_cond 4 Tryz.f4 rfl rfl rfl rfl rfl rfl rfl ⟨rfl, rfl, rfl, rfl, rfl⟩ rfl rfl rfl rfl rfl (by kernel_rfl) Tryz.func4 (by kernel_rfl)
    (of_decide_eq_true (by kernel_rfl)) (by unfold Func.isWrapper; first | (rw [if_pos (by decide +kernel)]; kernel_rfl) | (rw [if_neg (by decide +kernel)]; exact ⟨rfl, rfl⟩))
    (fun os started H enc _ F => by rw [OpenClaim.pre_eq_preRow]; exact lifted os started H enc F)

/-- No parameter wants a stand-in; the program's own looks are on. -/
theorem plain (f : FuncId) (fn : Func) (hf : Tryz.pinned.checked.prog.funcNamed Rows.urlMayRow.func = some f) (hfn : Tryz.pinned.checked.prog.funcs[f]? = some fn) :
    true = Tryz.pinned.checked.prog.looks [] ∧ ∀ (j : Nat) t, fn.params[j]? = some t → Tryz.pinned.checked.prog.wantsStandIn t = false := by
  obtain rfl : f = 4 := Option.some.inj ((show Tryz.prog.funcNamed Rows.urlMayRow.func = some 4 by kernel_rfl).symm.trans hf) |>.symm
  obtain rfl : fn = Tryz.f4 := (Option.some.inj (Tryz.func4.symm.trans hfn)).symm
  refine ⟨by kernel_rfl, fun j t ht => ?_⟩
  rw [Tryz.params4] at ht
  obtain rfl | rfl : t = 9 ∨ t = 3 := by simpa using Array.mem_of_getElem? ht
  · exact (show Tryz.prog.wantsStandIn 9 = false by kernel_rfl)
  · exact (show Tryz.prog.wantsStandIn 3 = false by kernel_rfl)

/-- The statement: the card. -/
theorem proved : Rows.UrlMayCardSaid :=
  Claim7.holds_tied_plain_at .later [] _ _ _ _ said (fun _ h => by cases h) (by kernel_rfl) (fun _ h => by cases h) urlMay_row_tie rfl ⟨rfl, rfl⟩ (by kernel_rfl) rfl plain (by kernel_rfl)
#print axioms proved
end Go.Proofs.YtfdhhjigpboieaaGreatDoor.urlMay

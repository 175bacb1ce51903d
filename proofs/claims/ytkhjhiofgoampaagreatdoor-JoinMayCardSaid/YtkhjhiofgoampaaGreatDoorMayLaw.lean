/-
  WHAT IS PROVED: the card of JoinMay: of any two addresses whose parts are few and short, and any text of at most 300 bytes: what is told beside an address may be; a whole one does not hang on it; what is parsed is told beside each; what begins by slashes alone has its scheme.
  CONDITIONS: none but the card's own: the listed tables read as their texts lay them; the addresses and the text are any.
-/
import Derived.Test.YtkhjhiofgoampaaGreatDoorCards
import Derived.Test.YtkhjhiofgoampaaGreatDoorTie
import Derived.WalkKit
import Derived.ProofKit
import Derived.OpenShut
import Derived.ShutString
import Derived.ChangeOld
import Derived.Below
import Derived.Deep.RegionHeld
import Derived.Laws.AppendOwnNone
import Derived.Test.YtkhjhiofgoampaaGreatDoorJAwake
import Derived.Test.YtkhjhiofgoampaaGreatDoorLaid
import Derived.Test.YtkhjhiofgoampaaGreatDoorHOpen
namespace Go.Proofs.YtkhjhiofgoampaaGreatDoor.joinMay
open Go.ChangeShapes Go.WideShapes Go.ChangeAt Go.RowKit
open Go.ChangeMaps (open_string shut_string)
open Go.Shelf
open Go.Proofs.YtkhjhiofgoampaaGreatDoor.Url
open Go.Proofs.YtkhjhiofgoampaaGreatDoor.Host (H)
open Go.Proofs.YtkhjhiofgoampaaGreatDoor.Path (Strs)
set_option linter.unusedSimpArgs false
set_option linter.unusedVariables false

theorem own : ownKnob Tryz.prog.godebug = none := by kernel_rfl
theorem laidOut : laidOutB Tryz.prog = true := by kernel_rfl

open Go.Proofs.YtkhjhiofgoampaaGreatDoor.Show
open Go.Proofs.YtkhjhiofgoampaaGreatDoor.Join
theorem few_path {u : U} (h : fewU u = true) : u.path.length ≤ 60 ∧ ∀ t ∈ u.path, t.length ≤ 300 := by
  unfold fewU at h
  rw [Bool.and_eq_true] at h
  exact (Path.few_iff _).1 h.1
theorem few_sch {u : U} (h : fewU u = true) : u.sch.length ≤ 300 := by
  unfold fewU at h
  simp only [Bool.and_eq_true, le3_iff] at h
  exact h.2.1
theorem merge_sizes (base : List T) (s : T) (h1 : base.length ≤ 60) (h2 : ∀ t ∈ base, t.length ≤ 300) (hs : s.length ≤ 300) : (Path.merge base s).length ≤ 1000 ∧ ∀ t ∈ Path.merge base s, t.length ≤ 1000 := by
  have e1 := Path.split_len (Path.enc (Path.strip s))
  have e2 := Path.split_sum (Path.enc (Path.strip s))
  have e3 : (Path.enc (Path.strip s)).length ≤ 3 * (Path.strip s).length := Pct.encode_len 3 _
  have e4 := Path.strip_len s
  have e5 : (Path.segs s).length ≤ 901 := by show (Path.split _).length ≤ _; omega
  have e6 : ∀ t ∈ Path.segs s, t.length ≤ 900 := fun t ht => by have := e2 t ht; omega
  refine ⟨?_, ?_⟩
  · have h := Path.norm_len [] (base.dropLast ++ Path.segs s)
    rw [List.length_append, List.length_dropLast] at h
    show (Path.norm [] (base.dropLast ++ Path.segs s)).length ≤ 1000
    simp only [List.length_nil] at h
    omega
  · refine Path.norm_mem [] (base.dropLast ++ Path.segs s) (fun t => t.length ≤ 1000) (by simp) (by simp) (fun t ht _ => ?_)
    rcases List.mem_append.1 ht with h | h
    · have := h2 t (List.dropLast_subset _ h); omega
    · have := e6 t h; omega
theorem few_rest {u : U} (h : fewU u = true) : u.sch.length ≤ 300 ∧ u.qry.length ≤ 300 := by
  unfold fewU at h
  simp only [Bool.and_eq_true, le3_iff] at h
  exact ⟨h.2.1, h.2.2.2.2.2.2.1⟩
theorem bes_fit (b : U) (s : T) (F : Fit b) (P : b.path.length ≤ 60 ∧ ∀ t ∈ b.path, t.length ≤ 300) (hs : s.length ≤ 300) : Fit (besU b s) := by
  have hA : (tA s).length ≤ 300 := Nat.le_trans (Nat.le_trans (bef_len _ _) (bef_len _ _)) hs
  have hQ : (tQ s).length ≤ 300 := Nat.le_trans (Nat.le_trans (aft_len _ _) (bef_len _ _)) hs
  have hF : (tF s).length ≤ 300 := Nat.le_trans (aft_len _ _) hs
  have hp : (pathU b.path (tA s)).length ≤ 1000 ∧ ∀ t ∈ pathU b.path (tA s), t.length ≤ 1000 := by
    unfold pathU
    split
    · exact ⟨by have := P.1; omega, fun t ht => by have := P.2 t ht; omega⟩
    · split
      · exact merge_sizes [] _ (by simp) (by simp) hA
      · exact merge_sizes b.path _ P.1 P.2 hA
  have e2 := enc_le 2 _ _ hQ
  have e1 := enc_le 1 _ _ hF
  refine ⟨F.h8, F.hs, by have := hp.1; show (pathU b.path (tA s)).length ≤ 10000; omega, fun t ht => by have := hp.2 t ht; omega, F.sch, F.usr, F.pas, F.opq, ?_, by show (Pct.encode 1 (tF s)).length ≤ 1000000; omega⟩
  show (if tHQ s || !(tA s).isEmpty then Pct.encode 2 (tQ s) else b.qry).length ≤ 1000000
  split
  · omega
  · exact F.qry
theorem res8 (b : U) (s : T) (h : b.h.p.length = 8) : (resR b s).h.p.length = 8 := by
  unfold resR
  split
  · unfold resIn
    split
    · exact par8 _
    · split
      · rfl
      · split
        · exact par8u _
        · exact h
  · rfl
theorem res_fit (b : U) (s : T) (h8 : b.h.p.length = 8) (F : Fit b) (P : b.path.length ≤ 60 ∧ ∀ t ∈ b.path, t.length ≤ 300) (R : b.sch.length ≤ 300 ∧ b.qry.length ≤ 300) (hs : s.length ≤ 300) (ho : okR b s = true) : Fit (resR b s) := by
  have hc : (Ascii.clean s).length ≤ 300 := Nat.le_trans (clean_len _) hs
  cases hw : schB (Ascii.clean s)
  · obtain ⟨hb, hz, _⟩ := res_part hw ho
    unfold resR resIn
    rw [if_pos hb, if_neg (by rw [hw]; simp), if_neg hz]
    have h5 : b.sch.length ≤ 5 := by
      rcases web_cases b.sch with ⟨e, _⟩ | ⟨e, _⟩ | e
      · rw [e]; decide
      · rw [e]; decide
      · exact absurd e hz
    split
    · exact (par_small (b.sch ++ 58 :: Ascii.clean s) (by rw [List.length_append, List.length_cons]; omega)).fit
    · exact bes_fit b _ F P hc
  · obtain ⟨e1, e2⟩ := res_whole (b := b) hw
    rw [ho] at e1
    rw [e2 (Bool.and_eq_true_iff.1 e1.symm).1]
    exact (par_small s (by omega)).fit
set_option maxRecDepth 100000
set_option maxHeartbeats 16000000 in
theorem walk (a0 : U) (v0 : Value) (l0 : a0.h.p.length = 8) (a1 : U) (v1 : Value) (l1 : a1.h.p.length = 8) (a2 : ByteArray) (w2 : a2.size ≤ maxLen) (m : Int) (w : World) (hm : Six.At m w) (s0 : Path.Strs w v0 a0.path) (w0 : (Lit.int .i64 a0.port).wf = true) (s1 : Path.Strs w v1 a1.path) (w1 : (Lit.int .i64 a1.port).wf = true) :
    Calls Tryz.prog 4 #[.agg (cU a0 v0), .agg (cU a1 v1), .string a2] w fun e w' => e = .returned (.bool true) ∧ Below w.heap.size w w' := by
  have e1 : (w.alloc (.cells (cU a0 v0) 27)).heap.size = w.heap.size + 1 := Array.size_push _
  have b1 : Below w.heap.size w (w.alloc (.cells (cU a0 v0) 27)) := (Below.refl w.heap.size w).alloc (Nat.le_refl _) _
  have b2 : Below w.heap.size w ((w.alloc (.cells (cU a0 v0) 27)).alloc (.cells (cU a1 v1) 27)) := b1.alloc (by omega) _
  have HX := Lib.hid b2
  have HU0 := Lib.hid ((UrlAt.new w a0 v0).past (.cells (cU a1 v1) 27))
  have HV0 := Lib.hid (show UrlAt ((w.alloc (.cells (cU a0 v0) 27)).alloc (.cells (cU a1 v1) 27)) (w.heap.size + 1) a1 v1 from by rw [← e1]; exact UrlAt.new (w.alloc (.cells (cU a0 v0) 27)) a1 v1)
  have HM0 := Lib.hid (hm.later HX.out)
  have HS0 := Lib.hid (s0.later HX.out)
  have HT0 := Lib.hid (s1.later HX.out)
  clear hm e1 b1 b2 s0 s1
  go_enter Tryz.func4, Tryz.ntmps4
  go_wp2_with fail
  generalize ((w.alloc (.cells (cU a0 v0) 27)).alloc (.cells (cU a1 v1) 27)) = X0 at HX HM0 HU0 HS0 HV0 HT0 ⊢
  have HMX := HM0
  refine (Join.awake_calls m X0 HM0.out).mono ?_
  rintro e X1 ⟨rfl, hB⟩
  have HB1 := Lib.hid (hB)
  have HU1 := Lib.hid (HU0.out.later hB)
  have HV1 := Lib.hid (HV0.out.later hB)
  have HM1 := Lib.hid (HM0.out.later hB)
  have HS1 := Lib.hid (HS0.out.later hB)
  have HT1 := Lib.hid (HT0.out.later hB)
  clear HU0 HV0 HM0 HS0 HT0
  clear hB
  obtain ⟨f0, hf0⟩ : ∃ b, fewU a0 = b := ⟨_, rfl⟩
  have hu := HU1.out
  go_wp2_with ((with_reducible refine wp_load27 (o := ⟨some 18, .load 27 (.tmp 3), _, _, _, _⟩) ?_ (.tmp 3) ?_ w.heap.size ?_ a0 v0 l0 hu ?_); (· rfl); (· rfl); (· rfl); simp only [Act.put, List.setIfInBounds_toArray, List.set_cons_zero, List.set_cons_succ])
  refine (few_any a0 v0 l0 f0 hf0 _ HS1.out).mono ?_
  rintro e X2 ⟨rfl, hB⟩
  have HB2 := Lib.hid (below_trans HB1.out hB)
  have HU2 := Lib.hid (HU1.out.later hB)
  have HV2 := Lib.hid (HV1.out.later hB)
  have HM2 := Lib.hid (HM1.out.later hB)
  have HS2 := Lib.hid (HS1.out.later hB)
  have HT2 := Lib.hid (HT1.out.later hB)
  clear HB1 HU1 HV1 HM1 HS1 HT1
  clear hB hu
  obtain ⟨f1, hf1⟩ : ∃ b, fewU a1 = b := ⟨_, rfl⟩
  have hu := HV2.out
  go_wp2_with ((with_reducible refine wp_load27 (o := ⟨some 20, .load 27 (.tmp 4), _, _, _, _⟩) ?_ (.tmp 4) ?_ (w.heap.size + 1) ?_ a1 v1 l1 hu ?_); (· rfl); (· rfl); (· rfl); simp only [Act.put, List.setIfInBounds_toArray, List.set_cons_zero, List.set_cons_succ])
  refine (few_any a1 v1 l1 f1 hf1 _ HT2.out).mono ?_
  rintro e X3 ⟨rfl, hB⟩
  have HB3 := Lib.hid (below_trans HB2.out hB)
  have HU3 := Lib.hid (HU2.out.later hB)
  have HV3 := Lib.hid (HV2.out.later hB)
  have HM3 := Lib.hid (HM2.out.later hB)
  have HS3 := Lib.hid (HS2.out.later hB)
  have HT3 := Lib.hid (HT2.out.later hB)
  clear HB2 HU2 HV2 HM2 HS2 HT2
  clear hB hu
  cases f0
  · go_wp2
    go_ret
    exact ⟨rfl, HX.out.trans (HB3.out.mono HX.out.size)⟩
  cases f1
  · go_wp2
    go_ret
    exact ⟨rfl, HX.out.trans (HB3.out.mono HX.out.size)⟩
  obtain ⟨big, hbig⟩ : ∃ b, decide (300 < a2.size) = b := ⟨_, rfl⟩
  have hbig' : decide ((300 : Int) < (a2.size : Int)) = big := by rw [← hbig]; exact decide_eq_decide.2 (by omega)
  cases big
  · have hs : a2.size ≤ 300 := by have := of_decide_eq_false hbig; omega
    have F0 := few_fit a0 l0 hf0
    have F1 := few_fit a1 l1 hf1
    have P0 := few_path hf0
    have P1 := few_path hf1
    obtain ⟨mb, hmb⟩ : ∃ b, mayU a0 = b := ⟨_, rfl⟩
    obtain ⟨mc, hmc⟩ : ∃ b, mayU a1 = b := ⟨_, rfl⟩
    obtain ⟨z, hz⟩ : ∃ z, webI a0.sch = z := ⟨_, rfl⟩
    obtain ⟨wh, hwh⟩ : ∃ b, wholeB a2.data.toList = b := ⟨_, rfl⟩
    obtain ⟨N, hN⟩ : ∃ n, tb a0.sch = n := ⟨_, rfl⟩
    obtain ⟨r0, hr0⟩ : ∃ b, okR a0 a2.data.toList = b := ⟨_, rfl⟩
    obtain ⟨r1, hr1⟩ : ∃ b, okR a1 a2.data.toList = b := ⟨_, rfl⟩
    obtain ⟨o, ho⟩ : ∃ b, okU a2.data.toList = b := ⟨_, rfl⟩
    obtain ⟨X, hX⟩ : ∃ b, resR a0 a2.data.toList = b := ⟨_, rfl⟩
    obtain ⟨Y, hY⟩ : ∃ b, resR a1 a2.data.toList = b := ⟨_, rfl⟩
    obtain ⟨P, hP⟩ : ∃ b, parU a2.data.toList = b := ⟨_, rfl⟩
    have hsc : a0.sch.length ≤ 1000 := by have := few_sch hf0; omega
    have hsc1 : a1.sch.length ≤ 1000 := by have := few_sch hf1; omega
    have hs' : a2.data.toList.length ≤ 300 := by rw [size_list]; exact hs
    have CR0 := Lib.hid (fun y hm hs => resolve_any a0 v0 F0 (by have := P0.1; omega) hsc a2 (by omega) r0 hr0 X hX m y hm hs)
    have CR1 := Lib.hid (fun y hm hs => resolve_any a1 v1 F1 (by have := P1.1; omega) hsc1 a2 (by omega) r1 hr1 Y hY m y hm hs)
    have CP := Lib.hid (fun y hm => parse_in a2 (by omega) o ho m y hm)
    rw [hP] at CP
    have CW := Lib.hid (fun y hm => whole_any a2 (by omega) wh hwh m y hm)
    have CMb := Lib.hid (fun y hm hs => may_any a0 v0 F0 mb hmb m y hm hs)
    have CMc := Lib.hid (fun y hm hs => may_any a1 v1 F1 mc hmc m y hm hs)
    have CZ := Lib.hid (fun x => web_any N z (by rw [list_tb hN]; exact hz) x)
    have G1 := Lib.hid (show r0 = false → X = none1 ∧ (mb = false ∨ wh = true ∨ z = 0 ∨ 1 < a2.size) from fun h => by
      obtain ⟨e1, e2⟩ := res_not (hr0.trans h)
      refine ⟨hX.symm.trans e1, ?_⟩
      rw [hmb, hwh, hz, size_list] at e2
      exact e2)
    have GX8 : X.h.p.length = 8 := by rw [← hX]; exact res8 a0 _ l0
    have GY8 : Y.h.p.length = 8 := by rw [← hY]; exact res8 a1 _ l1
    have GP8 : P.h.p.length = 8 := by rw [← hP]; exact par8u _
    have G2 := Lib.hid (show r0 = true → Fit X ∧ mayU X = true from fun h => by
      rw [← hX]; exact ⟨res_fit a0 a2.data.toList l0 F0 P0 (few_rest hf0) hs' (hr0.trans h), (may_law a0 a1 a2.data.toList (hr0.trans h)).1⟩)
    have G3 := Lib.hid (show r0 = true → wh = true → o = true ∧ X = P ∧ (mc = true → r1 = true ∧ X = Y) from fun h k => by
      obtain ⟨e1, e2, e3⟩ := (may_law a0 a1 a2.data.toList (hr0.trans h)).2.1 (hwh.trans k)
      refine ⟨ho.symm.trans e1, by rw [← hX, ← hP]; exact e2.symm, fun j => ?_⟩
      obtain ⟨e4, e5⟩ := e3 (hmc.trans j)
      exact ⟨hr1.symm.trans e4, by rw [← hX, ← hY]; exact e5⟩)
    have G4 := Lib.hid (show r0 = true → wh = false → tb X.sch = N ∧ o = false from fun h k => by
      obtain ⟨e1, e2⟩ := (may_law a0 a1 a2.data.toList (hr0.trans h)).2.2 (hwh.trans k)
      exact ⟨by rw [← hX, e1]; exact hN, ho.symm.trans e2⟩)
    have LX := Lib.hid GX8
    have LY := Lib.hid GY8
    have LP := Lib.hid GP8
    have HNN := Lib.hid hN
    have HBg := Lib.hid hbig'
    have HBh := Lib.hid hbig
    clear hbig hbig' hs hs' hf0 hf1 F0 F1 P0 P1 hmb hmc hz hwh hN hr0 hr1 ho hX hY hP hsc hsc1 GX8 GY8 GP8
    have hu := HU3.out
    have hbg := HBg.out
    have hbh := HBh.out
    go_wp2_with ((with_reducible refine wp_load27 (o := ⟨some 39, .load 27 (.tmp 3), _, _, _, _⟩) ?_ (.tmp 3) ?_ w.heap.size ?_ a0 v0 l0 hu ?_); (· rfl); (· rfl); (· rfl); simp only [Act.put, List.setIfInBounds_toArray, List.set_cons_zero, List.set_cons_succ])
    refine (CR0.out _ HM3.out HS3.out).mono ?_
    rintro e X4 ⟨pv, rfl, hst, hn, hB⟩
    clear hu CR0 hbg hbh HBg HBh
    have lx := LX.out
    have hone := strs_one hst
    have hnew := new_url X4
    have hB2 := below_trans hB (below_url X4 X pv)
    have HB4 := Lib.hid (below_trans HB3.out hB2)
    have HU4 := Lib.hid (HU3.out.later hB2)
    have HV4 := Lib.hid (HV3.out.later hB2)
    have HM4 := Lib.hid (HM3.out.later hB2)
    have HS4 := Lib.hid (HS3.out.later hB2)
    have HT4 := Lib.hid (HT3.out.later hB2)
    have HP4 := Lib.hid (hst.later (below_url X4 X pv))
    have HY4 := Lib.hid (hnew.row X pv)
    clear HB3 HU3 HV3 HM3 HS3 HT3 hst hn hB hB2
    go_upto_region 7 with ((with_reducible refine wp_store27 (o := ⟨none, .store 27 (.tmp 10) (.tmp 42), _, _, _, _⟩) ?_ (.tmp 10) (.tmp 42) ?_ X4.heap.size ?_ X pv ?_ lx hone none1 (.slice none 0 0) rfl hnew ?_); (· rfl); (· rfl); (· rfl); (· rfl); simp only [Act.put, List.setIfInBounds_toArray, List.set_cons_zero, List.set_cons_succ])
    generalize (X4.alloc (.cells #[.string ⟨#[]⟩, .string ⟨#[]⟩, .string ⟨#[]⟩, .int .i64 0, .string ⟨#[]⟩, .int .i64 0, .int .i64 0, .int .i64 0, .int .i64 0, .int .i64 0, .int .i64 0, .int .i64 0, .int .i64 0, .int .i64 0, .int .i64 0, .slice none 0 0, .string ⟨#[]⟩, .string ⟨#[]⟩, .string ⟨#[]⟩, .bool false, .bool false] 27)).setRow X4.heap.size (cU X pv) = V4 at HB4 HU4 HV4 HM4 HS4 HT4 HP4 HY4 ⊢
    generalize X4.heap.size = g1 at HY4 ⊢
    clear hnew hone lx
    cases r0
    · obtain ⟨hx, hways⟩ := G1.out (by first | rfl | trivial)
      have CE := Lib.hid (fun p q y hp hq => same_any X none1 p q LX.out rfl true ((same_iff _ _).2 hx) y hp hq)
      have HWays := Lib.hid hways
      have lx := LX.out
      have hy := HY4.out
      clear hx hways G1 G2 G3 G4 CR1 CP
      go_wp2_with ((with_reducible refine wp_load27 (o := ⟨some 46, .load 27 (.tmp 10), _, _, _, _⟩) ?_ (.tmp 10) ?_ g1 ?_ X pv lx hy ?_); (· rfl); (· rfl); (· rfl); simp only [Act.put, List.setIfInBounds_toArray, List.set_cons_zero, List.set_cons_succ])
      rw [zero_url]
      refine (CE.out pv _ _ HP4.out (Path.Strs.nil _)).mono ?_
      rintro e X5 ⟨rfl, hB⟩
      clear hy
      have HB5 := Lib.hid (below_trans HB4.out hB)
      have HU5 := Lib.hid (HU4.out.later hB)
      have HV5 := Lib.hid (HV4.out.later hB)
      have HM5 := Lib.hid (HM4.out.later hB)
      have HS5 := Lib.hid (HS4.out.later hB)
      have HT5 := Lib.hid (HT4.out.later hB)
      have HP5 := Lib.hid (HP4.out.later hB)
      have HY5 := Lib.hid (HY4.out.later hB)
      clear HB4 HU4 HV4 HM4 HS4 HT4 HP4 HY4
      clear hB CE
      have hu := HU5.out
      go_wp2_with ((with_reducible refine wp_load27 (o := ⟨some 50, .load 27 (.tmp 3), _, _, _, _⟩) ?_ (.tmp 3) ?_ w.heap.size ?_ a0 v0 l0 hu ?_); (· rfl); (· rfl); (· rfl); simp only [Act.put, List.setIfInBounds_toArray, List.set_cons_zero, List.set_cons_succ])
      refine (CMb.out _ HM5.out HS5.out).mono ?_
      rintro e X6 ⟨rfl, hB⟩
      have HB6 := Lib.hid (below_trans HB5.out hB)
      have HU6 := Lib.hid (HU5.out.later hB)
      have HV6 := Lib.hid (HV5.out.later hB)
      have HM6 := Lib.hid (HM5.out.later hB)
      have HS6 := Lib.hid (HS5.out.later hB)
      have HT6 := Lib.hid (HT5.out.later hB)
      have HP6 := Lib.hid (HP5.out.later hB)
      have HY6 := Lib.hid (HY5.out.later hB)
      clear HB5 HU5 HV5 HM5 HS5 HT5 HP5 HY5
      clear hB hu CMb
      cases mb
      · go_wp2
        go_ret
        exact ⟨rfl, HX.out.trans (HB6.out.mono HX.out.size)⟩
      go_wp2_with fail
      refine (CW.out _ HM6.out).mono ?_
      rintro e X7 ⟨rfl, hB⟩
      have HB7 := Lib.hid (below_trans HB6.out hB)
      have HU7 := Lib.hid (HU6.out.later hB)
      have HV7 := Lib.hid (HV6.out.later hB)
      have HM7 := Lib.hid (HM6.out.later hB)
      have HS7 := Lib.hid (HS6.out.later hB)
      have HT7 := Lib.hid (HT6.out.later hB)
      have HP7 := Lib.hid (HP6.out.later hB)
      have HY7 := Lib.hid (HY6.out.later hB)
      clear HB6 HU6 HV6 HM6 HS6 HT6 HP6 HY6
      clear hB CW
      cases wh
      · have c0 := HU7.out.cell 0
        rw [(cU_at a0 v0 l0).1, HNN.out] at c0
        go_wp2_with fail
        refine (CZ.out _).mono ?_
        rintro e XZ ⟨rfl, rfl⟩
        clear CZ c0
        by_cases h0 : z = 0
        · subst h0
          go_wp2
          go_ret
          exact ⟨rfl, HX.out.trans (HB7.out.mono HX.out.size)⟩
        have q0 : (z == 0) = false := beq_eq_false_iff_ne.2 h0
        have h1 : 1 < a2.size := by
          rcases HWays.out with h | h | h | h
          · cases h
          · cases h
          · exact absurd h h0
          · exact h
        clear HWays
        have q1 : decide ((1 : Int) < (a2.size : Int)) = true := decide_eq_true (by omega)
        have q1' : decide (1 < a2.size) = true := decide_eq_true h1
        go_wp2
        go_ret
        exact ⟨rfl, HX.out.trans (HB7.out.mono HX.out.size)⟩
      · go_wp2
        go_ret
        exact ⟨rfl, HX.out.trans (HB7.out.mono HX.out.size)⟩
    · obtain ⟨hfx, hmx⟩ := G2.out (by first | rfl | trivial)
      have CMX := Lib.hid (fun y hm hs => may_any X pv hfx true hmx m y hm hs)
      have CS := Lib.hid (fun p q y hp hq => same_any X X p q LX.out LX.out true ((same_iff _ _).2 rfl) y hp hq)
      clear hfx hmx G1 G2 CMb CZ
      have hv := HV4.out
      go_wp2_with ((with_reducible refine wp_load27 (o := ⟨some 70, .load 27 (.tmp 4), _, _, _, _⟩) ?_ (.tmp 4) ?_ (w.heap.size + 1) ?_ a1 v1 l1 hv ?_); (· rfl); (· rfl); (· rfl); simp only [Act.put, List.setIfInBounds_toArray, List.set_cons_zero, List.set_cons_succ])
      refine (CR1.out _ HM4.out HT4.out).mono ?_
      rintro e X5 ⟨qv, rfl, hst, hn, hB⟩
      clear hv CR1
      have hone := strs_one hst
      have hnew := new_url X5
      have hB2 := below_trans hB (below_url X5 Y qv)
      have HB5 := Lib.hid (below_trans HB4.out hB2)
      have HU5 := Lib.hid (HU4.out.later hB2)
      have HV5 := Lib.hid (HV4.out.later hB2)
      have HM5 := Lib.hid (HM4.out.later hB2)
      have HS5 := Lib.hid (HS4.out.later hB2)
      have HT5 := Lib.hid (HT4.out.later hB2)
      have HP5 := Lib.hid (HP4.out.later hB2)
      have HY5 := Lib.hid (HY4.out.later hB2)
      have HQ5 := Lib.hid (hst.later (below_url X5 Y qv))
      have HZ5 := Lib.hid (hnew.row Y qv)
      clear HB4 HU4 HV4 HM4 HS4 HT4 HP4 HY4 hst hn hB hB2
      go_wp2_with ((with_reducible refine wp_store27 (o := ⟨none, .store 27 (.tmp 12) (.tmp 73), _, _, _, _⟩) ?_ (.tmp 12) (.tmp 73) ?_ X5.heap.size ?_ Y qv ?_ LY.out hone none1 (.slice none 0 0) rfl hnew ?_); (· rfl); (· rfl); (· rfl); (· rfl); simp only [Act.put, List.setIfInBounds_toArray, List.set_cons_zero, List.set_cons_succ])
      generalize (X5.alloc (.cells #[.string ⟨#[]⟩, .string ⟨#[]⟩, .string ⟨#[]⟩, .int .i64 0, .string ⟨#[]⟩, .int .i64 0, .int .i64 0, .int .i64 0, .int .i64 0, .int .i64 0, .int .i64 0, .int .i64 0, .int .i64 0, .int .i64 0, .int .i64 0, .slice none 0 0, .string ⟨#[]⟩, .string ⟨#[]⟩, .string ⟨#[]⟩, .bool false, .bool false] 27)).setRow X5.heap.size (cU Y qv) = V5 at HB5 HU5 HV5 HM5 HS5 HT5 HP5 HY5 HQ5 HZ5 ⊢
      generalize X5.heap.size = g2 at HZ5 ⊢
      clear hnew hone
      refine (CP.out _ HM5.out).mono ?_
      rintro e X6 ⟨rv, rfl, hst, hn, hB⟩
      clear CP
      have hone := strs_one hst
      have hnew := new_url X6
      have hB2 := below_trans hB (below_url X6 P rv)
      have HB6 := Lib.hid (below_trans HB5.out hB2)
      have HU6 := Lib.hid (HU5.out.later hB2)
      have HV6 := Lib.hid (HV5.out.later hB2)
      have HM6 := Lib.hid (HM5.out.later hB2)
      have HS6 := Lib.hid (HS5.out.later hB2)
      have HT6 := Lib.hid (HT5.out.later hB2)
      have HP6 := Lib.hid (HP5.out.later hB2)
      have HY6 := Lib.hid (HY5.out.later hB2)
      have HZ6 := Lib.hid (HZ5.out.later hB2)
      have HQ6 := Lib.hid (HQ5.out.later hB2)
      have HR6 := Lib.hid (hst.later (below_url X6 P rv))
      have HW6 := Lib.hid (hnew.row P rv)
      clear HB5 HU5 HV5 HM5 HS5 HT5 HP5 HY5 HZ5 HQ5 hst hn hB hB2
      go_wp2_with ((with_reducible refine wp_store27 (o := ⟨none, .store 27 (.tmp 14) (.tmp 78), _, _, _, _⟩) ?_ (.tmp 14) (.tmp 78) ?_ X6.heap.size ?_ P rv ?_ LP.out hone none1 (.slice none 0 0) rfl hnew ?_); (· rfl); (· rfl); (· rfl); (· rfl); simp only [Act.put, List.setIfInBounds_toArray, List.set_cons_zero, List.set_cons_succ])
      generalize (X6.alloc (.cells #[.string ⟨#[]⟩, .string ⟨#[]⟩, .string ⟨#[]⟩, .int .i64 0, .string ⟨#[]⟩, .int .i64 0, .int .i64 0, .int .i64 0, .int .i64 0, .int .i64 0, .int .i64 0, .int .i64 0, .int .i64 0, .int .i64 0, .int .i64 0, .slice none 0 0, .string ⟨#[]⟩, .string ⟨#[]⟩, .string ⟨#[]⟩, .bool false, .bool false] 27)).setRow X6.heap.size (cU P rv) = V6 at HB6 HU6 HV6 HM6 HS6 HT6 HP6 HY6 HZ6 HQ6 HR6 HW6 ⊢
      generalize X6.heap.size = g3 at HW6 ⊢
      clear hnew hone
      refine (CW.out _ HM6.out).mono ?_
      rintro e X7 ⟨rfl, hB⟩
      have HB7 := Lib.hid (below_trans HB6.out hB)
      have HU7 := Lib.hid (HU6.out.later hB)
      have HV7 := Lib.hid (HV6.out.later hB)
      have HM7 := Lib.hid (HM6.out.later hB)
      have HS7 := Lib.hid (HS6.out.later hB)
      have HT7 := Lib.hid (HT6.out.later hB)
      have HP7 := Lib.hid (HP6.out.later hB)
      have HY7 := Lib.hid (HY6.out.later hB)
      have HZ7 := Lib.hid (HZ6.out.later hB)
      have HQ7 := Lib.hid (HQ6.out.later hB)
      have HW7 := Lib.hid (HW6.out.later hB)
      have HR7 := Lib.hid (HR6.out.later hB)
      clear HB6 HU6 HV6 HM6 HS6 HT6 HP6 HY6 HZ6 HQ6 HW6 HR6
      clear hB CW
      have lx := LX.out
      have hy := HY7.out
      cases wh
      · obtain ⟨hsch, rfl⟩ := G4.out (by first | rfl | trivial) (by first | rfl | trivial)
        clear G3 G4
        go_wp2_with ((with_reducible refine wp_load27 (o := ⟨some 82, .load 27 (.tmp 10), _, _, _, _⟩) ?_ (.tmp 10) ?_ g1 ?_ X pv lx hy ?_); (· rfl); (· rfl); (· rfl); simp only [Act.put, List.setIfInBounds_toArray, List.set_cons_zero, List.set_cons_succ])
        refine (CMX.out _ HM7.out HP7.out).mono ?_
        rintro e X8 ⟨rfl, hB⟩
        clear hy
        have HB8 := Lib.hid (below_trans HB7.out hB)
        have HU8 := Lib.hid (HU7.out.later hB)
        have HV8 := Lib.hid (HV7.out.later hB)
        have HM8 := Lib.hid (HM7.out.later hB)
        have HS8 := Lib.hid (HS7.out.later hB)
        have HT8 := Lib.hid (HT7.out.later hB)
        have HP8 := Lib.hid (HP7.out.later hB)
        have HY8 := Lib.hid (HY7.out.later hB)
        have HZ8 := Lib.hid (HZ7.out.later hB)
        have HQ8 := Lib.hid (HQ7.out.later hB)
        have HW8 := Lib.hid (HW7.out.later hB)
        have HR8 := Lib.hid (HR7.out.later hB)
        clear HB7 HU7 HV7 HM7 HS7 HT7 HP7 HY7 HZ7 HQ7 HW7 HR7
        clear hB CMX
        have c0 := HU8.out.cell 0
        rw [(cU_at a0 v0 l0).1, HNN.out] at c0
        have c1 := HY8.out.cell 0
        rw [(cU_at X pv lx).1, hsch] at c1
        clear hsch
        go_wp2
        go_ret
        exact ⟨rfl, HX.out.trans (HB8.out.mono HX.out.size)⟩
      · obtain ⟨rfl, rfl, h3⟩ := G3.out (by first | rfl | trivial) (by first | rfl | trivial)
        have G5 := Lib.hid h3
        clear G3 G4 h3
        go_wp2_with ((with_reducible refine wp_load27 (o := ⟨some 82, .load 27 (.tmp 10), _, _, _, _⟩) ?_ (.tmp 10) ?_ g1 ?_ X pv lx hy ?_); (· rfl); (· rfl); (· rfl); simp only [Act.put, List.setIfInBounds_toArray, List.set_cons_zero, List.set_cons_succ])
        refine (CMX.out _ HM7.out HP7.out).mono ?_
        rintro e X8 ⟨rfl, hB⟩
        clear hy
        have HB8 := Lib.hid (below_trans HB7.out hB)
        have HU8 := Lib.hid (HU7.out.later hB)
        have HV8 := Lib.hid (HV7.out.later hB)
        have HM8 := Lib.hid (HM7.out.later hB)
        have HS8 := Lib.hid (HS7.out.later hB)
        have HT8 := Lib.hid (HT7.out.later hB)
        have HP8 := Lib.hid (HP7.out.later hB)
        have HY8 := Lib.hid (HY7.out.later hB)
        have HZ8 := Lib.hid (HZ7.out.later hB)
        have HQ8 := Lib.hid (HQ7.out.later hB)
        have HW8 := Lib.hid (HW7.out.later hB)
        have HR8 := Lib.hid (HR7.out.later hB)
        clear HB7 HU7 HV7 HM7 HS7 HT7 HP7 HY7 HZ7 HQ7 HW7 HR7
        clear hB CMX
        have hy := HY8.out
        have hw := HW8.out
        go_wp2_with (first | ((with_reducible refine wp_load27 (o := ⟨some 90, .load 27 (.tmp 14), _, _, _, _⟩) ?_ (.tmp 14) ?_ g3 ?_ X rv lx hw ?_); (· rfl); (· rfl); (· rfl); simp only [Act.put, List.setIfInBounds_toArray, List.set_cons_zero, List.set_cons_succ]) | ((with_reducible refine wp_load27 (o := ⟨some 91, .load 27 (.tmp 10), _, _, _, _⟩) ?_ (.tmp 10) ?_ g1 ?_ X pv lx hy ?_); (· rfl); (· rfl); (· rfl); simp only [Act.put, List.setIfInBounds_toArray, List.set_cons_zero, List.set_cons_succ]))
        refine (CS.out rv pv _ HR8.out HP8.out).mono ?_
        rintro e X9 ⟨rfl, hB⟩
        clear hy hw
        have HB9 := Lib.hid (below_trans HB8.out hB)
        have HU9 := Lib.hid (HU8.out.later hB)
        have HV9 := Lib.hid (HV8.out.later hB)
        have HM9 := Lib.hid (HM8.out.later hB)
        have HS9 := Lib.hid (HS8.out.later hB)
        have HT9 := Lib.hid (HT8.out.later hB)
        have HP9 := Lib.hid (HP8.out.later hB)
        have HY9 := Lib.hid (HY8.out.later hB)
        have HZ9 := Lib.hid (HZ8.out.later hB)
        have HQ9 := Lib.hid (HQ8.out.later hB)
        have HW9 := Lib.hid (HW8.out.later hB)
        have HR9 := Lib.hid (HR8.out.later hB)
        clear HB8 HU8 HV8 HM8 HS8 HT8 HP8 HY8 HZ8 HQ8 HW8 HR8
        clear hB
        have hv := HV9.out
        go_wp2_with ((with_reducible refine wp_load27 (o := ⟨some 95, .load 27 (.tmp 4), _, _, _, _⟩) ?_ (.tmp 4) ?_ (w.heap.size + 1) ?_ a1 v1 l1 hv ?_); (· rfl); (· rfl); (· rfl); simp only [Act.put, List.setIfInBounds_toArray, List.set_cons_zero, List.set_cons_succ])
        refine (CMc.out _ HM9.out HT9.out).mono ?_
        rintro e XA ⟨rfl, hB⟩
        clear hv
        have HB10 := Lib.hid (below_trans HB9.out hB)
        have HU10 := Lib.hid (HU9.out.later hB)
        have HV10 := Lib.hid (HV9.out.later hB)
        have HM10 := Lib.hid (HM9.out.later hB)
        have HS10 := Lib.hid (HS9.out.later hB)
        have HT10 := Lib.hid (HT9.out.later hB)
        have HP10 := Lib.hid (HP9.out.later hB)
        have HY10 := Lib.hid (HY9.out.later hB)
        have HZ10 := Lib.hid (HZ9.out.later hB)
        have HQ10 := Lib.hid (HQ9.out.later hB)
        have HW10 := Lib.hid (HW9.out.later hB)
        have HR10 := Lib.hid (HR9.out.later hB)
        clear HB9 HU9 HV9 HM9 HS9 HT9 HP9 HY9 HZ9 HQ9 HW9 HR9
        clear hB CMc
        cases mc
        · go_wp2
          go_ret
          exact ⟨rfl, HX.out.trans (HB10.out.mono HX.out.size)⟩
        obtain ⟨rfl, rfl⟩ := G5.out (by first | rfl | trivial)
        clear G5
        have hy := HY10.out
        have hz := HZ10.out
        go_wp2_with (first | ((with_reducible refine wp_load27 (o := ⟨some 101, .load 27 (.tmp 10), _, _, _, _⟩) ?_ (.tmp 10) ?_ g1 ?_ X pv lx hy ?_); (· rfl); (· rfl); (· rfl); simp only [Act.put, List.setIfInBounds_toArray, List.set_cons_zero, List.set_cons_succ]) | ((with_reducible refine wp_load27 (o := ⟨some 102, .load 27 (.tmp 12), _, _, _, _⟩) ?_ (.tmp 12) ?_ g2 ?_ X qv lx hz ?_); (· rfl); (· rfl); (· rfl); simp only [Act.put, List.setIfInBounds_toArray, List.set_cons_zero, List.set_cons_succ]))
        refine (CS.out pv qv _ HP10.out HQ10.out).mono ?_
        rintro e XB ⟨rfl, hB⟩
        clear hy hz
        have HB11 := Lib.hid (below_trans HB10.out hB)
        have HU11 := Lib.hid (HU10.out.later hB)
        have HV11 := Lib.hid (HV10.out.later hB)
        have HM11 := Lib.hid (HM10.out.later hB)
        have HS11 := Lib.hid (HS10.out.later hB)
        have HT11 := Lib.hid (HT10.out.later hB)
        have HP11 := Lib.hid (HP10.out.later hB)
        have HY11 := Lib.hid (HY10.out.later hB)
        have HZ11 := Lib.hid (HZ10.out.later hB)
        have HQ11 := Lib.hid (HQ10.out.later hB)
        have HW11 := Lib.hid (HW10.out.later hB)
        have HR11 := Lib.hid (HR10.out.later hB)
        clear HB10 HU10 HV10 HM10 HS10 HT10 HP10 HY10 HZ10 HQ10 HW10 HR10
        clear hB
        go_wp2
        go_ret
        exact ⟨rfl, HX.out.trans (HB11.out.mono HX.out.size)⟩
  · go_wp2
    go_ret
    exact ⟨rfl, HX.out.trans (HB3.out.mono HX.out.size)⟩

/-! ### The row's step -/
theorem reads (os : Os) {H : Type} (enc : TypeId × Value → H) : (DataW.whole enc Tryz.prog ((Card.laidWorld os).forCall (fun _ _ => 0) ⟨#[], #[.agg #[.string ByteArray.empty, .string ByteArray.empty, .string ByteArray.empty, .int .i64 0, .string ByteArray.empty, .int .i64 0, .int .i64 0, .int .i64 0, .int .i64 0, .int .i64 0, .int .i64 0, .int .i64 0, .int .i64 0, .int .i64 0, .int .i64 0, .slice none 0 0, .string ByteArray.empty, .string ByteArray.empty, .string ByteArray.empty, .bool false, .bool false], .agg #[.string ByteArray.empty, .string ByteArray.empty, .string ByteArray.empty, .int .i64 0, .string ByteArray.empty, .int .i64 0, .int .i64 0, .int .i64 0, .int .i64 0, .int .i64 0, .int .i64 0, .int .i64 0, .int .i64 0, .int .i64 0, .int .i64 0, .slice none 0 0, .string ByteArray.empty, .string ByteArray.empty, .string ByteArray.empty, .bool false, .bool false], .string ByteArray.empty], []⟩).memory Tryz.f4.params.toList Rows.joinMaySpec.vars false (#[.agg #[.string ByteArray.empty, .string ByteArray.empty, .string ByteArray.empty, .int .i64 0, .string ByteArray.empty, .int .i64 0, .int .i64 0, .int .i64 0, .int .i64 0, .int .i64 0, .int .i64 0, .int .i64 0, .int .i64 0, .int .i64 0, .int .i64 0, .slice none 0 0, .string ByteArray.empty, .string ByteArray.empty, .string ByteArray.empty, .bool false, .bool false], .agg #[.string ByteArray.empty, .string ByteArray.empty, .string ByteArray.empty, .int .i64 0, .string ByteArray.empty, .int .i64 0, .int .i64 0, .int .i64 0, .int .i64 0, .int .i64 0, .int .i64 0, .int .i64 0, .int .i64 0, .int .i64 0, .int .i64 0, .slice none 0 0, .string ByteArray.empty, .string ByteArray.empty, .string ByteArray.empty, .bool false, .bool false], .string ByteArray.empty] : Array Value).toList 8).map (fun x => (x.1, x.2.1)) = some ([.agg [.lit (.string []), .lit (.string []), .lit (.string []), .agg [.lit (.int .i64 0), .lit (.string []), .lit (.int .i64 0), .agg [.lit (.int .i64 0), .lit (.int .i64 0), .lit (.int .i64 0), .lit (.int .i64 0), .lit (.int .i64 0), .lit (.int .i64 0), .lit (.int .i64 0), .lit (.int .i64 0)]], .lit (.int .i64 0), .nil, .lit (.string []), .lit (.string []), .lit (.string []), .lit (.bool false), .lit (.bool false)], .agg [.lit (.string []), .lit (.string []), .lit (.string []), .agg [.lit (.int .i64 0), .lit (.string []), .lit (.int .i64 0), .agg [.lit (.int .i64 0), .lit (.int .i64 0), .lit (.int .i64 0), .lit (.int .i64 0), .lit (.int .i64 0), .lit (.int .i64 0), .lit (.int .i64 0), .lit (.int .i64 0)]], .lit (.int .i64 0), .nil, .lit (.string []), .lit (.string []), .lit (.string []), .lit (.bool false), .lit (.bool false)], .lit (.string [])], []) := by kernel_rfl
set_option maxRecDepth 100000 in
theorem lifted (os : Os) (started : os.Started) (H : Type) (enc : TypeId × Value → H) (F : Stop.Interp) :
    ReturnsInHanded {} Tryz.checked os 4 .any ((OpenSpec.ofChange Rows.joinMaySpec).preRow enc Tryz.prog Tryz.f4 Rows.joinMayRow.domain false Rows.joinMayRow.laid) (((OpenSpec.ofChange Rows.joinMaySpec).at F).post enc Tryz.prog Tryz.f4 false true false false) := by
  obtain ⟨⟨x1, x2, x3⟩, hx, hx1⟩ := Option.map_eq_some_iff.1 (reads os enc)
  simp only [Prod.mk.injEq] at hx1
  obtain ⟨rfl, rfl⟩ := hx1
  refine returnsInHanded_of_row (C := Tryz.checked) (s := OpenSpec.ofChange Rows.joinMaySpec) own started (by kernel_rfl) Tryz.func4
    (witness_row_at (enc := enc) (C := Tryz.checked) false (Card.laidWorld os) #[.agg #[.string ByteArray.empty, .string ByteArray.empty, .string ByteArray.empty, .int .i64 0, .string ByteArray.empty, .int .i64 0, .int .i64 0, .int .i64 0, .int .i64 0, .int .i64 0, .int .i64 0, .int .i64 0, .int .i64 0, .int .i64 0, .int .i64 0, .slice none 0 0, .string ByteArray.empty, .string ByteArray.empty, .string ByteArray.empty, .bool false, .bool false], .agg #[.string ByteArray.empty, .string ByteArray.empty, .string ByteArray.empty, .int .i64 0, .string ByteArray.empty, .int .i64 0, .int .i64 0, .int .i64 0, .int .i64 0, .int .i64 0, .int .i64 0, .int .i64 0, .int .i64 0, .int .i64 0, .int .i64 0, .slice none 0 0, .string ByteArray.empty, .string ByteArray.empty, .string ByteArray.empty, .bool false, .bool false], .string ByteArray.empty] rfl (by kernel_rfl) (by kernel_rfl) (by kernel_rfl)
      (OpenSpec.preRow_of_cond 8 hx (by kernel_rfl) (fun k hk => by cases hk) (by kernel_rfl) (Card.laid_met os _))) ?_
  intro W base args ds gs before hval0 hW _ _ _ hL hsh _
  obtain ⟨m, hmax⟩ := Card.maxLen_int hsh
  have hm : Six.At m W := ⟨hmax, Six.tab_of hL⟩
  have hval : ∀ (j : Nat) t v, Tryz.f4.params[j]? = some t → args[j]? = some v → Value.okWide Tryz.prog W .any base t v := hval0
  have hW' := hW
  obtain ⟨p, q, hA0, hV, rfl, hfz, hnd⟩ := hW
  have hA : DataW.TrodAll enc Tryz.prog W 0 (fun _ => true) true Tryz.f4.params.toList args.toList ds p := hA0
  rw [Tryz.params4] at hA hval
  obtain ⟨v0, vs0, d0, ds0, p0, q0, hargs0, rfl, rfl, t0, r0⟩ := trodAll_cons hA
  obtain ⟨v1, vs1, d1, ds1, p1, q1, hargs1, rfl, rfl, t1, r1⟩ := trodAll_cons r0
  obtain ⟨v2, vs2, d2, ds2, p2, q2, hargs2, rfl, rfl, t2, r2⟩ := trodAll_cons r1
  obtain ⟨rfl, rfl, rfl⟩ := trodAll_nil r2
  obtain rfl : args = #[v0, v1, v2] := by cases args; simp_all
  obtain ⟨rfl, rfl⟩ := trodVars_none hV
  have k0 := t0
  have lt0 : ∀ x ∈ p0, x.block < W.heap.size := by obtain ⟨m, hm⟩ := k0; exact DataW.trod_lt m _ _ _ hm
  obtain ⟨a0, pv0, l0, rfl, z0, w0⟩ := Url.open_url (hval 0 27 v0 rfl rfl) t0
  have k1 := t1
  have lt1 : ∀ x ∈ p1, x.block < W.heap.size := by obtain ⟨m, hm⟩ := k1; exact DataW.trod_lt m _ _ _ hm
  obtain ⟨a1, pv1, l1, rfl, z1, w1⟩ := Url.open_url (hval 1 27 v1 rfl rfl) t1
  obtain ⟨a2, rfl, rfl, rfl, w2⟩ := open_string Tryz.underlying9 (hval 2 9 v2 rfl rfl) t2
  clear hA0 hval0
  simp only [List.append_nil] at hW'
  refine (walk a0 pv0 l0 a1 pv1 l1 a2 w2 m W hm z0 w0 z1 w1).mono fun e W' ⟨he, bel⟩ => ?_
  subst he
  exact ⟨_, rfl, _, _, _, [], _, [], hW', trodAll_mk1 (shut_bool Tryz.underlying4 _), (trodAll_cons_mk (Below.trod laidOut (by kernel_rfl) (of_decide_eq_true (by kernel_rfl)) k0 bel lt0) (trodAll_cons_mk (Below.trod laidOut (by kernel_rfl) (of_decide_eq_true (by kernel_rfl)) k1 bel lt1) (trodAll_cons_mk (shut_string Tryz.underlying9 w2) trodAll_mk0))), rfl, bel.frame _, fun h => by cases h⟩

theorem said : Rows.joinMayRow.holds Tryz.pinned (OpenSpec.ofChange Rows.joinMaySpec) :=
  OpenClaim.holds_of_cond 4 Tryz.f4 rfl rfl rfl rfl rfl rfl rfl ⟨rfl, rfl, rfl, rfl, rfl⟩ rfl rfl rfl rfl rfl (by kernel_rfl) Tryz.func4 (by kernel_rfl)
    (of_decide_eq_true (by kernel_rfl)) (by unfold Func.isWrapper; first | (rw [if_pos (by decide +kernel)]; kernel_rfl) | (rw [if_neg (by decide +kernel)]; exact ⟨rfl, rfl⟩))
    (fun os started H enc _ F => by rw [OpenClaim.pre_eq_preRow]; exact lifted os started H enc F)

/-- No parameter wants a stand-in; the program's own looks are on. -/
theorem plain (f : FuncId) (fn : Func) (hf : Tryz.pinned.checked.prog.funcNamed Rows.joinMayRow.func = some f) (hfn : Tryz.pinned.checked.prog.funcs[f]? = some fn) :
    true = Tryz.pinned.checked.prog.looks [] ∧ ∀ (j : Nat) t, fn.params[j]? = some t → Tryz.pinned.checked.prog.wantsStandIn t = false := by
  obtain rfl : f = 4 := Option.some.inj ((show Tryz.prog.funcNamed Rows.joinMayRow.func = some 4 by kernel_rfl).symm.trans hf) |>.symm
  obtain rfl : fn = Tryz.f4 := (Option.some.inj (Tryz.func4.symm.trans hfn)).symm
  refine ⟨by kernel_rfl, fun j t ht => ?_⟩
  rw [Tryz.params4] at ht
  obtain rfl | rfl : t = 27 ∨ t = 9 := by simpa using Array.mem_of_getElem? ht
  · exact (show Tryz.prog.wantsStandIn 27 = false by kernel_rfl)
  · exact (show Tryz.prog.wantsStandIn 9 = false by kernel_rfl)

/-- The statement: the card. -/
theorem proved : Rows.JoinMayCardSaid :=
  Claim7.holds_tied_plain_at .later [] _ _ _ _ said (fun _ h => by cases h) (by kernel_rfl) (fun _ h => by cases h) joinMay_row_tie rfl ⟨rfl, rfl⟩ (by kernel_rfl) rfl plain (by kernel_rfl)
#print axioms proved
end Go.Proofs.YtkhjhiofgoampaaGreatDoor.joinMay

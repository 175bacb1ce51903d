/-
  WHAT IS PROVED: the card of TaintCors: for any request, taken in MoCors, whose address has few and short parts and whose texts are short, and any policy: what is told does not hang on the policy; at another origin, and by another method than GET and HEAD, something is told: null if it is tainted, else the origin of who asks.
  CONDITIONS: none but the card's own: the listed tables read as their texts lay them; the request and the policy are any.
-/
import Derived.Test.YtlkikfdbjpjpaaaGreatDoorCards
import Derived.Test.YtlkikfdbjpjpaaaGreatDoorTie
import Derived.WalkKit
import Derived.ProofKit
import Derived.OpenShut
import Derived.ShutString
import Derived.ChangeOld
import Derived.Below
import Derived.Deep.RegionHeld
import Derived.Laws.AppendOwnNone
import Derived.Test.YtlkikfdbjpjpaaaGreatDoorTnAwake
import Derived.Test.YtlkikfdbjpjpaaaGreatDoorRqOpen
import Derived.Test.YtlkikfdbjpjpaaaGreatDoorLaid
import Derived.Test.YtlkikfdbjpjpaaaGreatDoorHOpen
namespace Go.Proofs.YtlkikfdbjpjpaaaGreatDoor.taintCors
open Go.ChangeShapes Go.WideShapes Go.ChangeAt Go.RowKit
open Go.ChangeMaps (open_string shut_string)
open Go.Shelf
open Go.Proofs.YtlkikfdbjpjpaaaGreatDoor.Url
open Go.Proofs.YtlkikfdbjpjpaaaGreatDoor.Host (H)
open Go.Proofs.YtlkikfdbjpjpaaaGreatDoor.Path (Strs)
set_option linter.unusedSimpArgs false
set_option linter.unusedVariables false

theorem own : ownKnob Tryz.prog.godebug = none := by kernel_rfl
theorem laidOut : laidOutB Tryz.prog = true := by kernel_rfl

open Go.Proofs.YtlkikfdbjpjpaaaGreatDoor.Show
open Go.Proofs.YtlkikfdbjpjpaaaGreatDoor.Origin
set_option maxRecDepth 100000
set_option maxHeartbeats 16000000 in
theorem walk (a0 : Req.R) (v0 x0 : Value) (l0 : Req.R8 a0) (a1 : Int) (w1 : (Lit.int .i64 a1).wf = true) (m : Int) (w : World) (hm : Six.At m w) (s0 : Path.Strs w v0 a0.url.path) (y0 : x0.oneCell' = true) (p0 : (Lit.int .i64 a0.o.port).wf = true) :
    Calls Tryz.prog 6 #[.agg (Req.cR a0 v0 x0), .int .i64 a1] w fun e w' => e = .returned (.bool true) ∧ Below w.heap.size w w' := by
  have b1 : Below w.heap.size w (w.alloc (.cells (Req.cR a0 v0 x0) 32)) := (Below.refl w.heap.size w).alloc (Nat.le_refl _) _
  have HX := Lib.hid b1
  have HQ0 := Lib.hid (Req.RAt.new w a0 v0 x0)
  have HM0 := Lib.hid (hm.later HX.out)
  have HP0 := Lib.hid (s0.later HX.out)
  have PP := Lib.hid s0
  have MM := Lib.hid hm
  clear hm b1 s0
  go_enter Tryz.func6, Tryz.ntmps6
  go_wp2_with fail
  generalize (w.alloc (.cells (Req.cR a0 v0 x0) 32)) = X0 at HX HM0 HQ0 HP0  ⊢
  refine (Taint.awake_calls m X0 HM0.out).mono ?_
  rintro e X1 ⟨rfl, hB⟩
  have HB1 := Lib.hid (hB)
  have HQ1 := Lib.hid (HQ0.out.later hB)
  have HM1 := Lib.hid (HM0.out.later hB)
  have HP1 := Lib.hid (HP0.out.later hB)
  clear HQ0 HM0 HP0
  clear hB
  obtain ⟨f0, hf0⟩ : ∃ b, Req.fewR a0 = b := ⟨_, rfl⟩
  have hu := HQ1.out
  go_wp2_with ((with_reducible refine Req.wp_load32 (o := ⟨some 15, .load 32 (.tmp 2), _, _, _, _⟩) ?_ (.tmp 2) ?_ w.heap.size ?_ a0 v0 x0 l0 hu ?_); (· rfl); (· rfl); (· rfl); simp only [Act.put, List.setIfInBounds_toArray, List.set_cons_zero, List.set_cons_succ])
  refine (Req.few_req_any a0 v0 x0 l0 f0 hf0 _ HP1.out).mono ?_
  rintro e X2 ⟨rfl, hB⟩
  have HB2 := Lib.hid (below_trans HB1.out hB)
  have HQ2 := Lib.hid (HQ1.out.later hB)
  have HM2 := Lib.hid (HM1.out.later hB)
  have HP2 := Lib.hid (HP1.out.later hB)
  clear HB1 HQ1 HM1 HP1
  clear hB hu
  cases f0
  · go_wp2
    go_ret
    exact ⟨rfl, HX.out.trans (HB2.out.mono HX.out.size)⟩
  have Q0 := (Req.few_req a0 l0 p0 hf0).1
  clear hf0
  have HW0 := Lib.hid (HX.out.trans (HB2.out.mono HX.out.size))
  have RQ0 := Lib.hid HQ2.out
  clear HB2 HQ2 HM2 HP2
  have dd := RQ0.out.cell 38
  rw [(Req.cR_at a0 v0 x0 l0).2.2.2.1] at dd
  have ff := RQ0.out.free 38
  go_upto_region 6 with fail
  clear dd ff
  have RQ1 := Lib.hid (show Req.RAt (X2.setCell ⟨w.heap.size, 38, none⟩ (.int .i64 1)) w.heap.size { a0 with mode := 1 } v0 x0 from RQ0.out.mode l0 1)
  have HW1 := Lib.hid (below_set HW0.out (Nat.le_refl w.heap.size) 38 (.int .i64 1))
  clear RQ0 HW0
  generalize X2.setCell ⟨w.heap.size, 38, none⟩ (.int .i64 1) = Y1 at RQ1 HW1 ⊢
  obtain ⟨q1, hq1⟩ : ∃ q : Req.R, { a0 with mode := 1 } = q := ⟨_, rfl⟩
  have Q : Req.QFit q1 := by rw [← hq1]; exact ⟨⟨Q0.r8.u, Q0.r8.o⟩, Q0.u, Q0.pt, Q0.os, Q0.ol, Q0.op⟩
  have hmode : q1.mode = 1 := by rw [← hq1]
  have PQ := Lib.hid (show Path.Strs w v0 q1.url.path by rw [← hq1]; exact PP.out)
  have L1 := Q.r8
  have RS1 := Lib.hid (show Req.RAt Y1 w.heap.size q1 v0 x0 by rw [← hq1]; exact RQ1.out)
  clear RQ1 Q0 PP hq1
  have RQ1 := RS1
  clear RS1
  obtain ⟨qk, hqk⟩ : ∃ q : Req.R, { q1 with pol := a1 } = q := ⟨_, rfl⟩
  have QK : Req.QFit qk := by rw [← hqk]; exact ⟨⟨Q.r8.u, Q.r8.o⟩, Q.u, Q.pt, Q.os, Q.ol, Q.op⟩
  have LK := QK.r8
  have PK := Lib.hid (show Path.Strs w v0 qk.url.path by rw [← hqk]; exact PQ.out)
  obtain ⟨⟨d1, d2⟩, d3, d4, d5⟩ := Taint.cors_law q1 a1 hmode
  rw [hqk] at d1 d2
  obtain ⟨b, hb⟩ : ∃ b, Taint.sendsB q1 = b := ⟨_, rfl⟩
  obtain ⟨X, hX⟩ : ∃ x, tb (Taint.sendsT q1) = x := ⟨_, rfl⟩
  obtain ⟨S, hS⟩ : ∃ x, tb (showO q1.o) = x := ⟨_, rfl⟩
  obtain ⟨c, hc⟩ : ∃ b, Taint.crossB q1 = b := ⟨_, rfl⟩
  obtain ⟨o, ho⟩ : ∃ x, ofU q1.url = x := ⟨_, rfl⟩
  obtain ⟨o8, oz, oy⟩ := of_size q1.url Q.u
  rw [ho] at o8 oz oy
  obtain ⟨z, hz⟩ : ∃ b, sameO q1.o o = b := ⟨_, rfl⟩
  obtain ⟨t, ht⟩ : ∃ b, q1.tnt = b := ⟨_, rfl⟩
  obtain ⟨M, hM⟩ : ∃ x, tb q1.mth = x := ⟨_, rfl⟩
  obtain ⟨g, hg⟩ : ∃ b, (q1.mth == Taint.getT) = b := ⟨_, rfl⟩
  obtain ⟨k, hk⟩ : ∃ b, (q1.mth == Taint.headT) = b := ⟨_, rfl⟩
  have e1 : (M.toList == [71, 69, 84]) = g := by rw [← hg, Path.tl, list_tb hM]; rfl
  have e2 : (M.toList == [72, 69, 65, 68]) = k := by rw [← hk, Path.tl, list_tb hM]; rfl
  have e3 : (X.toList == X.toList) = true := beq_iff_eq.2 rfl
  have e4 : (b == b) = true := beq_self_eq_true b
  have hown : Taint.ownB q1 = z := by
    show sameO q1.o (ofU q1.url) = z
    rw [ho]; exact hz
  have H1 := Lib.hid (show z = false → b = true ∧ c = true from fun e => ⟨hb.symm.trans (d3 (hown.trans e)).1, hc.symm.trans (d3 (hown.trans e)).2⟩)
  have H2 := Lib.hid (show g = false → k = false → b = true from fun y1 y2 => hb.symm.trans (d4 (by unfold Taint.asksB; rw [hg, hk, y1, y2]; rfl)))
  have H3 := Lib.hid (show b = true → t = true → X = ⟨#[110, 117, 108, 108]⟩ from fun y1 y2 => by rw [← hX, (d5 (hb.trans y1)).1 (ht.trans y2)]; rfl)
  have H4 := Lib.hid (show b = true → t = false → X = S from fun y1 y2 => by rw [← hX, (d5 (hb.trans y1)).2 (ht.trans y2)]; exact hS)
  have K1 := Lib.hid (fun y hm hs => Taint.sends_any q1 v0 x0 Q y0 b hb X hX m y hm hs)
  have K2 := Lib.hid (fun y hm hs => Taint.sends_any qk v0 x0 QK y0 b (d2.trans hb) X (by rw [d1]; exact hX) m y hm hs)
  have K3 := Lib.hid (fun y hm hs => Taint.crossed_any q1 v0 x0 Q y0 c hc m y hm hs)
  have K4 := Lib.hid (fun y hm => oshow_any q1.o L1.o Q.os Q.ol S hS m y hm)
  have CO := Lib.hid (fun y hm hs => of_any q1.url v0 Q.u o ho m y hm hs)
  have CS := Lib.hid (fun y hm => osame_any q1.o o L1.o o8 Q.os Q.ol z hz m y hm)
  have HMM := Lib.hid hM
  have HT := Lib.hid ht
  have PS := PQ.out
  have hone := strs_one PS
  have HONE := Lib.hid hone
  clear PS hone
  have KQ := Lib.hid (show ∀ y, Req.RAt y w.heap.size q1 v0 x0 → True from fun _ _ => trivial)
  clear KQ d1 d2 d3 d4 d5 hb hX hS hc ho o8 oz oy hz ht hM hg hk hown Q QK hmode
  have hu := RQ1.out
  go_wp2_with ((with_reducible refine Req.wp_load32 (o := ⟨some 26, .load 32 (.tmp 2), _, _, _, _⟩) ?_ (.tmp 2) ?_ w.heap.size ?_ q1 v0 x0 L1 hu ?_); (· rfl); (· rfl); (· rfl); simp only [Act.put, List.setIfInBounds_toArray, List.set_cons_zero, List.set_cons_succ])
  refine (K1.out _ (MM.out.later HW1.out) (PQ.out.later HW1.out)).mono ?_
  rintro e X3 ⟨rfl, hB⟩
  have HW2 := Lib.hid (HW1.out.trans (hB.mono HW1.out.size))
  have RQ2 := Lib.hid (RQ1.out.later hB)
  clear HW1 RQ1 hB hu K1
  have hnew := Req.new_req X3
  have HZ := Lib.hid (Req.below_req X3 q1 v0 x0)
  have HG := Lib.hid (hnew.row q1 v0 x0)
  have NG := Lib.hid (show w.heap.size ≤ X3.heap.size from HW2.out.size)
  have NL := Lib.hid (show w.heap.size < X3.heap.size from RQ2.out.lt)
  have hu := RQ2.out
  go_upto_region 8 with (first | ((with_reducible refine Req.wp_load32 (o := ⟨some 30, .load 32 (.tmp 2), _, _, _, _⟩) ?_ (.tmp 2) ?_ w.heap.size ?_ q1 v0 x0 L1 hu ?_); (· rfl); (· rfl); (· rfl); simp only [Act.put, List.setIfInBounds_toArray, List.set_cons_zero, List.set_cons_succ]) | ((with_reducible refine Req.wp_store32 (o := ⟨none, .store 32 (.tmp 9) (.tmp 30), _, _, _, _⟩) ?_ (.tmp 9) (.tmp 30) ?_ X3.heap.size ?_ q1 v0 x0 ?_ L1 HONE.out y0 Req.zeroR (.slice none 0 0) (.slice none 0 0) Req.zero8 hnew ?_); (· rfl); (· rfl); (· rfl); (· rfl); simp only [Act.put, List.setIfInBounds_toArray, List.set_cons_zero, List.set_cons_succ]))
  clear hnew hu
  generalize (X3.alloc (.cells #[.string ⟨#[]⟩, .string ⟨#[]⟩, .string ⟨#[]⟩, .int .i64 0, .string ⟨#[]⟩, .int .i64 0, .int .i64 0, .int .i64 0, .int .i64 0, .int .i64 0, .int .i64 0, .int .i64 0, .int .i64 0, .int .i64 0, .int .i64 0, .slice none 0 0, .string ⟨#[]⟩, .string ⟨#[]⟩, .string ⟨#[]⟩, .bool false, .bool false, .string ⟨#[]⟩, .slice none 0 0, .bool false, .bool false, .string ⟨#[]⟩, .int .i64 0, .string ⟨#[]⟩, .int .i64 0, .int .i64 0, .int .i64 0, .int .i64 0, .int .i64 0, .int .i64 0, .int .i64 0, .int .i64 0, .int .i64 0, .int .i64 0, .int .i64 0, .int .i64 0, .int .i64 0, .string ⟨#[]⟩, .bool false, .bool false, .int .i64 0] 32)).setRow X3.heap.size (Req.cR q1 v0 x0) = Y8 at HZ HG ⊢
  generalize X3.heap.size = g9 at HZ HG NG NL ⊢
  have dd := HG.out.cell 40
  rw [(Req.cR_at q1 v0 x0 L1).2.2.2.2.2.1] at dd
  have ff := HG.out.free 40
  go_upto_region 9 with fail
  clear dd ff
  have HG2 := Lib.hid (show Req.RAt (Y8.setCell ⟨g9, 40, none⟩ (.int .i64 a1)) g9 qk v0 x0 from by rw [← hqk]; exact HG.out.pol L1 a1)
  have HZ2 := Lib.hid (below_set HZ.out (Nat.le_refl g9) 40 (.int .i64 a1))
  clear HG HZ
  generalize Y8.setCell ⟨g9, 40, none⟩ (.int .i64 a1) = Y9 at HG2 HZ2 ⊢
  have HW3 := Lib.hid (HW2.out.trans (HZ2.out.mono NG.out))
  have RQ3 := Lib.hid (show Req.RAt Y9 w.heap.size q1 v0 x0 from (HZ2.out.block _ NL.out).trans RQ2.out)
  clear HZ2 NG NL HW2 RQ2 HONE hqk
  have hu := HG2.out
  go_wp2_with ((with_reducible refine Req.wp_load32 (o := ⟨some 34, .load 32 (.tmp 9), _, _, _, _⟩) ?_ (.tmp 9) ?_ g9 ?_ qk v0 x0 LK hu ?_); (· rfl); (· rfl); (· rfl); simp only [Act.put, List.setIfInBounds_toArray, List.set_cons_zero, List.set_cons_succ])
  refine (K2.out _ (MM.out.later HW3.out) (PK.out.later HW3.out)).mono ?_
  rintro e X4 ⟨rfl, hB⟩
  have HW4 := Lib.hid (HW3.out.trans (hB.mono HW3.out.size))
  have RQ4 := Lib.hid (RQ3.out.later hB)
  clear HW3 RQ3 hB hu K2 HG2 PK
  go_wp2_with fail
  have QO := Lib.hid (fun u (hu : Below X4.heap.size X4 u) => (RQ4.out.later hu).org L1)
  have QU := Lib.hid (fun u (hu : Below X4.heap.size X4 u) => (RQ4.out.later hu).url L1)
  have QM := Lib.hid (fun u (hu : Below X4.heap.size X4 u) => MM.out.later (HW4.out.trans (hu.mono HW4.out.size)))
  have QP := Lib.hid (fun u (hu : Below X4.heap.size X4 u) => PQ.out.later (HW4.out.trans (hu.mono HW4.out.size)))
  refine Ascii.wp_region_quiet_below (by kernel_rfl) (by kernel_rfl) ?_
  go_big_quiet_step ((intro _; rfl))
  ((go_big_quiet_want; (with_reducible refine Host.quiet_load (o := ⟨some 39, .load 30 (.tmp 38), _, _, _, _⟩) 30 (.tmp 38) ?_ _ ?_ _ QO.out ?_); (· rfl); (· rfl)); go_big_quiet_on; simp only [Act.put, List.setIfInBounds_toArray, List.set_cons_succ, List.set_cons_zero])
  go_big_quiet_step ((intro _; rfl))
  ((go_big_quiet_want; (with_reducible refine Host.quiet_load (o := ⟨some 41, .load 27 (.tmp 40), _, _, _, _⟩) 27 (.tmp 40) ?_ _ ?_ _ QU.out ?_); (· rfl); (· rfl)); go_big_quiet_on; simp only [Act.put, List.setIfInBounds_toArray, List.set_cons_succ, List.set_cons_zero])
  go_big_quiet_step ((intro hu; go_at_call 23; exact (CO.out _ (QM.out _ hu) (QP.out _ hu)).mono fun e u' h => ⟨h.1, hu.trans (h.2.mono hu.size)⟩))
  go_big_quiet_step ((intro hu; go_at_call 22; exact (CS.out _ (QM.out _ hu)).mono fun e u' h => ⟨h.1, hu.trans (h.2.mono hu.size)⟩))
  go_big_quiet_step ((intro _; rfl))
  repeat (go_big_quiet_step ((intro _; rfl)))
  refine wpQuiet_nil ?_
  intro X5 hB
  have HW5 := Lib.hid (HW4.out.trans (hB.mono HW4.out.size))
  have RQ5 := Lib.hid (RQ4.out.later hB)
  clear hB QO QU QM QP CO CS HW4 RQ4
  have c21 := RQ5.out.cell 21
  rw [(Req.cR_at q1 v0 x0 L1).1, HMM.out] at c21
  have c42 := RQ5.out.cell 42
  rw [(Req.cR_at q1 v0 x0 L1).2.2.2.2.2.2.2.1, HT.out] at c42
  cases b
  · cases g
    · cases k
      · exact absurd (H2.out rfl rfl) (by decide)
      · obtain rfl : z = true := by cases z with | true => rfl | false => exact absurd (H1.out rfl).1 (by decide)
        go_wp2
        go_ret
        exact ⟨rfl, HW5.out⟩
    · obtain rfl : z = true := by cases z with | true => rfl | false => exact absurd (H1.out rfl).1 (by decide)
      go_wp2
      go_ret
      exact ⟨rfl, HW5.out⟩
  · cases g
    · cases k
      · cases z
        · obtain rfl : c = true := (H1.out rfl).2
          have hu := RQ5.out
          go_wp2_with ((with_reducible refine Req.wp_load32 (o := ⟨some 67, .load 32 (.tmp 2), _, _, _, _⟩) ?_ (.tmp 2) ?_ w.heap.size ?_ q1 v0 x0 L1 hu ?_); (· rfl); (· rfl); (· rfl); simp only [Act.put, List.setIfInBounds_toArray, List.set_cons_zero, List.set_cons_succ])
          refine (K3.out _ (MM.out.later HW5.out) (PQ.out.later HW5.out)).mono ?_
          rintro e X6 ⟨rfl, hB⟩
          have HW6 := Lib.hid (HW5.out.trans (hB.mono HW5.out.size))
          have RQ6 := Lib.hid (RQ5.out.later hB)
          clear HW5 RQ5 hB hu K3
          clear c42
          have c42 := RQ6.out.cell 42
          rw [(Req.cR_at q1 v0 x0 L1).2.2.2.2.2.2.2.1, HT.out] at c42
          cases t
          · obtain rfl : X = S := H4.out (by first | rfl | trivial) (by first | rfl | trivial)
            have hu := RQ6.out
            go_wp2_with ((with_reducible refine Req.wp_load29r (o := ⟨some 102, .load 30 (.tmp 101), _, _, _, _⟩) ?_ (.tmp 101) ?_ w.heap.size ?_ q1 v0 x0 L1 hu ?_); (· rfl); (· rfl); (· rfl); simp only [Act.put, List.setIfInBounds_toArray, List.set_cons_zero, List.set_cons_succ])
            refine (K4.out _ (MM.out.later HW6.out)).mono ?_
            rintro e X7 ⟨rfl, hB⟩
            have HW7 := Lib.hid (HW6.out.trans (hB.mono HW6.out.size))
            have RQ7 := Lib.hid (RQ6.out.later hB)
            clear HW6 RQ6 hB hu K4
            go_wp2
            go_ret
            exact ⟨rfl, HW7.out⟩
          · obtain rfl : X = ⟨#[110, 117, 108, 108]⟩ := H3.out (by first | rfl | trivial) (by first | rfl | trivial)
            go_wp2
            go_ret
            exact ⟨rfl, HW6.out⟩
        · cases t
          · obtain rfl : X = S := H4.out (by first | rfl | trivial) (by first | rfl | trivial)
            have hu := RQ5.out
            go_wp2_with ((with_reducible refine Req.wp_load29r (o := ⟨some 102, .load 30 (.tmp 101), _, _, _, _⟩) ?_ (.tmp 101) ?_ w.heap.size ?_ q1 v0 x0 L1 hu ?_); (· rfl); (· rfl); (· rfl); simp only [Act.put, List.setIfInBounds_toArray, List.set_cons_zero, List.set_cons_succ])
            refine (K4.out _ (MM.out.later HW5.out)).mono ?_
            rintro e X7 ⟨rfl, hB⟩
            have HW6 := Lib.hid (HW5.out.trans (hB.mono HW5.out.size))
            have RQ6 := Lib.hid (RQ5.out.later hB)
            clear HW5 RQ5 hB hu K4
            go_wp2
            go_ret
            exact ⟨rfl, HW6.out⟩
          · obtain rfl : X = ⟨#[110, 117, 108, 108]⟩ := H3.out (by first | rfl | trivial) (by first | rfl | trivial)
            go_wp2
            go_ret
            exact ⟨rfl, HW5.out⟩
      · cases z
        · obtain rfl : c = true := (H1.out rfl).2
          have hu := RQ5.out
          go_wp2_with ((with_reducible refine Req.wp_load32 (o := ⟨some 67, .load 32 (.tmp 2), _, _, _, _⟩) ?_ (.tmp 2) ?_ w.heap.size ?_ q1 v0 x0 L1 hu ?_); (· rfl); (· rfl); (· rfl); simp only [Act.put, List.setIfInBounds_toArray, List.set_cons_zero, List.set_cons_succ])
          refine (K3.out _ (MM.out.later HW5.out) (PQ.out.later HW5.out)).mono ?_
          rintro e X6 ⟨rfl, hB⟩
          have HW6 := Lib.hid (HW5.out.trans (hB.mono HW5.out.size))
          have RQ6 := Lib.hid (RQ5.out.later hB)
          clear HW5 RQ5 hB hu K3
          clear c42
          have c42 := RQ6.out.cell 42
          rw [(Req.cR_at q1 v0 x0 L1).2.2.2.2.2.2.2.1, HT.out] at c42
          cases t
          · obtain rfl : X = S := H4.out (by first | rfl | trivial) (by first | rfl | trivial)
            have hu := RQ6.out
            go_wp2_with ((with_reducible refine Req.wp_load29r (o := ⟨some 102, .load 30 (.tmp 101), _, _, _, _⟩) ?_ (.tmp 101) ?_ w.heap.size ?_ q1 v0 x0 L1 hu ?_); (· rfl); (· rfl); (· rfl); simp only [Act.put, List.setIfInBounds_toArray, List.set_cons_zero, List.set_cons_succ])
            refine (K4.out _ (MM.out.later HW6.out)).mono ?_
            rintro e X7 ⟨rfl, hB⟩
            have HW7 := Lib.hid (HW6.out.trans (hB.mono HW6.out.size))
            have RQ7 := Lib.hid (RQ6.out.later hB)
            clear HW6 RQ6 hB hu K4
            go_wp2
            go_ret
            exact ⟨rfl, HW7.out⟩
          · obtain rfl : X = ⟨#[110, 117, 108, 108]⟩ := H3.out (by first | rfl | trivial) (by first | rfl | trivial)
            go_wp2
            go_ret
            exact ⟨rfl, HW6.out⟩
        · cases t
          · obtain rfl : X = S := H4.out (by first | rfl | trivial) (by first | rfl | trivial)
            have hu := RQ5.out
            go_wp2_with ((with_reducible refine Req.wp_load29r (o := ⟨some 102, .load 30 (.tmp 101), _, _, _, _⟩) ?_ (.tmp 101) ?_ w.heap.size ?_ q1 v0 x0 L1 hu ?_); (· rfl); (· rfl); (· rfl); simp only [Act.put, List.setIfInBounds_toArray, List.set_cons_zero, List.set_cons_succ])
            refine (K4.out _ (MM.out.later HW5.out)).mono ?_
            rintro e X7 ⟨rfl, hB⟩
            have HW6 := Lib.hid (HW5.out.trans (hB.mono HW5.out.size))
            have RQ6 := Lib.hid (RQ5.out.later hB)
            clear HW5 RQ5 hB hu K4
            go_wp2
            go_ret
            exact ⟨rfl, HW6.out⟩
          · obtain rfl : X = ⟨#[110, 117, 108, 108]⟩ := H3.out (by first | rfl | trivial) (by first | rfl | trivial)
            go_wp2
            go_ret
            exact ⟨rfl, HW5.out⟩
    · cases z
      · obtain rfl : c = true := (H1.out rfl).2
        have hu := RQ5.out
        go_wp2_with ((with_reducible refine Req.wp_load32 (o := ⟨some 67, .load 32 (.tmp 2), _, _, _, _⟩) ?_ (.tmp 2) ?_ w.heap.size ?_ q1 v0 x0 L1 hu ?_); (· rfl); (· rfl); (· rfl); simp only [Act.put, List.setIfInBounds_toArray, List.set_cons_zero, List.set_cons_succ])
        refine (K3.out _ (MM.out.later HW5.out) (PQ.out.later HW5.out)).mono ?_
        rintro e X6 ⟨rfl, hB⟩
        have HW6 := Lib.hid (HW5.out.trans (hB.mono HW5.out.size))
        have RQ6 := Lib.hid (RQ5.out.later hB)
        clear HW5 RQ5 hB hu K3
        clear c42
        have c42 := RQ6.out.cell 42
        rw [(Req.cR_at q1 v0 x0 L1).2.2.2.2.2.2.2.1, HT.out] at c42
        cases t
        · obtain rfl : X = S := H4.out (by first | rfl | trivial) (by first | rfl | trivial)
          have hu := RQ6.out
          go_wp2_with ((with_reducible refine Req.wp_load29r (o := ⟨some 102, .load 30 (.tmp 101), _, _, _, _⟩) ?_ (.tmp 101) ?_ w.heap.size ?_ q1 v0 x0 L1 hu ?_); (· rfl); (· rfl); (· rfl); simp only [Act.put, List.setIfInBounds_toArray, List.set_cons_zero, List.set_cons_succ])
          refine (K4.out _ (MM.out.later HW6.out)).mono ?_
          rintro e X7 ⟨rfl, hB⟩
          have HW7 := Lib.hid (HW6.out.trans (hB.mono HW6.out.size))
          have RQ7 := Lib.hid (RQ6.out.later hB)
          clear HW6 RQ6 hB hu K4
          go_wp2
          go_ret
          exact ⟨rfl, HW7.out⟩
        · obtain rfl : X = ⟨#[110, 117, 108, 108]⟩ := H3.out (by first | rfl | trivial) (by first | rfl | trivial)
          go_wp2
          go_ret
          exact ⟨rfl, HW6.out⟩
      · cases t
        · obtain rfl : X = S := H4.out (by first | rfl | trivial) (by first | rfl | trivial)
          have hu := RQ5.out
          go_wp2_with ((with_reducible refine Req.wp_load29r (o := ⟨some 102, .load 30 (.tmp 101), _, _, _, _⟩) ?_ (.tmp 101) ?_ w.heap.size ?_ q1 v0 x0 L1 hu ?_); (· rfl); (· rfl); (· rfl); simp only [Act.put, List.setIfInBounds_toArray, List.set_cons_zero, List.set_cons_succ])
          refine (K4.out _ (MM.out.later HW5.out)).mono ?_
          rintro e X7 ⟨rfl, hB⟩
          have HW6 := Lib.hid (HW5.out.trans (hB.mono HW5.out.size))
          have RQ6 := Lib.hid (RQ5.out.later hB)
          clear HW5 RQ5 hB hu K4
          go_wp2
          go_ret
          exact ⟨rfl, HW6.out⟩
        · obtain rfl : X = ⟨#[110, 117, 108, 108]⟩ := H3.out (by first | rfl | trivial) (by first | rfl | trivial)
          go_wp2
          go_ret
          exact ⟨rfl, HW5.out⟩

/-! ### The row's step -/
theorem reads (os : Os) {H : Type} (enc : TypeId × Value → H) : (DataW.whole enc Tryz.prog ((Card.laidWorld os).forCall (fun _ _ => 0) ⟨#[], #[.agg (Req.cR Req.zeroR (.slice none 0 0) (.slice none 0 0)), .int .i64 0], []⟩).memory Tryz.f6.params.toList Rows.taintCorsSpec.vars false (#[.agg (Req.cR Req.zeroR (.slice none 0 0) (.slice none 0 0)), .int .i64 0] : Array Value).toList 8).map (fun x => (x.1, x.2.1)) = some ([.agg [.agg [.lit (.string []), .lit (.string []), .lit (.string []), .agg [.lit (.int .i64 0), .lit (.string []), .lit (.int .i64 0), .agg [.lit (.int .i64 0), .lit (.int .i64 0), .lit (.int .i64 0), .lit (.int .i64 0), .lit (.int .i64 0), .lit (.int .i64 0), .lit (.int .i64 0), .lit (.int .i64 0)]], .lit (.int .i64 0), .nil, .lit (.string []), .lit (.string []), .lit (.string []), .lit (.bool false), .lit (.bool false)], .lit (.string []), .nil, .lit (.bool false), .agg [.lit (.bool false), .lit (.string []), .agg [.lit (.int .i64 0), .lit (.string []), .lit (.int .i64 0), .agg [.lit (.int .i64 0), .lit (.int .i64 0), .lit (.int .i64 0), .lit (.int .i64 0), .lit (.int .i64 0), .lit (.int .i64 0), .lit (.int .i64 0), .lit (.int .i64 0)]], .lit (.int .i64 0)], .lit (.int .i64 0), .lit (.int .i64 0), .lit (.int .i64 0), .lit (.string []), .lit (.bool false), .lit (.bool false), .lit (.int .i64 0)], .lit (.int .i64 0)], []) := by kernel_rfl
set_option maxRecDepth 100000 in
theorem lifted (os : Os) (started : os.Started) (H : Type) (enc : TypeId × Value → H) (F : Stop.Interp) :
    ReturnsInHanded {} Tryz.checked os 6 .any ((OpenSpec.ofChange Rows.taintCorsSpec).preRow enc Tryz.prog Tryz.f6 Rows.taintCorsRow.domain false Rows.taintCorsRow.laid) (((OpenSpec.ofChange Rows.taintCorsSpec).at F).post enc Tryz.prog Tryz.f6 false true false false) := by
  obtain ⟨⟨x1, x2, x3⟩, hx, hx1⟩ := Option.map_eq_some_iff.1 (reads os enc)
  simp only [Prod.mk.injEq] at hx1
  obtain ⟨rfl, rfl⟩ := hx1
  refine returnsInHanded_of_row (C := Tryz.checked) (s := OpenSpec.ofChange Rows.taintCorsSpec) own started (by kernel_rfl) Tryz.func6
    (witness_row_at (enc := enc) (C := Tryz.checked) false (Card.laidWorld os) #[.agg (Req.cR Req.zeroR (.slice none 0 0) (.slice none 0 0)), .int .i64 0] rfl (by kernel_rfl) (by kernel_rfl) (by kernel_rfl)
      (OpenSpec.preRow_of_cond 8 hx (by kernel_rfl) (fun k hk => by cases hk) (by kernel_rfl) (Card.laid_met os _))) ?_
  intro W base args ds gs before hval0 hW _ _ _ hL hsh _
  obtain ⟨m, hmax⟩ := Card.maxLen_int hsh
  have hm : Six.At m W := ⟨hmax, fun _ => Six.tab_of hL⟩
  have hval : ∀ (j : Nat) t v, Tryz.f6.params[j]? = some t → args[j]? = some v → Value.okWide Tryz.prog W .any base t v := hval0
  have hW' := hW
  obtain ⟨p, q, hA0, hV, rfl, hfz, hnd⟩ := hW
  have hA : DataW.TrodAll enc Tryz.prog W 0 (fun _ => true) true Tryz.f6.params.toList args.toList ds p := hA0
  rw [Tryz.params6] at hA hval
  obtain ⟨v0, vs0, d0, ds0, p0, q0, hargs0, rfl, rfl, t0, r0⟩ := trodAll_cons hA
  obtain ⟨v1, vs1, d1, ds1, p1, q1, hargs1, rfl, rfl, t1, r1⟩ := trodAll_cons r0
  obtain ⟨rfl, rfl, rfl⟩ := trodAll_nil r1
  obtain rfl : args = #[v0, v1] := by cases args; simp_all
  obtain ⟨rfl, rfl⟩ := trodVars_none hV
  have k0 := t0
  have lt0 : ∀ x ∈ p0, x.block < W.heap.size := by obtain ⟨m, hm⟩ := k0; exact DataW.trod_lt m _ _ _ hm
  obtain ⟨a0, pv0, xv0, l0, rfl, z0, w0, y0⟩ := Req.open_req (hval 0 32 v0 rfl rfl) t0
  obtain ⟨a1, rfl, rfl, rfl, w1⟩ := open_int Tryz.underlying3 (hval 1 3 v1 rfl rfl) t1
  clear hA0 hval0
  simp only [List.append_nil] at hW'
  refine (walk a0 pv0 xv0 l0 a1 w1 m W hm z0 w0 y0).mono fun e W' ⟨he, bel⟩ => ?_
  subst he
  exact ⟨_, rfl, _, _, _, [], _, [], hW', trodAll_mk1 (shut_bool Tryz.underlying4 _), (trodAll_cons_mk (Below.trod laidOut (by kernel_rfl) (of_decide_eq_true (by kernel_rfl)) k0 bel lt0) (trodAll_cons_mk (shut_int Tryz.underlying3 w1) trodAll_mk0)), rfl, bel.frame _, fun h => by cases h⟩

theorem said : Rows.taintCorsRow.holds Tryz.pinned (OpenSpec.ofChange Rows.taintCorsSpec) :=
  OpenClaim.holds_of_cond 6 Tryz.f6 rfl rfl rfl rfl rfl rfl rfl ⟨rfl, rfl, rfl, rfl, rfl⟩ rfl rfl rfl rfl rfl (by kernel_rfl) Tryz.func6 (by kernel_rfl)
    (of_decide_eq_true (by kernel_rfl)) (by unfold Func.isWrapper; first | (rw [if_pos (by decide +kernel)]; kernel_rfl) | (rw [if_neg (by decide +kernel)]; exact ⟨rfl, rfl⟩))
    (fun os started H enc _ F => by rw [OpenClaim.pre_eq_preRow]; exact lifted os started H enc F)

/-- No parameter wants a stand-in; the program's own looks are on. -/
theorem plain (f : FuncId) (fn : Func) (hf : Tryz.pinned.checked.prog.funcNamed Rows.taintCorsRow.func = some f) (hfn : Tryz.pinned.checked.prog.funcs[f]? = some fn) :
    true = Tryz.pinned.checked.prog.looks [] ∧ ∀ (j : Nat) t, fn.params[j]? = some t → Tryz.pinned.checked.prog.wantsStandIn t = false := by
  obtain rfl : f = 6 := Option.some.inj ((show Tryz.prog.funcNamed Rows.taintCorsRow.func = some 6 by kernel_rfl).symm.trans hf) |>.symm
  obtain rfl : fn = Tryz.f6 := (Option.some.inj (Tryz.func6.symm.trans hfn)).symm
  refine ⟨by kernel_rfl, fun j t ht => ?_⟩
  rw [Tryz.params6] at ht
  obtain rfl | rfl : t = 32 ∨ t = 3 := by simpa using Array.mem_of_getElem? ht
  · exact (show Tryz.prog.wantsStandIn 32 = false by kernel_rfl)
  · exact (show Tryz.prog.wantsStandIn 3 = false by kernel_rfl)

/-- The statement: the card. -/
theorem proved : Rows.TaintCorsCardSaid :=
  Claim7.holds_tied_plain_at .later [] _ _ _ _ said (fun _ h => by cases h) (by kernel_rfl) (fun _ h => by cases h) taintCors_row_tie rfl ⟨rfl, rfl⟩ (by kernel_rfl) rfl plain (by kernel_rfl)
#print axioms proved
end Go.Proofs.YtlkikfdbjpjpaaaGreatDoor.taintCors

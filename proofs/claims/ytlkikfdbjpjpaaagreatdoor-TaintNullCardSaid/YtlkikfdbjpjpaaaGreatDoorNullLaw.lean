/-
  WHAT IS PROVED: the card of TaintNull: for any request whose address has few and short parts, and whose texts are short: what is told is null, or the origin of who asks if it is not tainted; what tells nothing is quiet, and asks by GET or HEAD; a GET at the origin of who asks, that was at no other one, tells nothing.
  CONDITIONS: none but the card's own: the listed tables read as their texts lay them; the request is any.
-/
import Derived.Test.YtlkikfdbjpjpaaaGreatDoorCards
import Derived.Test.YtlkikfdbjpjpaaaGreatDoorTie
import Derived.WalkKit
import Derived.ProofKit
import Derived.OpenShut
import Derived.ShutString
import Derived.ChangeOld
import Derived.Below
import Derived.Deep.RegionHeld
import Derived.Laws.AppendOwnNone
import Derived.Test.YtlkikfdbjpjpaaaGreatDoorTnAwake
import Derived.Test.YtlkikfdbjpjpaaaGreatDoorRqOpen
import Derived.Test.YtlkikfdbjpjpaaaGreatDoorLaid
import Derived.Test.YtlkikfdbjpjpaaaGreatDoorHOpen
namespace Go.Proofs.YtlkikfdbjpjpaaaGreatDoor.taintNull
open Go.ChangeShapes Go.WideShapes Go.ChangeAt Go.RowKit
open Go.ChangeMaps (open_string shut_string)
open Go.Shelf
open Go.Proofs.YtlkikfdbjpjpaaaGreatDoor.Url
open Go.Proofs.YtlkikfdbjpjpaaaGreatDoor.Host (H)
open Go.Proofs.YtlkikfdbjpjpaaaGreatDoor.Path (Strs)
set_option linter.unusedSimpArgs false
set_option linter.unusedVariables false

theorem own : ownKnob Tryz.prog.godebug = none := by kernel_rfl
theorem laidOut : laidOutB Tryz.prog = true := by kernel_rfl

open Go.Proofs.YtlkikfdbjpjpaaaGreatDoor.Show
open Go.Proofs.YtlkikfdbjpjpaaaGreatDoor.Origin
set_option maxRecDepth 100000
set_option maxHeartbeats 16000000 in
theorem walk (a0 : Req.R) (v0 x0 : Value) (l0 : Req.R8 a0) (m : Int) (w : World) (hm : Six.At m w) (s0 : Path.Strs w v0 a0.url.path) (y0 : x0.oneCell' = true) (p0 : (Lit.int .i64 a0.o.port).wf = true) :
    Calls Tryz.prog 5 #[.agg (Req.cR a0 v0 x0)] w fun e w' => e = .returned (.bool true) ∧ Below w.heap.size w w' := by
  have b1 : Below w.heap.size w (w.alloc (.cells (Req.cR a0 v0 x0) 32)) := (Below.refl w.heap.size w).alloc (Nat.le_refl _) _
  have HX := Lib.hid b1
  have HQ0 := Lib.hid (Req.RAt.new w a0 v0 x0)
  have HM0 := Lib.hid (hm.later HX.out)
  have HP0 := Lib.hid (s0.later HX.out)
  clear hm b1 s0
  go_enter Tryz.func5, Tryz.ntmps5
  go_wp2_with fail
  generalize (w.alloc (.cells (Req.cR a0 v0 x0) 32)) = X0 at HX HM0 HQ0 HP0  ⊢
  refine (Taint.awake_calls m X0 HM0.out).mono ?_
  rintro e X1 ⟨rfl, hB⟩
  have HB1 := Lib.hid (hB)
  have HQ1 := Lib.hid (HQ0.out.later hB)
  have HM1 := Lib.hid (HM0.out.later hB)
  have HP1 := Lib.hid (HP0.out.later hB)
  clear HQ0 HM0 HP0
  clear hB
  obtain ⟨f0, hf0⟩ : ∃ b, Req.fewR a0 = b := ⟨_, rfl⟩
  have hu := HQ1.out
  go_wp2_with ((with_reducible refine Req.wp_load32 (o := ⟨some 9, .load 32 (.tmp 1), _, _, _, _⟩) ?_ (.tmp 1) ?_ w.heap.size ?_ a0 v0 x0 l0 hu ?_); (· rfl); (· rfl); (· rfl); simp only [Act.put, List.setIfInBounds_toArray, List.set_cons_zero, List.set_cons_succ])
  refine (Req.few_req_any a0 v0 x0 l0 f0 hf0 _ HP1.out).mono ?_
  rintro e X2 ⟨rfl, hB⟩
  have HB2 := Lib.hid (below_trans HB1.out hB)
  have HQ2 := Lib.hid (HQ1.out.later hB)
  have HM2 := Lib.hid (HM1.out.later hB)
  have HP2 := Lib.hid (HP1.out.later hB)
  clear HB1 HQ1 HM1 HP1
  clear hB hu
  cases f0
  · go_wp2
    go_ret
    exact ⟨rfl, HX.out.trans (HB2.out.mono HX.out.size)⟩
  have Q := (Req.few_req a0 l0 p0 hf0).1
  obtain ⟨b, hb⟩ : ∃ b, Taint.sendsB a0 = b := ⟨_, rfl⟩
  obtain ⟨X, hX⟩ : ∃ x, tb (Taint.sendsT a0) = x := ⟨_, rfl⟩
  obtain ⟨q, hq⟩ : ∃ b, Taint.quietB a0 = b := ⟨_, rfl⟩
  obtain ⟨S, hS⟩ : ∃ x, tb (showO a0.o) = x := ⟨_, rfl⟩
  obtain ⟨o, ho⟩ : ∃ x, ofU a0.url = x := ⟨_, rfl⟩
  obtain ⟨o8, oz, oy⟩ := of_size a0.url Q.u
  rw [ho] at o8 oz oy
  obtain ⟨z, hz⟩ : ∃ b, sameO a0.o o = b := ⟨_, rfl⟩
  obtain ⟨t, ht⟩ : ∃ b, a0.tnt = b := ⟨_, rfl⟩
  obtain ⟨c, hc⟩ : ∃ b, a0.crs = b := ⟨_, rfl⟩
  obtain ⟨M, hM⟩ : ∃ x, tb a0.mth = x := ⟨_, rfl⟩
  obtain ⟨g, hg⟩ : ∃ b, (a0.mth == Taint.getT) = b := ⟨_, rfl⟩
  obtain ⟨k, hk⟩ : ∃ b, (a0.mth == Taint.headT) = b := ⟨_, rfl⟩
  have e1 : (M.toList == [71, 69, 84]) = g := by rw [← hg, Path.tl, list_tb hM]; rfl
  have e2 : (M.toList == [72, 69, 65, 68]) = k := by rw [← hk, Path.tl, list_tb hM]; rfl
  have H1 := Lib.hid (show b = false → X = ⟨#[]⟩ ∧ q = true ∧ (g || k) = true from fun e => by
    obtain ⟨x1, x2, x3⟩ := Taint.null_not (hb.trans e)
    refine ⟨by rw [← hX, x1]; rfl, hq.symm.trans x2, ?_⟩
    rw [← hg, ← hk]; exact x3)
  have H2 := Lib.hid (show b = true → ((X = ⟨#[110, 117, 108, 108]⟩) ∨ (X = S ∧ t = false)) ∧ q = false ∧ ¬ (z = true ∧ c = false ∧ g = true) from fun e => by
    obtain ⟨x1, x2, x3⟩ := Taint.null_sent (hb.trans e)
    refine ⟨?_, hq.symm.trans x2, fun ⟨y1, y2, y3⟩ => x3 ⟨?_, hc.trans y2, by rw [← hg] at y3; exact beq_iff_eq.1 y3⟩⟩
    · rcases x1 with h | ⟨h, h'⟩
      · exact .inl (by rw [← hX, h]; rfl)
      · exact .inr ⟨by rw [← hX, h, hS], ht.symm.trans h'⟩
    · show sameO a0.o (ofU a0.url) = true
      rw [ho]; exact hz.trans y1)
  have C1 := Lib.hid (fun y hm hs => Taint.sends_any a0 v0 x0 Q y0 b hb X hX m y hm hs)
  have C2 := Lib.hid (fun y hm hs => Taint.quiet_any a0 v0 x0 Q y0 q hq m y hm hs)
  have C3 := Lib.hid (fun y hm hs => of_any a0.url v0 Q.u o ho m y hm hs)
  have C4 := Lib.hid (fun y hm => osame_any a0.o o l0.o o8 Q.os Q.ol z hz m y hm)
  have C5 := Lib.hid (fun y hm => oshow_any a0.o l0.o Q.os Q.ol S hS m y hm)
  have HT := Lib.hid ht
  have HC := Lib.hid hc
  have HMM := Lib.hid hM
  clear hf0 Q hb hX hq hS ho o8 oz oy hz ht hc hM hg hk
  have hu := HQ2.out
  go_wp2_with ((with_reducible refine Req.wp_load32 (o := ⟨some 19, .load 32 (.tmp 1), _, _, _, _⟩) ?_ (.tmp 1) ?_ w.heap.size ?_ a0 v0 x0 l0 hu ?_); (· rfl); (· rfl); (· rfl); simp only [Act.put, List.setIfInBounds_toArray, List.set_cons_zero, List.set_cons_succ])
  refine (C1.out _ HM2.out HP2.out).mono ?_
  rintro e X3 ⟨rfl, hB⟩
  have HB3 := Lib.hid (below_trans HB2.out hB)
  have HQ3 := Lib.hid (HQ2.out.later hB)
  have HM3 := Lib.hid (HM2.out.later hB)
  have HP3 := Lib.hid (HP2.out.later hB)
  clear HB2 HQ2 HM2 HP2
  clear hB C1 hu
  cases b
  · obtain ⟨rfl, rfl, h3⟩ := H1.out (by first | rfl | trivial)
    clear H1 H2 C3 C4 C5
    have hu := HQ3.out
    go_wp2_with ((with_reducible refine Req.wp_load32 (o := ⟨some 28, .load 32 (.tmp 1), _, _, _, _⟩) ?_ (.tmp 1) ?_ w.heap.size ?_ a0 v0 x0 l0 hu ?_); (· rfl); (· rfl); (· rfl); simp only [Act.put, List.setIfInBounds_toArray, List.set_cons_zero, List.set_cons_succ])
    refine (C2.out _ HM3.out HP3.out).mono ?_
    rintro e X4 ⟨rfl, hB⟩
    have HB4 := Lib.hid (below_trans HB3.out hB)
    have HQ4 := Lib.hid (HQ3.out.later hB)
    have HM4 := Lib.hid (HM3.out.later hB)
    have HP4 := Lib.hid (HP3.out.later hB)
    clear HB3 HQ3 HM3 HP3
    clear hB C2 hu
    have c21 := HQ4.out.cell 21
    rw [(Req.cR_at a0 v0 x0 l0).1, HMM.out] at c21
    cases g
    · obtain rfl : k = true := h3
      clear HT HC HMM
      go_wp2
      go_ret
      exact ⟨rfl, HX.out.trans (HB4.out.mono HX.out.size)⟩
    · clear h3 HT HC HMM
      go_wp2
      go_ret
      exact ⟨rfl, HX.out.trans (HB4.out.mono HX.out.size)⟩
  · obtain ⟨h1, rfl, h3⟩ := H2.out (by first | rfl | trivial)
    clear H1 H2
    have N1 := Lib.hid h1
    have N3 := Lib.hid h3
    clear h1 h3
    go_wp2_with fail
    have QO := Lib.hid (fun u (hu : Below X3.heap.size X3 u) => (HQ3.out.later hu).org l0)
    have QU := Lib.hid (fun u (hu : Below X3.heap.size X3 u) => (HQ3.out.later hu).url l0)
    have QC := Lib.hid (fun u (hu : Below X3.heap.size X3 u) => load4 (((HQ3.out.later hu).cell 43).trans (by rw [(Req.cR_at a0 v0 x0 l0).2.2.2.2.2.2.2.2.1, HC.out])))
    have QM := Lib.hid (fun u (hu : Below X3.heap.size X3 u) => load9 (((HQ3.out.later hu).cell 21).trans (by rw [(Req.cR_at a0 v0 x0 l0).1, HMM.out])))
    cases z
    · refine Ascii.wp_region_quiet_below (by kernel_rfl) (by kernel_rfl) ?_
      go_big_quiet_step ((intro _; rfl))
      ((go_big_quiet_want; (with_reducible refine Host.quiet_load (o := ⟨some 42, .load 30 (.tmp 41), _, _, _, _⟩) 30 (.tmp 41) ?_ _ ?_ _ QO.out ?_); (· rfl); (· rfl)); go_big_quiet_on; simp only [Act.put, List.setIfInBounds_toArray, List.set_cons_succ, List.set_cons_zero])
      go_big_quiet_step ((intro _; rfl))
      ((go_big_quiet_want; (with_reducible refine Host.quiet_load (o := ⟨some 44, .load 27 (.tmp 43), _, _, _, _⟩) 27 (.tmp 43) ?_ _ ?_ _ QU.out ?_); (· rfl); (· rfl)); go_big_quiet_on; simp only [Act.put, List.setIfInBounds_toArray, List.set_cons_succ, List.set_cons_zero])
      go_big_quiet_step ((intro hu; go_at_call 23; exact (C3.out _ (HM3.out.later hu) (HP3.out.later hu)).mono fun e u' h => ⟨h.1, hu.trans (h.2.mono hu.size)⟩))
      go_big_quiet_step ((intro hu; go_at_call 22; exact (C4.out _ (HM3.out.later hu)).mono fun e u' h => ⟨h.1, hu.trans (h.2.mono hu.size)⟩))
      go_big_quiet_step ((intro _; rfl))
      go_big_quiet_step ((intro _; rfl))
      (first | go_big_quiet_skip | ((go_big_quiet_want; (with_reducible refine Host.quiet_load (o := ⟨some 49, .load 4 (.tmp 48), _, _, _, _⟩) 4 (.tmp 48) ?_ _ ?_ _ QC.out ?_); (· rfl); (· rfl)); go_big_quiet_on; simp only [Act.put, List.setIfInBounds_toArray, List.set_cons_succ, List.set_cons_zero]))
      go_big_quiet_step ((intro _; rfl))
      go_big_quiet_step ((intro _; rfl))
      go_big_quiet_step ((intro _; rfl))
      go_big_quiet_step ((intro _; rfl))
      (first | go_big_quiet_skip | ((go_big_quiet_want; (with_reducible refine Host.quiet_load (o := ⟨some 54, .load 9 (.tmp 53), _, _, _, _⟩) 9 (.tmp 53) ?_ _ ?_ _ QM.out ?_); (· rfl); (· rfl)); go_big_quiet_on; simp only [Act.put, List.setIfInBounds_toArray, List.set_cons_succ, List.set_cons_zero]))
      go_big_quiet_step ((intro _; rfl))
      go_big_quiet_step ((intro _; rfl))
      repeat (go_big_quiet_step ((intro _; rfl)))
      refine wpQuiet_nil ?_
      intro X4 hB
      have HB4 := Lib.hid (below_trans HB3.out hB)
      have HQ4 := Lib.hid (HQ3.out.later hB)
      have HM4 := Lib.hid (HM3.out.later hB)
      have HP4 := Lib.hid (HP3.out.later hB)
      clear HB3 HQ3 HM3 HP3
      clear hB
      rcases N1.out with rfl | ⟨rfl, rfl⟩
      · have hu := HQ4.out
        go_wp2_with ((with_reducible refine Req.wp_load32 (o := ⟨some 76, .load 32 (.tmp 1), _, _, _, _⟩) ?_ (.tmp 1) ?_ w.heap.size ?_ a0 v0 x0 l0 hu ?_); (· rfl); (· rfl); (· rfl); simp only [Act.put, List.setIfInBounds_toArray, List.set_cons_zero, List.set_cons_succ])
        refine (C2.out _ HM4.out HP4.out).mono ?_
        rintro e X5 ⟨rfl, hB⟩
        have HB5 := Lib.hid (below_trans HB4.out hB)
        have HQ5 := Lib.hid (HQ4.out.later hB)
        have HM5 := Lib.hid (HM4.out.later hB)
        have HP5 := Lib.hid (HP4.out.later hB)
        clear HB4 HQ4 HM4 HP4
        clear hB C2 hu
        go_wp2
        go_ret
        exact ⟨rfl, HX.out.trans (HB5.out.mono HX.out.size)⟩
      · have c42 := HQ4.out.cell 42
        rw [(Req.cR_at a0 v0 x0 l0).2.2.2.2.2.2.2.1, HT.out] at c42
        by_cases hn : (X.toList == [110, 117, 108, 108]) = true
        · have hu := HQ4.out
          go_wp2_with ((with_reducible refine Req.wp_load32 (o := ⟨some 76, .load 32 (.tmp 1), _, _, _, _⟩) ?_ (.tmp 1) ?_ w.heap.size ?_ a0 v0 x0 l0 hu ?_); (· rfl); (· rfl); (· rfl); simp only [Act.put, List.setIfInBounds_toArray, List.set_cons_zero, List.set_cons_succ])
          refine (C2.out _ HM4.out HP4.out).mono ?_
          rintro e X5 ⟨rfl, hB⟩
          have HB5 := Lib.hid (below_trans HB4.out hB)
          have HQ5 := Lib.hid (HQ4.out.later hB)
          have HM5 := Lib.hid (HM4.out.later hB)
          have HP5 := Lib.hid (HP4.out.later hB)
          clear HB4 HQ4 HM4 HP4
          clear hB C2 hu c42
          go_wp2
          go_ret
          exact ⟨rfl, HX.out.trans (HB5.out.mono HX.out.size)⟩
        · have hn0 : (X.toList == [110, 117, 108, 108]) = false := by simpa using hn
          have e8 : (X.toList == X.toList) = true := beq_iff_eq.2 rfl
          clear hn
          have hu := HQ4.out
          go_wp2_with ((with_reducible refine Req.wp_load29r (o := ⟨some 62, .load 30 (.tmp 61), _, _, _, _⟩) ?_ (.tmp 61) ?_ w.heap.size ?_ a0 v0 x0 l0 hu ?_); (· rfl); (· rfl); (· rfl); simp only [Act.put, List.setIfInBounds_toArray, List.set_cons_zero, List.set_cons_succ])
          refine (C5.out _ HM4.out).mono ?_
          rintro e X5 ⟨rfl, hB⟩
          have HB5 := Lib.hid (below_trans HB4.out hB)
          have HQ5 := Lib.hid (HQ4.out.later hB)
          have HM5 := Lib.hid (HM4.out.later hB)
          have HP5 := Lib.hid (HP4.out.later hB)
          clear HB4 HQ4 HM4 HP4
          clear hB C5 hu
          have c42b := HQ5.out.cell 42
          rw [(Req.cR_at a0 v0 x0 l0).2.2.2.2.2.2.2.1, HT.out] at c42b
          have hu := HQ5.out
          go_wp2_with ((with_reducible refine Req.wp_load32 (o := ⟨some 76, .load 32 (.tmp 1), _, _, _, _⟩) ?_ (.tmp 1) ?_ w.heap.size ?_ a0 v0 x0 l0 hu ?_); (· rfl); (· rfl); (· rfl); simp only [Act.put, List.setIfInBounds_toArray, List.set_cons_zero, List.set_cons_succ])
          refine (C2.out _ HM5.out HP5.out).mono ?_
          rintro e X6 ⟨rfl, hB⟩
          have HB6 := Lib.hid (below_trans HB5.out hB)
          have HQ6 := Lib.hid (HQ5.out.later hB)
          have HM6 := Lib.hid (HM5.out.later hB)
          have HP6 := Lib.hid (HP5.out.later hB)
          clear HB5 HQ5 HM5 HP5
          clear hB C2 hu
          go_wp2
          go_ret
          exact ⟨rfl, HX.out.trans (HB6.out.mono HX.out.size)⟩
    · cases c
      · cases g
        · refine Ascii.wp_region_quiet_below (by kernel_rfl) (by kernel_rfl) ?_
          go_big_quiet_step ((intro _; rfl))
          ((go_big_quiet_want; (with_reducible refine Host.quiet_load (o := ⟨some 42, .load 30 (.tmp 41), _, _, _, _⟩) 30 (.tmp 41) ?_ _ ?_ _ QO.out ?_); (· rfl); (· rfl)); go_big_quiet_on; simp only [Act.put, List.setIfInBounds_toArray, List.set_cons_succ, List.set_cons_zero])
          go_big_quiet_step ((intro _; rfl))
          ((go_big_quiet_want; (with_reducible refine Host.quiet_load (o := ⟨some 44, .load 27 (.tmp 43), _, _, _, _⟩) 27 (.tmp 43) ?_ _ ?_ _ QU.out ?_); (· rfl); (· rfl)); go_big_quiet_on; simp only [Act.put, List.setIfInBounds_toArray, List.set_cons_succ, List.set_cons_zero])
          go_big_quiet_step ((intro hu; go_at_call 23; exact (C3.out _ (HM3.out.later hu) (HP3.out.later hu)).mono fun e u' h => ⟨h.1, hu.trans (h.2.mono hu.size)⟩))
          go_big_quiet_step ((intro hu; go_at_call 22; exact (C4.out _ (HM3.out.later hu)).mono fun e u' h => ⟨h.1, hu.trans (h.2.mono hu.size)⟩))
          go_big_quiet_step ((intro _; rfl))
          go_big_quiet_step ((intro _; rfl))
          (first | go_big_quiet_skip | ((go_big_quiet_want; (with_reducible refine Host.quiet_load (o := ⟨some 49, .load 4 (.tmp 48), _, _, _, _⟩) 4 (.tmp 48) ?_ _ ?_ _ QC.out ?_); (· rfl); (· rfl)); go_big_quiet_on; simp only [Act.put, List.setIfInBounds_toArray, List.set_cons_succ, List.set_cons_zero]))
          go_big_quiet_step ((intro _; rfl))
          go_big_quiet_step ((intro _; rfl))
          go_big_quiet_step ((intro _; rfl))
          go_big_quiet_step ((intro _; rfl))
          (first | go_big_quiet_skip | ((go_big_quiet_want; (with_reducible refine Host.quiet_load (o := ⟨some 54, .load 9 (.tmp 53), _, _, _, _⟩) 9 (.tmp 53) ?_ _ ?_ _ QM.out ?_); (· rfl); (· rfl)); go_big_quiet_on; simp only [Act.put, List.setIfInBounds_toArray, List.set_cons_succ, List.set_cons_zero]))
          go_big_quiet_step ((intro _; rfl))
          go_big_quiet_step ((intro _; rfl))
          repeat (go_big_quiet_step ((intro _; rfl)))
          refine wpQuiet_nil ?_
          intro X4 hB
          have HB4 := Lib.hid (below_trans HB3.out hB)
          have HQ4 := Lib.hid (HQ3.out.later hB)
          have HM4 := Lib.hid (HM3.out.later hB)
          have HP4 := Lib.hid (HP3.out.later hB)
          clear HB3 HQ3 HM3 HP3
          clear hB
          rcases N1.out with rfl | ⟨rfl, rfl⟩
          · have hu := HQ4.out
            go_wp2_with ((with_reducible refine Req.wp_load32 (o := ⟨some 76, .load 32 (.tmp 1), _, _, _, _⟩) ?_ (.tmp 1) ?_ w.heap.size ?_ a0 v0 x0 l0 hu ?_); (· rfl); (· rfl); (· rfl); simp only [Act.put, List.setIfInBounds_toArray, List.set_cons_zero, List.set_cons_succ])
            refine (C2.out _ HM4.out HP4.out).mono ?_
            rintro e X5 ⟨rfl, hB⟩
            have HB5 := Lib.hid (below_trans HB4.out hB)
            have HQ5 := Lib.hid (HQ4.out.later hB)
            have HM5 := Lib.hid (HM4.out.later hB)
            have HP5 := Lib.hid (HP4.out.later hB)
            clear HB4 HQ4 HM4 HP4
            clear hB C2 hu
            go_wp2
            go_ret
            exact ⟨rfl, HX.out.trans (HB5.out.mono HX.out.size)⟩
          · have c42 := HQ4.out.cell 42
            rw [(Req.cR_at a0 v0 x0 l0).2.2.2.2.2.2.2.1, HT.out] at c42
            by_cases hn : (X.toList == [110, 117, 108, 108]) = true
            · have hu := HQ4.out
              go_wp2_with ((with_reducible refine Req.wp_load32 (o := ⟨some 76, .load 32 (.tmp 1), _, _, _, _⟩) ?_ (.tmp 1) ?_ w.heap.size ?_ a0 v0 x0 l0 hu ?_); (· rfl); (· rfl); (· rfl); simp only [Act.put, List.setIfInBounds_toArray, List.set_cons_zero, List.set_cons_succ])
              refine (C2.out _ HM4.out HP4.out).mono ?_
              rintro e X5 ⟨rfl, hB⟩
              have HB5 := Lib.hid (below_trans HB4.out hB)
              have HQ5 := Lib.hid (HQ4.out.later hB)
              have HM5 := Lib.hid (HM4.out.later hB)
              have HP5 := Lib.hid (HP4.out.later hB)
              clear HB4 HQ4 HM4 HP4
              clear hB C2 hu c42
              go_wp2
              go_ret
              exact ⟨rfl, HX.out.trans (HB5.out.mono HX.out.size)⟩
            · have hn0 : (X.toList == [110, 117, 108, 108]) = false := by simpa using hn
              have e8 : (X.toList == X.toList) = true := beq_iff_eq.2 rfl
              clear hn
              have hu := HQ4.out
              go_wp2_with ((with_reducible refine Req.wp_load29r (o := ⟨some 62, .load 30 (.tmp 61), _, _, _, _⟩) ?_ (.tmp 61) ?_ w.heap.size ?_ a0 v0 x0 l0 hu ?_); (· rfl); (· rfl); (· rfl); simp only [Act.put, List.setIfInBounds_toArray, List.set_cons_zero, List.set_cons_succ])
              refine (C5.out _ HM4.out).mono ?_
              rintro e X5 ⟨rfl, hB⟩
              have HB5 := Lib.hid (below_trans HB4.out hB)
              have HQ5 := Lib.hid (HQ4.out.later hB)
              have HM5 := Lib.hid (HM4.out.later hB)
              have HP5 := Lib.hid (HP4.out.later hB)
              clear HB4 HQ4 HM4 HP4
              clear hB C5 hu
              have c42b := HQ5.out.cell 42
              rw [(Req.cR_at a0 v0 x0 l0).2.2.2.2.2.2.2.1, HT.out] at c42b
              have hu := HQ5.out
              go_wp2_with ((with_reducible refine Req.wp_load32 (o := ⟨some 76, .load 32 (.tmp 1), _, _, _, _⟩) ?_ (.tmp 1) ?_ w.heap.size ?_ a0 v0 x0 l0 hu ?_); (· rfl); (· rfl); (· rfl); simp only [Act.put, List.setIfInBounds_toArray, List.set_cons_zero, List.set_cons_succ])
              refine (C2.out _ HM5.out HP5.out).mono ?_
              rintro e X6 ⟨rfl, hB⟩
              have HB6 := Lib.hid (below_trans HB5.out hB)
              have HQ6 := Lib.hid (HQ5.out.later hB)
              have HM6 := Lib.hid (HM5.out.later hB)
              have HP6 := Lib.hid (HP5.out.later hB)
              clear HB5 HQ5 HM5 HP5
              clear hB C2 hu
              go_wp2
              go_ret
              exact ⟨rfl, HX.out.trans (HB6.out.mono HX.out.size)⟩
        · exact absurd ⟨rfl, rfl, rfl⟩ N3.out
      · refine Ascii.wp_region_quiet_below (by kernel_rfl) (by kernel_rfl) ?_
        go_big_quiet_step ((intro _; rfl))
        ((go_big_quiet_want; (with_reducible refine Host.quiet_load (o := ⟨some 42, .load 30 (.tmp 41), _, _, _, _⟩) 30 (.tmp 41) ?_ _ ?_ _ QO.out ?_); (· rfl); (· rfl)); go_big_quiet_on; simp only [Act.put, List.setIfInBounds_toArray, List.set_cons_succ, List.set_cons_zero])
        go_big_quiet_step ((intro _; rfl))
        ((go_big_quiet_want; (with_reducible refine Host.quiet_load (o := ⟨some 44, .load 27 (.tmp 43), _, _, _, _⟩) 27 (.tmp 43) ?_ _ ?_ _ QU.out ?_); (· rfl); (· rfl)); go_big_quiet_on; simp only [Act.put, List.setIfInBounds_toArray, List.set_cons_succ, List.set_cons_zero])
        go_big_quiet_step ((intro hu; go_at_call 23; exact (C3.out _ (HM3.out.later hu) (HP3.out.later hu)).mono fun e u' h => ⟨h.1, hu.trans (h.2.mono hu.size)⟩))
        go_big_quiet_step ((intro hu; go_at_call 22; exact (C4.out _ (HM3.out.later hu)).mono fun e u' h => ⟨h.1, hu.trans (h.2.mono hu.size)⟩))
        go_big_quiet_step ((intro _; rfl))
        go_big_quiet_step ((intro _; rfl))
        (first | go_big_quiet_skip | ((go_big_quiet_want; (with_reducible refine Host.quiet_load (o := ⟨some 49, .load 4 (.tmp 48), _, _, _, _⟩) 4 (.tmp 48) ?_ _ ?_ _ QC.out ?_); (· rfl); (· rfl)); go_big_quiet_on; simp only [Act.put, List.setIfInBounds_toArray, List.set_cons_succ, List.set_cons_zero]))
        go_big_quiet_step ((intro _; rfl))
        go_big_quiet_step ((intro _; rfl))
        go_big_quiet_step ((intro _; rfl))
        go_big_quiet_step ((intro _; rfl))
        (first | go_big_quiet_skip | ((go_big_quiet_want; (with_reducible refine Host.quiet_load (o := ⟨some 54, .load 9 (.tmp 53), _, _, _, _⟩) 9 (.tmp 53) ?_ _ ?_ _ QM.out ?_); (· rfl); (· rfl)); go_big_quiet_on; simp only [Act.put, List.setIfInBounds_toArray, List.set_cons_succ, List.set_cons_zero]))
        go_big_quiet_step ((intro _; rfl))
        go_big_quiet_step ((intro _; rfl))
        repeat (go_big_quiet_step ((intro _; rfl)))
        refine wpQuiet_nil ?_
        intro X4 hB
        have HB4 := Lib.hid (below_trans HB3.out hB)
        have HQ4 := Lib.hid (HQ3.out.later hB)
        have HM4 := Lib.hid (HM3.out.later hB)
        have HP4 := Lib.hid (HP3.out.later hB)
        clear HB3 HQ3 HM3 HP3
        clear hB
        rcases N1.out with rfl | ⟨rfl, rfl⟩
        · have hu := HQ4.out
          go_wp2_with ((with_reducible refine Req.wp_load32 (o := ⟨some 76, .load 32 (.tmp 1), _, _, _, _⟩) ?_ (.tmp 1) ?_ w.heap.size ?_ a0 v0 x0 l0 hu ?_); (· rfl); (· rfl); (· rfl); simp only [Act.put, List.setIfInBounds_toArray, List.set_cons_zero, List.set_cons_succ])
          refine (C2.out _ HM4.out HP4.out).mono ?_
          rintro e X5 ⟨rfl, hB⟩
          have HB5 := Lib.hid (below_trans HB4.out hB)
          have HQ5 := Lib.hid (HQ4.out.later hB)
          have HM5 := Lib.hid (HM4.out.later hB)
          have HP5 := Lib.hid (HP4.out.later hB)
          clear HB4 HQ4 HM4 HP4
          clear hB C2 hu
          go_wp2
          go_ret
          exact ⟨rfl, HX.out.trans (HB5.out.mono HX.out.size)⟩
        · have c42 := HQ4.out.cell 42
          rw [(Req.cR_at a0 v0 x0 l0).2.2.2.2.2.2.2.1, HT.out] at c42
          by_cases hn : (X.toList == [110, 117, 108, 108]) = true
          · have hu := HQ4.out
            go_wp2_with ((with_reducible refine Req.wp_load32 (o := ⟨some 76, .load 32 (.tmp 1), _, _, _, _⟩) ?_ (.tmp 1) ?_ w.heap.size ?_ a0 v0 x0 l0 hu ?_); (· rfl); (· rfl); (· rfl); simp only [Act.put, List.setIfInBounds_toArray, List.set_cons_zero, List.set_cons_succ])
            refine (C2.out _ HM4.out HP4.out).mono ?_
            rintro e X5 ⟨rfl, hB⟩
            have HB5 := Lib.hid (below_trans HB4.out hB)
            have HQ5 := Lib.hid (HQ4.out.later hB)
            have HM5 := Lib.hid (HM4.out.later hB)
            have HP5 := Lib.hid (HP4.out.later hB)
            clear HB4 HQ4 HM4 HP4
            clear hB C2 hu c42
            go_wp2
            go_ret
            exact ⟨rfl, HX.out.trans (HB5.out.mono HX.out.size)⟩
          · have hn0 : (X.toList == [110, 117, 108, 108]) = false := by simpa using hn
            have e8 : (X.toList == X.toList) = true := beq_iff_eq.2 rfl
            clear hn
            have hu := HQ4.out
            go_wp2_with ((with_reducible refine Req.wp_load29r (o := ⟨some 62, .load 30 (.tmp 61), _, _, _, _⟩) ?_ (.tmp 61) ?_ w.heap.size ?_ a0 v0 x0 l0 hu ?_); (· rfl); (· rfl); (· rfl); simp only [Act.put, List.setIfInBounds_toArray, List.set_cons_zero, List.set_cons_succ])
            refine (C5.out _ HM4.out).mono ?_
            rintro e X5 ⟨rfl, hB⟩
            have HB5 := Lib.hid (below_trans HB4.out hB)
            have HQ5 := Lib.hid (HQ4.out.later hB)
            have HM5 := Lib.hid (HM4.out.later hB)
            have HP5 := Lib.hid (HP4.out.later hB)
            clear HB4 HQ4 HM4 HP4
            clear hB C5 hu
            have c42b := HQ5.out.cell 42
            rw [(Req.cR_at a0 v0 x0 l0).2.2.2.2.2.2.2.1, HT.out] at c42b
            have hu := HQ5.out
            go_wp2_with ((with_reducible refine Req.wp_load32 (o := ⟨some 76, .load 32 (.tmp 1), _, _, _, _⟩) ?_ (.tmp 1) ?_ w.heap.size ?_ a0 v0 x0 l0 hu ?_); (· rfl); (· rfl); (· rfl); simp only [Act.put, List.setIfInBounds_toArray, List.set_cons_zero, List.set_cons_succ])
            refine (C2.out _ HM5.out HP5.out).mono ?_
            rintro e X6 ⟨rfl, hB⟩
            have HB6 := Lib.hid (below_trans HB5.out hB)
            have HQ6 := Lib.hid (HQ5.out.later hB)
            have HM6 := Lib.hid (HM5.out.later hB)
            have HP6 := Lib.hid (HP5.out.later hB)
            clear HB5 HQ5 HM5 HP5
            clear hB C2 hu
            go_wp2
            go_ret
            exact ⟨rfl, HX.out.trans (HB6.out.mono HX.out.size)⟩

/-! ### The row's step -/
theorem reads (os : Os) {H : Type} (enc : TypeId × Value → H) : (DataW.whole enc Tryz.prog ((Card.laidWorld os).forCall (fun _ _ => 0) ⟨#[], #[.agg (Req.cR Req.zeroR (.slice none 0 0) (.slice none 0 0))], []⟩).memory Tryz.f5.params.toList Rows.taintNullSpec.vars false (#[.agg (Req.cR Req.zeroR (.slice none 0 0) (.slice none 0 0))] : Array Value).toList 8).map (fun x => (x.1, x.2.1)) = some ([.agg [.agg [.lit (.string []), .lit (.string []), .lit (.string []), .agg [.lit (.int .i64 0), .lit (.string []), .lit (.int .i64 0), .agg [.lit (.int .i64 0), .lit (.int .i64 0), .lit (.int .i64 0), .lit (.int .i64 0), .lit (.int .i64 0), .lit (.int .i64 0), .lit (.int .i64 0), .lit (.int .i64 0)]], .lit (.int .i64 0), .nil, .lit (.string []), .lit (.string []), .lit (.string []), .lit (.bool false), .lit (.bool false)], .lit (.string []), .nil, .lit (.bool false), .agg [.lit (.bool false), .lit (.string []), .agg [.lit (.int .i64 0), .lit (.string []), .lit (.int .i64 0), .agg [.lit (.int .i64 0), .lit (.int .i64 0), .lit (.int .i64 0), .lit (.int .i64 0), .lit (.int .i64 0), .lit (.int .i64 0), .lit (.int .i64 0), .lit (.int .i64 0)]], .lit (.int .i64 0)], .lit (.int .i64 0), .lit (.int .i64 0), .lit (.int .i64 0), .lit (.string []), .lit (.bool false), .lit (.bool false), .lit (.int .i64 0)]], []) := by kernel_rfl
set_option maxRecDepth 100000 in
theorem lifted (os : Os) (started : os.Started) (H : Type) (enc : TypeId × Value → H) (F : Stop.Interp) :
    ReturnsInHanded {} Tryz.checked os 5 .any ((OpenSpec.ofChange Rows.taintNullSpec).preRow enc Tryz.prog Tryz.f5 Rows.taintNullRow.domain false Rows.taintNullRow.laid) (((OpenSpec.ofChange Rows.taintNullSpec).at F).post enc Tryz.prog Tryz.f5 false true false false) := by
  obtain ⟨⟨x1, x2, x3⟩, hx, hx1⟩ := Option.map_eq_some_iff.1 (reads os enc)
  simp only [Prod.mk.injEq] at hx1
  obtain ⟨rfl, rfl⟩ := hx1
  refine returnsInHanded_of_row (C := Tryz.checked) (s := OpenSpec.ofChange Rows.taintNullSpec) own started (by kernel_rfl) Tryz.func5
    (witness_row_at (enc := enc) (C := Tryz.checked) false (Card.laidWorld os) #[.agg (Req.cR Req.zeroR (.slice none 0 0) (.slice none 0 0))] rfl (by kernel_rfl) (by kernel_rfl) (by kernel_rfl)
      (OpenSpec.preRow_of_cond 8 hx (by kernel_rfl) (fun k hk => by cases hk) (by kernel_rfl) (Card.laid_met os _))) ?_
  intro W base args ds gs before hval0 hW _ _ _ hL hsh _
  obtain ⟨m, hmax⟩ := Card.maxLen_int hsh
  have hm : Six.At m W := ⟨hmax, fun _ => Six.tab_of hL⟩
  have hval : ∀ (j : Nat) t v, Tryz.f5.params[j]? = some t → args[j]? = some v → Value.okWide Tryz.prog W .any base t v := hval0
  have hW' := hW
  obtain ⟨p, q, hA0, hV, rfl, hfz, hnd⟩ := hW
  have hA : DataW.TrodAll enc Tryz.prog W 0 (fun _ => true) true Tryz.f5.params.toList args.toList ds p := hA0
  rw [Tryz.params5] at hA hval
  obtain ⟨v0, vs0, d0, ds0, p0, q0, hargs0, rfl, rfl, t0, r0⟩ := trodAll_cons hA
  obtain ⟨rfl, rfl, rfl⟩ := trodAll_nil r0
  obtain rfl : args = #[v0] := by cases args; simp_all
  obtain ⟨rfl, rfl⟩ := trodVars_none hV
  have k0 := t0
  have lt0 : ∀ x ∈ p0, x.block < W.heap.size := by obtain ⟨m, hm⟩ := k0; exact DataW.trod_lt m _ _ _ hm
  obtain ⟨a0, pv0, xv0, l0, rfl, z0, w0, y0⟩ := Req.open_req (hval 0 32 v0 rfl rfl) t0
  clear hA0 hval0
  simp only [List.append_nil] at hW'
  refine (walk a0 pv0 xv0 l0  m W hm z0 w0 y0).mono fun e W' ⟨he, bel⟩ => ?_
  subst he
  exact ⟨_, rfl, _, _, _, [], _, [], hW', trodAll_mk1 (shut_bool Tryz.underlying4 _), (trodAll_cons_mk (Below.trod laidOut (by kernel_rfl) (of_decide_eq_true (by kernel_rfl)) k0 bel lt0) trodAll_mk0), rfl, bel.frame _, fun h => by cases h⟩

theorem said : Rows.taintNullRow.holds Tryz.pinned (OpenSpec.ofChange Rows.taintNullSpec) :=
  OpenClaim.holds_of_cond 5 Tryz.f5 rfl rfl rfl rfl rfl rfl rfl ⟨rfl, rfl, rfl, rfl, rfl⟩ rfl rfl rfl rfl rfl (by kernel_rfl) Tryz.func5 (by kernel_rfl)
    (of_decide_eq_true (by kernel_rfl)) (by unfold Func.isWrapper; first | (rw [if_pos (by decide +kernel)]; kernel_rfl) | (rw [if_neg (by decide +kernel)]; exact ⟨rfl, rfl⟩))
    (fun os started H enc _ F => by rw [OpenClaim.pre_eq_preRow]; exact lifted os started H enc F)

/-- No parameter wants a stand-in; the program's own looks are on. -/
theorem plain (f : FuncId) (fn : Func) (hf : Tryz.pinned.checked.prog.funcNamed Rows.taintNullRow.func = some f) (hfn : Tryz.pinned.checked.prog.funcs[f]? = some fn) :
    true = Tryz.pinned.checked.prog.looks [] ∧ ∀ (j : Nat) t, fn.params[j]? = some t → Tryz.pinned.checked.prog.wantsStandIn t = false := by
  obtain rfl : f = 5 := Option.some.inj ((show Tryz.prog.funcNamed Rows.taintNullRow.func = some 5 by kernel_rfl).symm.trans hf) |>.symm
  obtain rfl : fn = Tryz.f5 := (Option.some.inj (Tryz.func5.symm.trans hfn)).symm
  refine ⟨by kernel_rfl, fun j t ht => ?_⟩
  rw [Tryz.params5] at ht
  obtain rfl : t = 32 := by simpa using Array.mem_of_getElem? ht
  · exact (show Tryz.prog.wantsStandIn 32 = false by kernel_rfl)

/-- The statement: the card. -/
theorem proved : Rows.TaintNullCardSaid :=
  Claim7.holds_tied_plain_at .later [] _ _ _ _ said (fun _ h => by cases h) (by kernel_rfl) (fun _ h => by cases h) taintNull_row_tie rfl ⟨rfl, rfl⟩ (by kernel_rfl) rfl plain (by kernel_rfl)
#print axioms proved
end Go.Proofs.YtlkikfdbjpjpaaaGreatDoor.taintNull

/-
  The document's May of layer 9.
-/
import Derived.Test.YtlkikfdbjpjpaaaGreatDoorRefA
import Derived.Test.YtlkikfdbjpjpaaaGreatDoorRefB
import Derived.Test.YtlkikfdbjpjpaaaGreatDoorURefC
namespace Go.Proofs.YtlkikfdbjpjpaaaGreatDoor.Url
set_option linter.unusedSimpArgs false
set_option linter.unusedVariables false
set_option maxRecDepth 100000


open Go.RowKit Go.Shelf

set_option maxRecDepth 100000

open Host (H mayH)

theorem q_opq {W : World} {g : Nat} {u : U} {pv : Value} (a : UrlAt W g u pv) (h8 : u.h.p.length = 8) : Q9 W g 16 (tb u.opq) := fun v hv => load9 (((a.later hv).cell 16).trans (cU_at u pv h8).2.2.2.2.2.2.1)

theorem q_frg {W : World} {g : Nat} {u : U} {pv : Value} (a : UrlAt W g u pv) (h8 : u.h.p.length = 8) : Q9 W g 18 (tb u.frg) := fun v hv => load9 (((a.later hv).cell 18).trans (cU_at u pv h8).2.2.2.2.2.2.2.2.1)

theorem find_has (c : UInt8) (Q : ByteArray) : (!Q.data.toList.contains c) = (((findN c Q.data.toList 0 : Nat) : Int) == (Q.size : Int)) := by
  rw [find_bef]
  by_cases h : c ∈ Q.data.toList
  · have h1 := (bef_lt c Q.data.toList).2 h
    rw [size_list] at h1
    rw [has_yes h]
    symm
    exact beq_eq_false_iff_ne.2 (by omega)
  · have h1 := (bef_full c Q.data.toList).2 h
    rw [size_list] at h1
    rw [has_no h, h1]; simp

theorem op_web {s : T} (h : opB s = true) : webI s = 0 := by
  unfold opB at h
  simp only [Bool.or_eq_true, beq_iff_eq] at h
  rcases h with h | h | h <;> rw [h] <;> decide

set_option maxHeartbeats 16000000 in
theorem refMay_any (u : U) (pv : Value) (hf : Fit u) (hp : ∀ t ∈ u.path, t.length ≤ 30000) (b : Bool) (hb : mayU u = b) (w : World) (hs : Path.Strs w pv u.path) :
    Calls Tryz.prog 50 #[.agg (cU u pv)] w fun e w' => e = .returned (.bool b) ∧ Below w.heap.size w w' := by
  have HX := Lib.hid (show Below w.heap.size w (w.alloc (.cells (cU u pv) 27)) from (Below.refl w.heap.size w).alloc (Nat.le_refl _) _)
  have HU0 := Lib.hid (UrlAt.new w u pv)
  have HS0 := Lib.hid (hs.later HX.out)
  have h8 := hf.h8
  obtain ⟨T, hT⟩ : ∃ b, tailB u = b := ⟨_, rfl⟩
  obtain ⟨z, hz⟩ : ∃ z, webI u.sch = z := ⟨_, rfl⟩
  obtain ⟨O, hO⟩ : ∃ z, opB u.sch = z := ⟨_, rfl⟩
  obtain ⟨N, hN⟩ : ∃ z, tb u.sch = z := ⟨_, rfl⟩
  obtain ⟨Q, hQ⟩ : ∃ z, tb u.opq = z := ⟨_, rfl⟩
  obtain ⟨A, hA⟩ : ∃ z, tb u.usr = z := ⟨_, rfl⟩
  obtain ⟨B, hB⟩ : ∃ z, tb u.pas = z := ⟨_, rfl⟩
  obtain ⟨R, hR⟩ : ∃ b, Pct.readyB 1 u.opq = b := ⟨_, rfl⟩
  obtain ⟨f, hfd⟩ : ∃ b, findN 63 Q.data.toList 0 = b := ⟨_, rfl⟩
  obtain ⟨g, hgd⟩ : ∃ b, findN 35 Q.data.toList 0 = b := ⟨_, rfl⟩
  obtain ⟨bH, hbH⟩ : ∃ b, Host.sameH u.h Host.none0 = b := ⟨_, rfl⟩
  obtain ⟨bM, hbM⟩ : ∃ b, mayH u.h = b := ⟨_, rfl⟩
  obtain ⟨bU, hbU⟩ : ∃ b, Pct.readyB 4 u.usr = b := ⟨_, rfl⟩
  obtain ⟨bS, hbS⟩ : ∃ b, Pct.readyB 4 u.pas = b := ⟨_, rfl⟩
  obtain ⟨bP, hbP⟩ : ∃ b, Path.mayP u.path = b := ⟨_, rfl⟩
  have HOZ := Lib.hid (show O = true → z = 0 from fun h => by rw [← hz]; exact op_web (hO.trans h))
  have CT := Lib.hid (fun x => refTails_any u pv hf T hT x)
  have CW := Lib.hid (fun x => refWeb_any N z (by rw [list_tb hN]; exact hz) x)
  have CO := Lib.hid (fun x => refOpq_any N O (by rw [list_tb hN]; exact hO) x)
  have CR := Lib.hid (fun x => refReady_at Q (by rw [size_tb hQ]; exact hf.opq) 1 R (by rw [list_tb hQ]; exact hR) x)
  have CF := Lib.hid (fun x => refFind_any Q (by rw [size_tb hQ]; exact hf.opq) 63 0 (Nat.zero_le _) f hfd x)
  have CG := Lib.hid (fun x => refFind_any Q (by rw [size_tb hQ]; exact hf.opq) 35 0 (Nat.zero_le _) g hgd x)
  have CH := Lib.hid (fun x => refHostMay_any u.h h8 hf.hs bM hbM x)
  have CU := Lib.hid (fun x => refReady_at A (by rw [size_tb hA]; exact hf.usr) 4 bU (by rw [list_tb hA]; exact hbU) x)
  have CV := Lib.hid (fun x => refReady_at B (by rw [size_tb hB]; exact hf.pas) 4 bS (by rw [list_tb hB]; exact hbS) x)
  have CP := Lib.hid (fun x hx => refPathMay_any pv u.path (by have := hf.pn; omega) hp bP hbP x hx)
  have HEQ := Lib.hid (show ∀ v, (Op.equalIn 10000 24 (.agg u.h.cells) (.agg #[.int .i64 0, .string ⟨#[]⟩, .int .i64 0, .int .i64 0, .int .i64 0, .int .i64 0, .int .i64 0, .int .i64 0, .int .i64 0, .int .i64 0, .int .i64 0])).run Tryz.prog v = .ok bH v from fun v => Host.eq24 u.h Host.none0 h8 rfl bH hbH v)
  obtain ⟨F63, h63⟩ : ∃ b, ((f : Int) == (Q.size : Int)) = b := ⟨_, rfl⟩
  obtain ⟨F35, h35⟩ : ∃ b, ((g : Int) == (Q.size : Int)) = b := ⟨_, rfl⟩
  have e63 : (!u.opq.contains 63) = F63 := by rw [← h63, ← hfd, ← list_tb hQ]; exact find_has 63 Q
  have e35 : (!u.opq.contains 35) = F35 := by rw [← h35, ← hgd, ← list_tb hQ]; exact find_has 35 Q
  obtain ⟨P1, hP1⟩ : ∃ b, (u.port == -1) = b := ⟨_, rfl⟩
  obtain ⟨eU, heU⟩ : ∃ b, A.toList.isEmpty = b := ⟨_, rfl⟩
  obtain ⟨eS, heS⟩ : ∃ b, B.toList.isEmpty = b := ⟨_, rfl⟩
  obtain ⟨eQ, heQ⟩ : ∃ b, Q.toList.isEmpty = b := ⟨_, rfl⟩
  obtain ⟨eL, heL⟩ : ∃ b, ((u.path.length : Int) == 0) = b := ⟨_, rfl⟩
  obtain ⟨g1, hg1⟩ : ∃ b, decide (-1 ≤ u.port) = b := ⟨_, rfl⟩
  obtain ⟨g2, hg2⟩ : ∃ b, decide (u.port ≤ 65535) = b := ⟨_, rfl⟩
  obtain ⟨g3, hg3⟩ : ∃ b, (u.port != z) = b := ⟨_, rfl⟩
  have HMO := Lib.hid (show mayOpq u = (R && (F63 && (F35 && (P1 && (bH && (eU && (eS && eL))))))) from by
    unfold mayOpq
    rw [hR, e63, e35, hbH, ← hP1, ← heU, ← heS, ← heL, Path.tl, Path.tl, list_tb hA, list_tb hB]
    have a1 : decide (u.port = -1) = (u.port == -1) := by rw [Bool.eq_iff_iff]; simp
    have a2 : u.path.isEmpty = ((u.path.length : Int) == 0) := by
      cases u.path with
      | nil => rfl
      | cons a r => simp; omega
    rw [a1, a2]
    cases R <;> cases F63 <;> cases F35 <;> rfl)
  have HMW := Lib.hid (show mayWeb u = (bM && (bU && (bS && (bP && (eQ && (g1 && (g2 && g3))))))) from by
    unfold mayWeb mayPort
    rw [hbM, hbU, hbS, hbP, ← heQ, hg1, hg2, hz, ← hg3, Path.tl, list_tb hQ]
    have a1 : (!decide (u.port = z)) = (u.port != z) := by rw [Bool.eq_iff_iff]; simp
    rw [a1])
  have HMU := Lib.hid (show (T && (if z = 0 then O && mayOpq u else mayWeb u)) = b from by rw [← hb]; unfold mayU; rw [hT, hz, hO])
  obtain ⟨a, cap, rfl, hc1, hc2, hc3, hc4⟩ := hs
  clear hc3 hc4 e63 e35
  have H8 := Lib.hid h8
  have c0 := HU0.out.cell 0
  rw [(cU_at u _ h8).1, hN] at c0
  have KQ := Lib.hid hQ
  have KA := Lib.hid hA
  have KB := Lib.hid hB
  have KN := Lib.hid hN
  have K63 := Lib.hid h63
  have K35 := Lib.hid h35
  have KP1 := Lib.hid hP1
  have KeU := Lib.hid heU
  have KeS := Lib.hid heS
  have KeQ := Lib.hid heQ
  have KeL := Lib.hid heL
  have Kg1 := Lib.hid hg1
  have Kg2 := Lib.hid hg2
  have Kg3 := Lib.hid hg3
  clear hT hz hO hN hQ hA hB hR hfd hgd hbH hbM hbU hbS hbP h63 h35 hP1 heU heS heQ heL hg1 hg2 hg3 hb h8 hf hp
  have hu := HU0.out
  go_enter Tryz.func50, Tryz.ntmps50
  go_wp2_with ((with_reducible refine wp_load27 (o := ⟨some 11, .load 27 (.tmp 1), _, _, _, _⟩) ?_ (.tmp 1) ?_ w.heap.size ?_ u (.slice a u.path.length cap) H8.out hu ?_); (· rfl); (· rfl); (· rfl); simp only [Act.put, List.setIfInBounds_toArray, List.set_cons_zero, List.set_cons_succ])
  clear hu
  generalize w.alloc (.cells (cU u (.slice a u.path.length cap)) 27) = X0 at HX HU0 HS0 c0 ⊢
  refine (CT.out _).mono ?_
  rintro e X1 ⟨rfl, hB⟩
  clear c0
  have HB1 := Lib.hid (hB)
  have HU1 := Lib.hid (HU0.out.later hB)
  have HS1 := Lib.hid (HS0.out.later hB)
  clear HU0 HS0
  clear hB CT
  have c0 := HU1.out.cell 0
  rw [(cU_at u _ H8.out).1, KN.out] at c0
  go_wp2_with fail
  refine (CW.out _).mono ?_
  rintro e X ⟨rfl, rfl⟩
  go_wp2_with fail
  refine (CO.out _).mono ?_
  rintro e X ⟨rfl, rfl⟩
  clear CW CO c0
  cases T
  · have e : false = b := HMU.out
    subst e
    clear HMU
    go_wp2
    go_ret
    exact ⟨rfl, HX.out.trans (HB1.out.mono HX.out.size)⟩
  by_cases z0 : z = 0
  · have q0 : (z == 0) = true := by rw [z0]; rfl
    have hm := HMU.out
    rw [if_pos z0, Bool.true_and, HMO.out] at hm
    clear HOZ z0 HMU HMO HMW CH CU CV CP Kg1 Kg2 Kg3 KeQ
    cases O
    · have e : false = b := hm
      subst e
      clear hm
      go_wp2
      go_ret
      exact ⟨rfl, HX.out.trans (HB1.out.mono HX.out.size)⟩
    · rw [Bool.true_and] at hm
      have HM := Lib.hid hm
      clear hm
      have c16 := HU1.out.cell 16
      rw [(cU_at u _ H8.out).2.2.2.2.2.2.1, KQ.out] at c16
      go_wp2_with fail
      refine (CR.out _).mono ?_
      rintro e X ⟨rfl, rfl⟩
      clear CR
      go_wp2_with fail
      clear c16 q0
      have LQ := Lib.hid (show Q9 X1 w.heap.size 16 Q from by have := q_opq HU1.out H8.out; rwa [KQ.out] at this)
      have LA := Lib.hid (show Q9 X1 w.heap.size 1 A from by have := q_usr HU1.out H8.out; rwa [KA.out] at this)
      have LB := Lib.hid (show Q9 X1 w.heap.size 2 B from by have := q_pas HU1.out H8.out; rwa [KB.out] at this)
      have LP := Lib.hid (q_prt HU1.out H8.out)
      have LH := Lib.hid (q_host HU1.out H8.out)
      have LL := Lib.hid (q_pth HU1.out H8.out)
      have heq := HEQ.out
      have h63 := K63.out
      have h35 := K35.out
      have hP1 := KP1.out
      have heU := KeU.out
      have heS := KeS.out
      have heL := KeL.out
      clear K63 K35 KP1 KeU KeS KeL HEQ KQ KA KB KN
      cases R
      · refine Ascii.wp_region_quiet_below (by kernel_rfl) (by kernel_rfl) ?_
        iterate 3 (go_big_quiet_step ((intro _; rfl)))
        (first | go_big_quiet_skip | ((go_big_quiet_want; (with_reducible refine Host.quiet_load (o := ⟨some 36, .load 9 (.tmp 35), _, _, _, _⟩) 9 (.tmp 35) ?_ _ ?_ _ LQ.out ?_); (· rfl); (· rfl)); go_big_quiet_on; simp only [Act.put, List.setIfInBounds_toArray, List.set_cons_succ, List.set_cons_zero]))
        go_big_quiet_step ((intro hu; go_at_call 80; exact (CF.out _).mono fun e u' h => ⟨h.1, h.2 ▸ hu⟩))
        iterate 1 (go_big_quiet_step ((intro _; rfl)))
        (first | go_big_quiet_skip | ((go_big_quiet_want; (with_reducible refine Host.quiet_load (o := ⟨some 39, .load 9 (.tmp 38), _, _, _, _⟩) 9 (.tmp 38) ?_ _ ?_ _ LQ.out ?_); (· rfl); (· rfl)); go_big_quiet_on; simp only [Act.put, List.setIfInBounds_toArray, List.set_cons_succ, List.set_cons_zero]))
        iterate 5 (go_big_quiet_step ((intro _; rfl)))
        (first | go_big_quiet_skip | ((go_big_quiet_want; (with_reducible refine Host.quiet_load (o := ⟨some 45, .load 9 (.tmp 44), _, _, _, _⟩) 9 (.tmp 44) ?_ _ ?_ _ LQ.out ?_); (· rfl); (· rfl)); go_big_quiet_on; simp only [Act.put, List.setIfInBounds_toArray, List.set_cons_succ, List.set_cons_zero]))
        go_big_quiet_step ((intro hu; go_at_call 80; exact (CG.out _).mono fun e u' h => ⟨h.1, h.2 ▸ hu⟩))
        iterate 1 (go_big_quiet_step ((intro _; rfl)))
        (first | go_big_quiet_skip | ((go_big_quiet_want; (with_reducible refine Host.quiet_load (o := ⟨some 48, .load 9 (.tmp 47), _, _, _, _⟩) 9 (.tmp 47) ?_ _ ?_ _ LQ.out ?_); (· rfl); (· rfl)); go_big_quiet_on; simp only [Act.put, List.setIfInBounds_toArray, List.set_cons_succ, List.set_cons_zero]))
        iterate 5 (go_big_quiet_step ((intro _; rfl)))
        (first | go_big_quiet_skip | ((go_big_quiet_want; (with_reducible refine Host.quiet_load (o := ⟨some 54, .load 3 (.tmp 53), _, _, _, _⟩) 3 (.tmp 53) ?_ _ ?_ _ LP.out ?_); (· rfl); (· rfl)); go_big_quiet_on; simp only [Act.put, List.setIfInBounds_toArray, List.set_cons_succ, List.set_cons_zero]))
        iterate 4 (go_big_quiet_step ((intro _; rfl)))
        (first | go_big_quiet_skip | ((go_big_quiet_want; (with_reducible refine Host.quiet_load (o := ⟨some 59, .load 24 (.tmp 58), _, _, _, _⟩) 24 (.tmp 58) ?_ _ ?_ _ LH.out ?_); (· rfl); (· rfl)); go_big_quiet_on; simp only [Act.put, List.setIfInBounds_toArray, List.set_cons_succ, List.set_cons_zero]))
        iterate 5 (go_big_quiet_step ((intro _; rfl)))
        (first | go_big_quiet_skip | ((go_big_quiet_want; (with_reducible refine Host.quiet_load (o := ⟨some 65, .load 9 (.tmp 64), _, _, _, _⟩) 9 (.tmp 64) ?_ _ ?_ _ LA.out ?_); (· rfl); (· rfl)); go_big_quiet_on; simp only [Act.put, List.setIfInBounds_toArray, List.set_cons_succ, List.set_cons_zero]))
        iterate 4 (go_big_quiet_step ((intro _; rfl)))
        (first | go_big_quiet_skip | ((go_big_quiet_want; (with_reducible refine Host.quiet_load (o := ⟨some 70, .load 9 (.tmp 69), _, _, _, _⟩) 9 (.tmp 69) ?_ _ ?_ _ LB.out ?_); (· rfl); (· rfl)); go_big_quiet_on; simp only [Act.put, List.setIfInBounds_toArray, List.set_cons_succ, List.set_cons_zero]))
        iterate 4 (go_big_quiet_step ((intro _; rfl)))
        (first | go_big_quiet_skip | ((go_big_quiet_want; (with_reducible refine Host.quiet_load (o := ⟨some 75, .load 25 (.tmp 74), _, _, _, _⟩) 25 (.tmp 74) ?_ _ ?_ _ LL.out ?_); (· rfl); (· rfl)); go_big_quiet_on; simp only [Act.put, List.setIfInBounds_toArray, List.set_cons_succ, List.set_cons_zero]))
        repeat (go_big_quiet_step ((intro _; rfl)))
        refine wpQuiet_nil ?_
        intro y hy
        go_wp2
        go_ret
        exact ⟨by rw [← HM.out]; rfl, HX.out.trans ((below_trans HB1.out hy).mono HX.out.size)⟩
      cases F63
      · refine Ascii.wp_region_quiet_below (by kernel_rfl) (by kernel_rfl) ?_
        iterate 3 (go_big_quiet_step ((intro _; rfl)))
        (first | go_big_quiet_skip | ((go_big_quiet_want; (with_reducible refine Host.quiet_load (o := ⟨some 36, .load 9 (.tmp 35), _, _, _, _⟩) 9 (.tmp 35) ?_ _ ?_ _ LQ.out ?_); (· rfl); (· rfl)); go_big_quiet_on; simp only [Act.put, List.setIfInBounds_toArray, List.set_cons_succ, List.set_cons_zero]))
        go_big_quiet_step ((intro hu; go_at_call 80; exact (CF.out _).mono fun e u' h => ⟨h.1, h.2 ▸ hu⟩))
        iterate 1 (go_big_quiet_step ((intro _; rfl)))
        (first | go_big_quiet_skip | ((go_big_quiet_want; (with_reducible refine Host.quiet_load (o := ⟨some 39, .load 9 (.tmp 38), _, _, _, _⟩) 9 (.tmp 38) ?_ _ ?_ _ LQ.out ?_); (· rfl); (· rfl)); go_big_quiet_on; simp only [Act.put, List.setIfInBounds_toArray, List.set_cons_succ, List.set_cons_zero]))
        iterate 5 (go_big_quiet_step ((intro _; rfl)))
        (first | go_big_quiet_skip | ((go_big_quiet_want; (with_reducible refine Host.quiet_load (o := ⟨some 45, .load 9 (.tmp 44), _, _, _, _⟩) 9 (.tmp 44) ?_ _ ?_ _ LQ.out ?_); (· rfl); (· rfl)); go_big_quiet_on; simp only [Act.put, List.setIfInBounds_toArray, List.set_cons_succ, List.set_cons_zero]))
        go_big_quiet_step ((intro hu; go_at_call 80; exact (CG.out _).mono fun e u' h => ⟨h.1, h.2 ▸ hu⟩))
        iterate 1 (go_big_quiet_step ((intro _; rfl)))
        (first | go_big_quiet_skip | ((go_big_quiet_want; (with_reducible refine Host.quiet_load (o := ⟨some 48, .load 9 (.tmp 47), _, _, _, _⟩) 9 (.tmp 47) ?_ _ ?_ _ LQ.out ?_); (· rfl); (· rfl)); go_big_quiet_on; simp only [Act.put, List.setIfInBounds_toArray, List.set_cons_succ, List.set_cons_zero]))
        iterate 5 (go_big_quiet_step ((intro _; rfl)))
        (first | go_big_quiet_skip | ((go_big_quiet_want; (with_reducible refine Host.quiet_load (o := ⟨some 54, .load 3 (.tmp 53), _, _, _, _⟩) 3 (.tmp 53) ?_ _ ?_ _ LP.out ?_); (· rfl); (· rfl)); go_big_quiet_on; simp only [Act.put, List.setIfInBounds_toArray, List.set_cons_succ, List.set_cons_zero]))
        iterate 4 (go_big_quiet_step ((intro _; rfl)))
        (first | go_big_quiet_skip | ((go_big_quiet_want; (with_reducible refine Host.quiet_load (o := ⟨some 59, .load 24 (.tmp 58), _, _, _, _⟩) 24 (.tmp 58) ?_ _ ?_ _ LH.out ?_); (· rfl); (· rfl)); go_big_quiet_on; simp only [Act.put, List.setIfInBounds_toArray, List.set_cons_succ, List.set_cons_zero]))
        iterate 5 (go_big_quiet_step ((intro _; rfl)))
        (first | go_big_quiet_skip | ((go_big_quiet_want; (with_reducible refine Host.quiet_load (o := ⟨some 65, .load 9 (.tmp 64), _, _, _, _⟩) 9 (.tmp 64) ?_ _ ?_ _ LA.out ?_); (· rfl); (· rfl)); go_big_quiet_on; simp only [Act.put, List.setIfInBounds_toArray, List.set_cons_succ, List.set_cons_zero]))
        iterate 4 (go_big_quiet_step ((intro _; rfl)))
        (first | go_big_quiet_skip | ((go_big_quiet_want; (with_reducible refine Host.quiet_load (o := ⟨some 70, .load 9 (.tmp 69), _, _, _, _⟩) 9 (.tmp 69) ?_ _ ?_ _ LB.out ?_); (· rfl); (· rfl)); go_big_quiet_on; simp only [Act.put, List.setIfInBounds_toArray, List.set_cons_succ, List.set_cons_zero]))
        iterate 4 (go_big_quiet_step ((intro _; rfl)))
        (first | go_big_quiet_skip | ((go_big_quiet_want; (with_reducible refine Host.quiet_load (o := ⟨some 75, .load 25 (.tmp 74), _, _, _, _⟩) 25 (.tmp 74) ?_ _ ?_ _ LL.out ?_); (· rfl); (· rfl)); go_big_quiet_on; simp only [Act.put, List.setIfInBounds_toArray, List.set_cons_succ, List.set_cons_zero]))
        repeat (go_big_quiet_step ((intro _; rfl)))
        refine wpQuiet_nil ?_
        intro y hy
        go_wp2
        go_ret
        exact ⟨by rw [← HM.out]; rfl, HX.out.trans ((below_trans HB1.out hy).mono HX.out.size)⟩
      cases F35
      · refine Ascii.wp_region_quiet_below (by kernel_rfl) (by kernel_rfl) ?_
        iterate 3 (go_big_quiet_step ((intro _; rfl)))
        (first | go_big_quiet_skip | ((go_big_quiet_want; (with_reducible refine Host.quiet_load (o := ⟨some 36, .load 9 (.tmp 35), _, _, _, _⟩) 9 (.tmp 35) ?_ _ ?_ _ LQ.out ?_); (· rfl); (· rfl)); go_big_quiet_on; simp only [Act.put, List.setIfInBounds_toArray, List.set_cons_succ, List.set_cons_zero]))
        go_big_quiet_step ((intro hu; go_at_call 80; exact (CF.out _).mono fun e u' h => ⟨h.1, h.2 ▸ hu⟩))
        iterate 1 (go_big_quiet_step ((intro _; rfl)))
        (first | go_big_quiet_skip | ((go_big_quiet_want; (with_reducible refine Host.quiet_load (o := ⟨some 39, .load 9 (.tmp 38), _, _, _, _⟩) 9 (.tmp 38) ?_ _ ?_ _ LQ.out ?_); (· rfl); (· rfl)); go_big_quiet_on; simp only [Act.put, List.setIfInBounds_toArray, List.set_cons_succ, List.set_cons_zero]))
        iterate 5 (go_big_quiet_step ((intro _; rfl)))
        (first | go_big_quiet_skip | ((go_big_quiet_want; (with_reducible refine Host.quiet_load (o := ⟨some 45, .load 9 (.tmp 44), _, _, _, _⟩) 9 (.tmp 44) ?_ _ ?_ _ LQ.out ?_); (· rfl); (· rfl)); go_big_quiet_on; simp only [Act.put, List.setIfInBounds_toArray, List.set_cons_succ, List.set_cons_zero]))
        go_big_quiet_step ((intro hu; go_at_call 80; exact (CG.out _).mono fun e u' h => ⟨h.1, h.2 ▸ hu⟩))
        iterate 1 (go_big_quiet_step ((intro _; rfl)))
        (first | go_big_quiet_skip | ((go_big_quiet_want; (with_reducible refine Host.quiet_load (o := ⟨some 48, .load 9 (.tmp 47), _, _, _, _⟩) 9 (.tmp 47) ?_ _ ?_ _ LQ.out ?_); (· rfl); (· rfl)); go_big_quiet_on; simp only [Act.put, List.setIfInBounds_toArray, List.set_cons_succ, List.set_cons_zero]))
        iterate 5 (go_big_quiet_step ((intro _; rfl)))
        (first | go_big_quiet_skip | ((go_big_quiet_want; (with_reducible refine Host.quiet_load (o := ⟨some 54, .load 3 (.tmp 53), _, _, _, _⟩) 3 (.tmp 53) ?_ _ ?_ _ LP.out ?_); (· rfl); (· rfl)); go_big_quiet_on; simp only [Act.put, List.setIfInBounds_toArray, List.set_cons_succ, List.set_cons_zero]))
        iterate 4 (go_big_quiet_step ((intro _; rfl)))
        (first | go_big_quiet_skip | ((go_big_quiet_want; (with_reducible refine Host.quiet_load (o := ⟨some 59, .load 24 (.tmp 58), _, _, _, _⟩) 24 (.tmp 58) ?_ _ ?_ _ LH.out ?_); (· rfl); (· rfl)); go_big_quiet_on; simp only [Act.put, List.setIfInBounds_toArray, List.set_cons_succ, List.set_cons_zero]))
        iterate 5 (go_big_quiet_step ((intro _; rfl)))
        (first | go_big_quiet_skip | ((go_big_quiet_want; (with_reducible refine Host.quiet_load (o := ⟨some 65, .load 9 (.tmp 64), _, _, _, _⟩) 9 (.tmp 64) ?_ _ ?_ _ LA.out ?_); (· rfl); (· rfl)); go_big_quiet_on; simp only [Act.put, List.setIfInBounds_toArray, List.set_cons_succ, List.set_cons_zero]))
        iterate 4 (go_big_quiet_step ((intro _; rfl)))
        (first | go_big_quiet_skip | ((go_big_quiet_want; (with_reducible refine Host.quiet_load (o := ⟨some 70, .load 9 (.tmp 69), _, _, _, _⟩) 9 (.tmp 69) ?_ _ ?_ _ LB.out ?_); (· rfl); (· rfl)); go_big_quiet_on; simp only [Act.put, List.setIfInBounds_toArray, List.set_cons_succ, List.set_cons_zero]))
        iterate 4 (go_big_quiet_step ((intro _; rfl)))
        (first | go_big_quiet_skip | ((go_big_quiet_want; (with_reducible refine Host.quiet_load (o := ⟨some 75, .load 25 (.tmp 74), _, _, _, _⟩) 25 (.tmp 74) ?_ _ ?_ _ LL.out ?_); (· rfl); (· rfl)); go_big_quiet_on; simp only [Act.put, List.setIfInBounds_toArray, List.set_cons_succ, List.set_cons_zero]))
        repeat (go_big_quiet_step ((intro _; rfl)))
        refine wpQuiet_nil ?_
        intro y hy
        go_wp2
        go_ret
        exact ⟨by rw [← HM.out]; rfl, HX.out.trans ((below_trans HB1.out hy).mono HX.out.size)⟩
      cases P1
      · refine Ascii.wp_region_quiet_below (by kernel_rfl) (by kernel_rfl) ?_
        iterate 3 (go_big_quiet_step ((intro _; rfl)))
        (first | go_big_quiet_skip | ((go_big_quiet_want; (with_reducible refine Host.quiet_load (o := ⟨some 36, .load 9 (.tmp 35), _, _, _, _⟩) 9 (.tmp 35) ?_ _ ?_ _ LQ.out ?_); (· rfl); (· rfl)); go_big_quiet_on; simp only [Act.put, List.setIfInBounds_toArray, List.set_cons_succ, List.set_cons_zero]))
        go_big_quiet_step ((intro hu; go_at_call 80; exact (CF.out _).mono fun e u' h => ⟨h.1, h.2 ▸ hu⟩))
        iterate 1 (go_big_quiet_step ((intro _; rfl)))
        (first | go_big_quiet_skip | ((go_big_quiet_want; (with_reducible refine Host.quiet_load (o := ⟨some 39, .load 9 (.tmp 38), _, _, _, _⟩) 9 (.tmp 38) ?_ _ ?_ _ LQ.out ?_); (· rfl); (· rfl)); go_big_quiet_on; simp only [Act.put, List.setIfInBounds_toArray, List.set_cons_succ, List.set_cons_zero]))
        iterate 5 (go_big_quiet_step ((intro _; rfl)))
        (first | go_big_quiet_skip | ((go_big_quiet_want; (with_reducible refine Host.quiet_load (o := ⟨some 45, .load 9 (.tmp 44), _, _, _, _⟩) 9 (.tmp 44) ?_ _ ?_ _ LQ.out ?_); (· rfl); (· rfl)); go_big_quiet_on; simp only [Act.put, List.setIfInBounds_toArray, List.set_cons_succ, List.set_cons_zero]))
        go_big_quiet_step ((intro hu; go_at_call 80; exact (CG.out _).mono fun e u' h => ⟨h.1, h.2 ▸ hu⟩))
        iterate 1 (go_big_quiet_step ((intro _; rfl)))
        (first | go_big_quiet_skip | ((go_big_quiet_want; (with_reducible refine Host.quiet_load (o := ⟨some 48, .load 9 (.tmp 47), _, _, _, _⟩) 9 (.tmp 47) ?_ _ ?_ _ LQ.out ?_); (· rfl); (· rfl)); go_big_quiet_on; simp only [Act.put, List.setIfInBounds_toArray, List.set_cons_succ, List.set_cons_zero]))
        iterate 5 (go_big_quiet_step ((intro _; rfl)))
        (first | go_big_quiet_skip | ((go_big_quiet_want; (with_reducible refine Host.quiet_load (o := ⟨some 54, .load 3 (.tmp 53), _, _, _, _⟩) 3 (.tmp 53) ?_ _ ?_ _ LP.out ?_); (· rfl); (· rfl)); go_big_quiet_on; simp only [Act.put, List.setIfInBounds_toArray, List.set_cons_succ, List.set_cons_zero]))
        iterate 4 (go_big_quiet_step ((intro _; rfl)))
        (first | go_big_quiet_skip | ((go_big_quiet_want; (with_reducible refine Host.quiet_load (o := ⟨some 59, .load 24 (.tmp 58), _, _, _, _⟩) 24 (.tmp 58) ?_ _ ?_ _ LH.out ?_); (· rfl); (· rfl)); go_big_quiet_on; simp only [Act.put, List.setIfInBounds_toArray, List.set_cons_succ, List.set_cons_zero]))
        iterate 5 (go_big_quiet_step ((intro _; rfl)))
        (first | go_big_quiet_skip | ((go_big_quiet_want; (with_reducible refine Host.quiet_load (o := ⟨some 65, .load 9 (.tmp 64), _, _, _, _⟩) 9 (.tmp 64) ?_ _ ?_ _ LA.out ?_); (· rfl); (· rfl)); go_big_quiet_on; simp only [Act.put, List.setIfInBounds_toArray, List.set_cons_succ, List.set_cons_zero]))
        iterate 4 (go_big_quiet_step ((intro _; rfl)))
        (first | go_big_quiet_skip | ((go_big_quiet_want; (with_reducible refine Host.quiet_load (o := ⟨some 70, .load 9 (.tmp 69), _, _, _, _⟩) 9 (.tmp 69) ?_ _ ?_ _ LB.out ?_); (· rfl); (· rfl)); go_big_quiet_on; simp only [Act.put, List.setIfInBounds_toArray, List.set_cons_succ, List.set_cons_zero]))
        iterate 4 (go_big_quiet_step ((intro _; rfl)))
        (first | go_big_quiet_skip | ((go_big_quiet_want; (with_reducible refine Host.quiet_load (o := ⟨some 75, .load 25 (.tmp 74), _, _, _, _⟩) 25 (.tmp 74) ?_ _ ?_ _ LL.out ?_); (· rfl); (· rfl)); go_big_quiet_on; simp only [Act.put, List.setIfInBounds_toArray, List.set_cons_succ, List.set_cons_zero]))
        repeat (go_big_quiet_step ((intro _; rfl)))
        refine wpQuiet_nil ?_
        intro y hy
        go_wp2
        go_ret
        exact ⟨by rw [← HM.out]; rfl, HX.out.trans ((below_trans HB1.out hy).mono HX.out.size)⟩
      cases bH
      · refine Ascii.wp_region_quiet_below (by kernel_rfl) (by kernel_rfl) ?_
        iterate 3 (go_big_quiet_step ((intro _; rfl)))
        (first | go_big_quiet_skip | ((go_big_quiet_want; (with_reducible refine Host.quiet_load (o := ⟨some 36, .load 9 (.tmp 35), _, _, _, _⟩) 9 (.tmp 35) ?_ _ ?_ _ LQ.out ?_); (· rfl); (· rfl)); go_big_quiet_on; simp only [Act.put, List.setIfInBounds_toArray, List.set_cons_succ, List.set_cons_zero]))
        go_big_quiet_step ((intro hu; go_at_call 80; exact (CF.out _).mono fun e u' h => ⟨h.1, h.2 ▸ hu⟩))
        iterate 1 (go_big_quiet_step ((intro _; rfl)))
        (first | go_big_quiet_skip | ((go_big_quiet_want; (with_reducible refine Host.quiet_load (o := ⟨some 39, .load 9 (.tmp 38), _, _, _, _⟩) 9 (.tmp 38) ?_ _ ?_ _ LQ.out ?_); (· rfl); (· rfl)); go_big_quiet_on; simp only [Act.put, List.setIfInBounds_toArray, List.set_cons_succ, List.set_cons_zero]))
        iterate 5 (go_big_quiet_step ((intro _; rfl)))
        (first | go_big_quiet_skip | ((go_big_quiet_want; (with_reducible refine Host.quiet_load (o := ⟨some 45, .load 9 (.tmp 44), _, _, _, _⟩) 9 (.tmp 44) ?_ _ ?_ _ LQ.out ?_); (· rfl); (· rfl)); go_big_quiet_on; simp only [Act.put, List.setIfInBounds_toArray, List.set_cons_succ, List.set_cons_zero]))
        go_big_quiet_step ((intro hu; go_at_call 80; exact (CG.out _).mono fun e u' h => ⟨h.1, h.2 ▸ hu⟩))
        iterate 1 (go_big_quiet_step ((intro _; rfl)))
        (first | go_big_quiet_skip | ((go_big_quiet_want; (with_reducible refine Host.quiet_load (o := ⟨some 48, .load 9 (.tmp 47), _, _, _, _⟩) 9 (.tmp 47) ?_ _ ?_ _ LQ.out ?_); (· rfl); (· rfl)); go_big_quiet_on; simp only [Act.put, List.setIfInBounds_toArray, List.set_cons_succ, List.set_cons_zero]))
        iterate 5 (go_big_quiet_step ((intro _; rfl)))
        (first | go_big_quiet_skip | ((go_big_quiet_want; (with_reducible refine Host.quiet_load (o := ⟨some 54, .load 3 (.tmp 53), _, _, _, _⟩) 3 (.tmp 53) ?_ _ ?_ _ LP.out ?_); (· rfl); (· rfl)); go_big_quiet_on; simp only [Act.put, List.setIfInBounds_toArray, List.set_cons_succ, List.set_cons_zero]))
        iterate 4 (go_big_quiet_step ((intro _; rfl)))
        (first | go_big_quiet_skip | ((go_big_quiet_want; (with_reducible refine Host.quiet_load (o := ⟨some 59, .load 24 (.tmp 58), _, _, _, _⟩) 24 (.tmp 58) ?_ _ ?_ _ LH.out ?_); (· rfl); (· rfl)); go_big_quiet_on; simp only [Act.put, List.setIfInBounds_toArray, List.set_cons_succ, List.set_cons_zero]))
        iterate 5 (go_big_quiet_step ((intro _; rfl)))
        (first | go_big_quiet_skip | ((go_big_quiet_want; (with_reducible refine Host.quiet_load (o := ⟨some 65, .load 9 (.tmp 64), _, _, _, _⟩) 9 (.tmp 64) ?_ _ ?_ _ LA.out ?_); (· rfl); (· rfl)); go_big_quiet_on; simp only [Act.put, List.setIfInBounds_toArray, List.set_cons_succ, List.set_cons_zero]))
        iterate 4 (go_big_quiet_step ((intro _; rfl)))
        (first | go_big_quiet_skip | ((go_big_quiet_want; (with_reducible refine Host.quiet_load (o := ⟨some 70, .load 9 (.tmp 69), _, _, _, _⟩) 9 (.tmp 69) ?_ _ ?_ _ LB.out ?_); (· rfl); (· rfl)); go_big_quiet_on; simp only [Act.put, List.setIfInBounds_toArray, List.set_cons_succ, List.set_cons_zero]))
        iterate 4 (go_big_quiet_step ((intro _; rfl)))
        (first | go_big_quiet_skip | ((go_big_quiet_want; (with_reducible refine Host.quiet_load (o := ⟨some 75, .load 25 (.tmp 74), _, _, _, _⟩) 25 (.tmp 74) ?_ _ ?_ _ LL.out ?_); (· rfl); (· rfl)); go_big_quiet_on; simp only [Act.put, List.setIfInBounds_toArray, List.set_cons_succ, List.set_cons_zero]))
        repeat (go_big_quiet_step ((intro _; rfl)))
        refine wpQuiet_nil ?_
        intro y hy
        go_wp2
        go_ret
        exact ⟨by rw [← HM.out]; rfl, HX.out.trans ((below_trans HB1.out hy).mono HX.out.size)⟩
      cases eU
      · refine Ascii.wp_region_quiet_below (by kernel_rfl) (by kernel_rfl) ?_
        iterate 3 (go_big_quiet_step ((intro _; rfl)))
        (first | go_big_quiet_skip | ((go_big_quiet_want; (with_reducible refine Host.quiet_load (o := ⟨some 36, .load 9 (.tmp 35), _, _, _, _⟩) 9 (.tmp 35) ?_ _ ?_ _ LQ.out ?_); (· rfl); (· rfl)); go_big_quiet_on; simp only [Act.put, List.setIfInBounds_toArray, List.set_cons_succ, List.set_cons_zero]))
        go_big_quiet_step ((intro hu; go_at_call 80; exact (CF.out _).mono fun e u' h => ⟨h.1, h.2 ▸ hu⟩))
        iterate 1 (go_big_quiet_step ((intro _; rfl)))
        (first | go_big_quiet_skip | ((go_big_quiet_want; (with_reducible refine Host.quiet_load (o := ⟨some 39, .load 9 (.tmp 38), _, _, _, _⟩) 9 (.tmp 38) ?_ _ ?_ _ LQ.out ?_); (· rfl); (· rfl)); go_big_quiet_on; simp only [Act.put, List.setIfInBounds_toArray, List.set_cons_succ, List.set_cons_zero]))
        iterate 5 (go_big_quiet_step ((intro _; rfl)))
        (first | go_big_quiet_skip | ((go_big_quiet_want; (with_reducible refine Host.quiet_load (o := ⟨some 45, .load 9 (.tmp 44), _, _, _, _⟩) 9 (.tmp 44) ?_ _ ?_ _ LQ.out ?_); (· rfl); (· rfl)); go_big_quiet_on; simp only [Act.put, List.setIfInBounds_toArray, List.set_cons_succ, List.set_cons_zero]))
        go_big_quiet_step ((intro hu; go_at_call 80; exact (CG.out _).mono fun e u' h => ⟨h.1, h.2 ▸ hu⟩))
        iterate 1 (go_big_quiet_step ((intro _; rfl)))
        (first | go_big_quiet_skip | ((go_big_quiet_want; (with_reducible refine Host.quiet_load (o := ⟨some 48, .load 9 (.tmp 47), _, _, _, _⟩) 9 (.tmp 47) ?_ _ ?_ _ LQ.out ?_); (· rfl); (· rfl)); go_big_quiet_on; simp only [Act.put, List.setIfInBounds_toArray, List.set_cons_succ, List.set_cons_zero]))
        iterate 5 (go_big_quiet_step ((intro _; rfl)))
        (first | go_big_quiet_skip | ((go_big_quiet_want; (with_reducible refine Host.quiet_load (o := ⟨some 54, .load 3 (.tmp 53), _, _, _, _⟩) 3 (.tmp 53) ?_ _ ?_ _ LP.out ?_); (· rfl); (· rfl)); go_big_quiet_on; simp only [Act.put, List.setIfInBounds_toArray, List.set_cons_succ, List.set_cons_zero]))
        iterate 4 (go_big_quiet_step ((intro _; rfl)))
        (first | go_big_quiet_skip | ((go_big_quiet_want; (with_reducible refine Host.quiet_load (o := ⟨some 59, .load 24 (.tmp 58), _, _, _, _⟩) 24 (.tmp 58) ?_ _ ?_ _ LH.out ?_); (· rfl); (· rfl)); go_big_quiet_on; simp only [Act.put, List.setIfInBounds_toArray, List.set_cons_succ, List.set_cons_zero]))
        iterate 5 (go_big_quiet_step ((intro _; rfl)))
        (first | go_big_quiet_skip | ((go_big_quiet_want; (with_reducible refine Host.quiet_load (o := ⟨some 65, .load 9 (.tmp 64), _, _, _, _⟩) 9 (.tmp 64) ?_ _ ?_ _ LA.out ?_); (· rfl); (· rfl)); go_big_quiet_on; simp only [Act.put, List.setIfInBounds_toArray, List.set_cons_succ, List.set_cons_zero]))
        iterate 4 (go_big_quiet_step ((intro _; rfl)))
        (first | go_big_quiet_skip | ((go_big_quiet_want; (with_reducible refine Host.quiet_load (o := ⟨some 70, .load 9 (.tmp 69), _, _, _, _⟩) 9 (.tmp 69) ?_ _ ?_ _ LB.out ?_); (· rfl); (· rfl)); go_big_quiet_on; simp only [Act.put, List.setIfInBounds_toArray, List.set_cons_succ, List.set_cons_zero]))
        iterate 4 (go_big_quiet_step ((intro _; rfl)))
        (first | go_big_quiet_skip | ((go_big_quiet_want; (with_reducible refine Host.quiet_load (o := ⟨some 75, .load 25 (.tmp 74), _, _, _, _⟩) 25 (.tmp 74) ?_ _ ?_ _ LL.out ?_); (· rfl); (· rfl)); go_big_quiet_on; simp only [Act.put, List.setIfInBounds_toArray, List.set_cons_succ, List.set_cons_zero]))
        repeat (go_big_quiet_step ((intro _; rfl)))
        refine wpQuiet_nil ?_
        intro y hy
        go_wp2
        go_ret
        exact ⟨by rw [← HM.out]; rfl, HX.out.trans ((below_trans HB1.out hy).mono HX.out.size)⟩
      cases eS
      · refine Ascii.wp_region_quiet_below (by kernel_rfl) (by kernel_rfl) ?_
        iterate 3 (go_big_quiet_step ((intro _; rfl)))
        (first | go_big_quiet_skip | ((go_big_quiet_want; (with_reducible refine Host.quiet_load (o := ⟨some 36, .load 9 (.tmp 35), _, _, _, _⟩) 9 (.tmp 35) ?_ _ ?_ _ LQ.out ?_); (· rfl); (· rfl)); go_big_quiet_on; simp only [Act.put, List.setIfInBounds_toArray, List.set_cons_succ, List.set_cons_zero]))
        go_big_quiet_step ((intro hu; go_at_call 80; exact (CF.out _).mono fun e u' h => ⟨h.1, h.2 ▸ hu⟩))
        iterate 1 (go_big_quiet_step ((intro _; rfl)))
        (first | go_big_quiet_skip | ((go_big_quiet_want; (with_reducible refine Host.quiet_load (o := ⟨some 39, .load 9 (.tmp 38), _, _, _, _⟩) 9 (.tmp 38) ?_ _ ?_ _ LQ.out ?_); (· rfl); (· rfl)); go_big_quiet_on; simp only [Act.put, List.setIfInBounds_toArray, List.set_cons_succ, List.set_cons_zero]))
        iterate 5 (go_big_quiet_step ((intro _; rfl)))
        (first | go_big_quiet_skip | ((go_big_quiet_want; (with_reducible refine Host.quiet_load (o := ⟨some 45, .load 9 (.tmp 44), _, _, _, _⟩) 9 (.tmp 44) ?_ _ ?_ _ LQ.out ?_); (· rfl); (· rfl)); go_big_quiet_on; simp only [Act.put, List.setIfInBounds_toArray, List.set_cons_succ, List.set_cons_zero]))
        go_big_quiet_step ((intro hu; go_at_call 80; exact (CG.out _).mono fun e u' h => ⟨h.1, h.2 ▸ hu⟩))
        iterate 1 (go_big_quiet_step ((intro _; rfl)))
        (first | go_big_quiet_skip | ((go_big_quiet_want; (with_reducible refine Host.quiet_load (o := ⟨some 48, .load 9 (.tmp 47), _, _, _, _⟩) 9 (.tmp 47) ?_ _ ?_ _ LQ.out ?_); (· rfl); (· rfl)); go_big_quiet_on; simp only [Act.put, List.setIfInBounds_toArray, List.set_cons_succ, List.set_cons_zero]))
        iterate 5 (go_big_quiet_step ((intro _; rfl)))
        (first | go_big_quiet_skip | ((go_big_quiet_want; (with_reducible refine Host.quiet_load (o := ⟨some 54, .load 3 (.tmp 53), _, _, _, _⟩) 3 (.tmp 53) ?_ _ ?_ _ LP.out ?_); (· rfl); (· rfl)); go_big_quiet_on; simp only [Act.put, List.setIfInBounds_toArray, List.set_cons_succ, List.set_cons_zero]))
        iterate 4 (go_big_quiet_step ((intro _; rfl)))
        (first | go_big_quiet_skip | ((go_big_quiet_want; (with_reducible refine Host.quiet_load (o := ⟨some 59, .load 24 (.tmp 58), _, _, _, _⟩) 24 (.tmp 58) ?_ _ ?_ _ LH.out ?_); (· rfl); (· rfl)); go_big_quiet_on; simp only [Act.put, List.setIfInBounds_toArray, List.set_cons_succ, List.set_cons_zero]))
        iterate 5 (go_big_quiet_step ((intro _; rfl)))
        (first | go_big_quiet_skip | ((go_big_quiet_want; (with_reducible refine Host.quiet_load (o := ⟨some 65, .load 9 (.tmp 64), _, _, _, _⟩) 9 (.tmp 64) ?_ _ ?_ _ LA.out ?_); (· rfl); (· rfl)); go_big_quiet_on; simp only [Act.put, List.setIfInBounds_toArray, List.set_cons_succ, List.set_cons_zero]))
        iterate 4 (go_big_quiet_step ((intro _; rfl)))
        (first | go_big_quiet_skip | ((go_big_quiet_want; (with_reducible refine Host.quiet_load (o := ⟨some 70, .load 9 (.tmp 69), _, _, _, _⟩) 9 (.tmp 69) ?_ _ ?_ _ LB.out ?_); (· rfl); (· rfl)); go_big_quiet_on; simp only [Act.put, List.setIfInBounds_toArray, List.set_cons_succ, List.set_cons_zero]))
        iterate 4 (go_big_quiet_step ((intro _; rfl)))
        (first | go_big_quiet_skip | ((go_big_quiet_want; (with_reducible refine Host.quiet_load (o := ⟨some 75, .load 25 (.tmp 74), _, _, _, _⟩) 25 (.tmp 74) ?_ _ ?_ _ LL.out ?_); (· rfl); (· rfl)); go_big_quiet_on; simp only [Act.put, List.setIfInBounds_toArray, List.set_cons_succ, List.set_cons_zero]))
        repeat (go_big_quiet_step ((intro _; rfl)))
        refine wpQuiet_nil ?_
        intro y hy
        go_wp2
        go_ret
        exact ⟨by rw [← HM.out]; rfl, HX.out.trans ((below_trans HB1.out hy).mono HX.out.size)⟩
      cases eL
      · refine Ascii.wp_region_quiet_below (by kernel_rfl) (by kernel_rfl) ?_
        iterate 3 (go_big_quiet_step ((intro _; rfl)))
        (first | go_big_quiet_skip | ((go_big_quiet_want; (with_reducible refine Host.quiet_load (o := ⟨some 36, .load 9 (.tmp 35), _, _, _, _⟩) 9 (.tmp 35) ?_ _ ?_ _ LQ.out ?_); (· rfl); (· rfl)); go_big_quiet_on; simp only [Act.put, List.setIfInBounds_toArray, List.set_cons_succ, List.set_cons_zero]))
        go_big_quiet_step ((intro hu; go_at_call 80; exact (CF.out _).mono fun e u' h => ⟨h.1, h.2 ▸ hu⟩))
        iterate 1 (go_big_quiet_step ((intro _; rfl)))
        (first | go_big_quiet_skip | ((go_big_quiet_want; (with_reducible refine Host.quiet_load (o := ⟨some 39, .load 9 (.tmp 38), _, _, _, _⟩) 9 (.tmp 38) ?_ _ ?_ _ LQ.out ?_); (· rfl); (· rfl)); go_big_quiet_on; simp only [Act.put, List.setIfInBounds_toArray, List.set_cons_succ, List.set_cons_zero]))
        iterate 5 (go_big_quiet_step ((intro _; rfl)))
        (first | go_big_quiet_skip | ((go_big_quiet_want; (with_reducible refine Host.quiet_load (o := ⟨some 45, .load 9 (.tmp 44), _, _, _, _⟩) 9 (.tmp 44) ?_ _ ?_ _ LQ.out ?_); (· rfl); (· rfl)); go_big_quiet_on; simp only [Act.put, List.setIfInBounds_toArray, List.set_cons_succ, List.set_cons_zero]))
        go_big_quiet_step ((intro hu; go_at_call 80; exact (CG.out _).mono fun e u' h => ⟨h.1, h.2 ▸ hu⟩))
        iterate 1 (go_big_quiet_step ((intro _; rfl)))
        (first | go_big_quiet_skip | ((go_big_quiet_want; (with_reducible refine Host.quiet_load (o := ⟨some 48, .load 9 (.tmp 47), _, _, _, _⟩) 9 (.tmp 47) ?_ _ ?_ _ LQ.out ?_); (· rfl); (· rfl)); go_big_quiet_on; simp only [Act.put, List.setIfInBounds_toArray, List.set_cons_succ, List.set_cons_zero]))
        iterate 5 (go_big_quiet_step ((intro _; rfl)))
        (first | go_big_quiet_skip | ((go_big_quiet_want; (with_reducible refine Host.quiet_load (o := ⟨some 54, .load 3 (.tmp 53), _, _, _, _⟩) 3 (.tmp 53) ?_ _ ?_ _ LP.out ?_); (· rfl); (· rfl)); go_big_quiet_on; simp only [Act.put, List.setIfInBounds_toArray, List.set_cons_succ, List.set_cons_zero]))
        iterate 4 (go_big_quiet_step ((intro _; rfl)))
        (first | go_big_quiet_skip | ((go_big_quiet_want; (with_reducible refine Host.quiet_load (o := ⟨some 59, .load 24 (.tmp 58), _, _, _, _⟩) 24 (.tmp 58) ?_ _ ?_ _ LH.out ?_); (· rfl); (· rfl)); go_big_quiet_on; simp only [Act.put, List.setIfInBounds_toArray, List.set_cons_succ, List.set_cons_zero]))
        iterate 5 (go_big_quiet_step ((intro _; rfl)))
        (first | go_big_quiet_skip | ((go_big_quiet_want; (with_reducible refine Host.quiet_load (o := ⟨some 65, .load 9 (.tmp 64), _, _, _, _⟩) 9 (.tmp 64) ?_ _ ?_ _ LA.out ?_); (· rfl); (· rfl)); go_big_quiet_on; simp only [Act.put, List.setIfInBounds_toArray, List.set_cons_succ, List.set_cons_zero]))
        iterate 4 (go_big_quiet_step ((intro _; rfl)))
        (first | go_big_quiet_skip | ((go_big_quiet_want; (with_reducible refine Host.quiet_load (o := ⟨some 70, .load 9 (.tmp 69), _, _, _, _⟩) 9 (.tmp 69) ?_ _ ?_ _ LB.out ?_); (· rfl); (· rfl)); go_big_quiet_on; simp only [Act.put, List.setIfInBounds_toArray, List.set_cons_succ, List.set_cons_zero]))
        iterate 4 (go_big_quiet_step ((intro _; rfl)))
        (first | go_big_quiet_skip | ((go_big_quiet_want; (with_reducible refine Host.quiet_load (o := ⟨some 75, .load 25 (.tmp 74), _, _, _, _⟩) 25 (.tmp 74) ?_ _ ?_ _ LL.out ?_); (· rfl); (· rfl)); go_big_quiet_on; simp only [Act.put, List.setIfInBounds_toArray, List.set_cons_succ, List.set_cons_zero]))
        repeat (go_big_quiet_step ((intro _; rfl)))
        refine wpQuiet_nil ?_
        intro y hy
        go_wp2
        go_ret
        exact ⟨by rw [← HM.out]; rfl, HX.out.trans ((below_trans HB1.out hy).mono HX.out.size)⟩
      refine Ascii.wp_region_quiet_below (by kernel_rfl) (by kernel_rfl) ?_
      iterate 3 (go_big_quiet_step ((intro _; rfl)))
      (first | go_big_quiet_skip | ((go_big_quiet_want; (with_reducible refine Host.quiet_load (o := ⟨some 36, .load 9 (.tmp 35), _, _, _, _⟩) 9 (.tmp 35) ?_ _ ?_ _ LQ.out ?_); (· rfl); (· rfl)); go_big_quiet_on; simp only [Act.put, List.setIfInBounds_toArray, List.set_cons_succ, List.set_cons_zero]))
      go_big_quiet_step ((intro hu; go_at_call 80; exact (CF.out _).mono fun e u' h => ⟨h.1, h.2 ▸ hu⟩))
      iterate 1 (go_big_quiet_step ((intro _; rfl)))
      (first | go_big_quiet_skip | ((go_big_quiet_want; (with_reducible refine Host.quiet_load (o := ⟨some 39, .load 9 (.tmp 38), _, _, _, _⟩) 9 (.tmp 38) ?_ _ ?_ _ LQ.out ?_); (· rfl); (· rfl)); go_big_quiet_on; simp only [Act.put, List.setIfInBounds_toArray, List.set_cons_succ, List.set_cons_zero]))
      iterate 5 (go_big_quiet_step ((intro _; rfl)))
      (first | go_big_quiet_skip | ((go_big_quiet_want; (with_reducible refine Host.quiet_load (o := ⟨some 45, .load 9 (.tmp 44), _, _, _, _⟩) 9 (.tmp 44) ?_ _ ?_ _ LQ.out ?_); (· rfl); (· rfl)); go_big_quiet_on; simp only [Act.put, List.setIfInBounds_toArray, List.set_cons_succ, List.set_cons_zero]))
      go_big_quiet_step ((intro hu; go_at_call 80; exact (CG.out _).mono fun e u' h => ⟨h.1, h.2 ▸ hu⟩))
      iterate 1 (go_big_quiet_step ((intro _; rfl)))
      (first | go_big_quiet_skip | ((go_big_quiet_want; (with_reducible refine Host.quiet_load (o := ⟨some 48, .load 9 (.tmp 47), _, _, _, _⟩) 9 (.tmp 47) ?_ _ ?_ _ LQ.out ?_); (· rfl); (· rfl)); go_big_quiet_on; simp only [Act.put, List.setIfInBounds_toArray, List.set_cons_succ, List.set_cons_zero]))
      iterate 5 (go_big_quiet_step ((intro _; rfl)))
      (first | go_big_quiet_skip | ((go_big_quiet_want; (with_reducible refine Host.quiet_load (o := ⟨some 54, .load 3 (.tmp 53), _, _, _, _⟩) 3 (.tmp 53) ?_ _ ?_ _ LP.out ?_); (· rfl); (· rfl)); go_big_quiet_on; simp only [Act.put, List.setIfInBounds_toArray, List.set_cons_succ, List.set_cons_zero]))
      iterate 4 (go_big_quiet_step ((intro _; rfl)))
      (first | go_big_quiet_skip | ((go_big_quiet_want; (with_reducible refine Host.quiet_load (o := ⟨some 59, .load 24 (.tmp 58), _, _, _, _⟩) 24 (.tmp 58) ?_ _ ?_ _ LH.out ?_); (· rfl); (· rfl)); go_big_quiet_on; simp only [Act.put, List.setIfInBounds_toArray, List.set_cons_succ, List.set_cons_zero]))
      iterate 5 (go_big_quiet_step ((intro _; rfl)))
      (first | go_big_quiet_skip | ((go_big_quiet_want; (with_reducible refine Host.quiet_load (o := ⟨some 65, .load 9 (.tmp 64), _, _, _, _⟩) 9 (.tmp 64) ?_ _ ?_ _ LA.out ?_); (· rfl); (· rfl)); go_big_quiet_on; simp only [Act.put, List.setIfInBounds_toArray, List.set_cons_succ, List.set_cons_zero]))
      iterate 4 (go_big_quiet_step ((intro _; rfl)))
      (first | go_big_quiet_skip | ((go_big_quiet_want; (with_reducible refine Host.quiet_load (o := ⟨some 70, .load 9 (.tmp 69), _, _, _, _⟩) 9 (.tmp 69) ?_ _ ?_ _ LB.out ?_); (· rfl); (· rfl)); go_big_quiet_on; simp only [Act.put, List.setIfInBounds_toArray, List.set_cons_succ, List.set_cons_zero]))
      iterate 4 (go_big_quiet_step ((intro _; rfl)))
      (first | go_big_quiet_skip | ((go_big_quiet_want; (with_reducible refine Host.quiet_load (o := ⟨some 75, .load 25 (.tmp 74), _, _, _, _⟩) 25 (.tmp 74) ?_ _ ?_ _ LL.out ?_); (· rfl); (· rfl)); go_big_quiet_on; simp only [Act.put, List.setIfInBounds_toArray, List.set_cons_succ, List.set_cons_zero]))
      repeat (go_big_quiet_step ((intro _; rfl)))
      refine wpQuiet_nil ?_
      intro y hy
      go_wp2
      go_ret
      exact ⟨by rw [← HM.out]; rfl, HX.out.trans ((below_trans HB1.out hy).mono HX.out.size)⟩
  have q0 : (z == 0) = false := beq_eq_false_iff_ne.2 z0
  have hO : O = false := by cases O with | false => rfl | true => exact absurd (HOZ.out rfl) z0
  subst hO
  have hm := HMU.out
  rw [if_neg z0, Bool.true_and, HMW.out] at hm
  have HM := Lib.hid hm
  clear HOZ z0 HMU HMO HMW hm CR CF CG HEQ K63 K35 KP1 KeU KeS KeL
  have hh := HU1.out
  go_wp2_with ((with_reducible refine wp_load24u (o := ⟨some 80, .load 24 (.tmp 79), _, _, _, _⟩) ?_ (.tmp 79) ?_ w.heap.size ?_ u (.slice a u.path.length cap) H8.out hh ?_); (· rfl); (· rfl); (· rfl); simp only [Act.put, List.setIfInBounds_toArray, List.set_cons_zero, List.set_cons_succ])
  clear hh
  refine (CH.out _).mono ?_
  rintro e X2 ⟨rfl, hB⟩
  have HB2 := Lib.hid (below_trans HB1.out hB)
  have HU2 := Lib.hid (HU1.out.later hB)
  have HS2 := Lib.hid (HS1.out.later hB)
  clear HB1 HU1 HS1
  clear hB CH
  have c1 := HU2.out.cell 1
  rw [(cU_at u _ H8.out).2.1, KA.out] at c1
  have c2 := HU2.out.cell 2
  rw [(cU_at u _ H8.out).2.2.1, KB.out] at c2
  have c15 := HU2.out.cell 15
  rw [(cU_at u _ H8.out).2.2.2.2.2.1] at c15
  go_wp2_with fail
  refine (CU.out _).mono ?_
  rintro e X ⟨rfl, rfl⟩
  go_wp2_with fail
  refine (CV.out _).mono ?_
  rintro e X ⟨rfl, rfl⟩
  go_wp2_with fail
  clear c1 c2 c15 q0
  refine (CP.out _ HS2.out).mono ?_
  rintro e X3 ⟨rfl, hB⟩
  have HB3 := Lib.hid (below_trans HB2.out hB)
  have HU3 := Lib.hid (HU2.out.later hB)
  have HS3 := Lib.hid (HS2.out.later hB)
  clear HB2 HU2 HS2
  clear hB CP CU CV
  have c16 := HU3.out.cell 16
  rw [(cU_at u _ H8.out).2.2.2.2.2.2.1, KQ.out] at c16
  have c14 := HU3.out.cell 14
  rw [(cU_at u _ H8.out).2.2.2.2.1] at c14
  have heQ := KeQ.out
  have hg1 := Kg1.out
  have hg2 := Kg2.out
  have hg3 := Kg3.out
  clear KeQ Kg1 Kg2 Kg3 KQ KA KB KN
  cases bM
  · go_wp2
    go_ret
    exact ⟨by rw [← HM.out]; rfl, HX.out.trans (HB3.out.mono HX.out.size)⟩
  cases bU
  · go_wp2
    go_ret
    exact ⟨by rw [← HM.out]; rfl, HX.out.trans (HB3.out.mono HX.out.size)⟩
  cases bS
  · go_wp2
    go_ret
    exact ⟨by rw [← HM.out]; rfl, HX.out.trans (HB3.out.mono HX.out.size)⟩
  cases bP
  · go_wp2
    go_ret
    exact ⟨by rw [← HM.out]; rfl, HX.out.trans (HB3.out.mono HX.out.size)⟩
  cases eQ
  · go_wp2
    go_ret
    exact ⟨by rw [← HM.out]; rfl, HX.out.trans (HB3.out.mono HX.out.size)⟩
  cases g1
  · go_wp2
    go_ret
    exact ⟨by rw [← HM.out]; rfl, HX.out.trans (HB3.out.mono HX.out.size)⟩
  cases g2
  · go_wp2
    go_ret
    exact ⟨by rw [← HM.out]; rfl, HX.out.trans (HB3.out.mono HX.out.size)⟩
  cases g3
  · go_wp2
    go_ret
    exact ⟨by rw [← HM.out]; rfl, HX.out.trans (HB3.out.mono HX.out.size)⟩
  go_wp2
  go_ret
  exact ⟨by rw [← HM.out]; rfl, HX.out.trans (HB3.out.mono HX.out.size)⟩

end Go.Proofs.YtlkikfdbjpjpaaaGreatDoor.Url

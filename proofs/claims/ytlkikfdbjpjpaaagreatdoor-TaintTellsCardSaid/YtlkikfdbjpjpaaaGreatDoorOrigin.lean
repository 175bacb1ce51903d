/-
  An address's origin.
  Which origins may be, which are the same.
  An origin's text; what is to be trusted, what has one origin.
  An origin among the arguments, opened.
-/
import Derived.Test.YtlkikfdbjpjpaaaGreatDoorOObj
import Derived.Test.YtlkikfdbjpjpaaaGreatDoorHOpen
namespace Go.Proofs.YtlkikfdbjpjpaaaGreatDoor.Origin
set_option linter.unusedSimpArgs false
set_option linter.unusedVariables false
set_option maxRecDepth 100000


open Go.RowKit Go.Shelf

open Url Show

open Host (H HostAt none0 mayH showH localH)

open Six (arr RowAt zero8)

open Path (Strs)

set_option maxRecDepth 100000

theorem ret_o {fn : Func} {d : Tmp} (h : fn.results = #[.cell d 30]) {tmps : Array Value} {W : World} (g : Nat) (o : O) (h8 : o.h.p.length = 8) (hp : tmps.getD d undef = .pointer (some ⟨g, 0, none⟩)) (hr : OAt W g o) :
    (results fn tmps).run Tryz.prog W = .ok (.agg (cO o)) W := by
  have hp' : tmps[d]?.getD undef = .pointer (some ⟨g, 0, none⟩) := by simpa using hp
  simp [results, h, hp', asAddr, hr.load h8]

theorem host_same {w : World} {g : Nat} {h : H} (a : HostAt w g h) : HostAt (w.setCell ⟨g, 1, none⟩ (.string h.s)) g h := by
  have := heap_set a 1 (.string h.s)
  unfold HostAt
  rw [this]
  rfl

theorem host_free {w : World} {g : Nat} {h : H} (a : HostAt w g h) (j : Nat) : w.frozen? ⟨g, j, none⟩ = false := by
  unfold World.frozen?
  simp only
  rw [show w.heap[g]? = some (.cells h.cells 24 (0, 0)) from a]
  simp

theorem o_set {w : World} {g k j : Nat} {o : O} (a : OAt w g o) (h : k ≠ g) (v : Value) : OAt (w.setCell ⟨k, j, none⟩ v) g o := (set_other w k j v h).trans a

theorem u_set {w : World} {g k j : Nat} {u : U} {pv : Value} (a : UrlAt w g u pv) (h : k ≠ g) (v : Value) : UrlAt (w.setCell ⟨k, j, none⟩ v) g u pv := (set_other w k j v h).trans a

theorem run_build_of {P : Program} {o : Oper} {a : Act} {w : World} {t : TypeId} {ps : Array (Nat × Operand)} {cs : Array Value} (ho : o.op = .build t ps) (h : P.built t (ps.map fun x => (x.1, a.eval x.2)).toList = some cs) : (execOp a.eval o).run P w = .ok (.value (.agg cs)) w := by
  unfold execOp
  simp only [ho, Sem.run_bind, run_build w t _ cs h, Result.andThen_ok]
  rfl

theorem clone_at (l : T) (hl : l.length ≤ 1000000) (w : World) : Calls Tryz.prog 40 #[.string (tb l)] w fun e w' => e = .returned (.string (tb l)) ∧ Below w.heap.size w w' := Host.clone_any (tb l) (by rw [tb_size]; exact hl) w

theorem web_at (l : T) (z : Int) (hz : webI l = z) (w : World) : Calls Tryz.prog 39 #[.string (tb l)] w fun e w' => e = .returned (.int .i64 z) ∧ w = w' := web_any (tb l) z (by rw [tb_list]; exact hz) w

set_option maxHeartbeats 16000000 in
theorem of_any (u : U) (pv : Value) (hf : Fit u) (o : O) (ho : ofU u = o) (m : Int) (w : World) (hm : Six.At m w) (hs : Strs w pv u.path) :
    Calls Tryz.prog 23 #[.agg (cU u pv)] w fun e w' => e = .returned (.agg (cO o)) ∧ Below w.heap.size w w' := by
  have H8 := hf.h8
  have h1 := UrlAt.new w u pv
  have hb1 := (Below.refl w.heap.size w).alloc (Nat.le_refl _) (.cells (cU u pv) 27)
  have hs1 : (w.alloc (.cells (cU u pv) 27)).heap.size = w.heap.size + 1 := Array.size_push _
  have h2 := zero_at (w.alloc (.cells (cU u pv) 27))
  rw [hs1] at h2
  have hB0 : Below w.heap.size w ((w.alloc (.cells (cU u pv) 27)).alloc (.cells #[.bool false, .string ⟨#[]⟩, .int .i64 0, .string ⟨#[]⟩, .int .i64 0, .int .i64 0, .int .i64 0, .int .i64 0, .int .i64 0, .int .i64 0, .int .i64 0, .int .i64 0, .int .i64 0, .int .i64 0] 30)) := hb1.alloc (by omega) (.cells #[.bool false, .string ⟨#[]⟩, .int .i64 0, .string ⟨#[]⟩, .int .i64 0, .int .i64 0, .int .i64 0, .int .i64 0, .int .i64 0, .int .i64 0, .int .i64 0, .int .i64 0, .int .i64 0, .int .i64 0] 30)
  have hU : UrlAt ((w.alloc (.cells (cU u pv) 27)).alloc (.cells #[.bool false, .string ⟨#[]⟩, .int .i64 0, .string ⟨#[]⟩, .int .i64 0, .int .i64 0, .int .i64 0, .int .i64 0, .int .i64 0, .int .i64 0, .int .i64 0, .int .i64 0, .int .i64 0, .int .i64 0] 30)) w.heap.size u pv := h1.past (.cells #[.bool false, .string ⟨#[]⟩, .int .i64 0, .string ⟨#[]⟩, .int .i64 0, .int .i64 0, .int .i64 0, .int .i64 0, .int .i64 0, .int .i64 0, .int .i64 0, .int .i64 0, .int .i64 0, .int .i64 0] 30)
  have HB0 := Lib.hid hB0
  have HU0 := Lib.hid hU
  have HZ0 := Lib.hid h2
  have HM := Lib.hid (hm.later hB0)
  have HS := Lib.hid (hs.later hB0)
  obtain ⟨b, hb⟩ : ∃ b, mayU u = b := ⟨_, rfl⟩
  obtain ⟨z, hz⟩ : ∃ z, webI u.sch = z := ⟨_, rfl⟩
  have CM := Lib.hid (fun v hm hs => Url.may_any u pv hf b hb m v hm hs)
  have CW := Lib.hid (fun v => web_at u.sch z hz v)
  have CH := Lib.hid (fun v => Host.clone_any u.h.s (by have := hf.hs; omega) v)
  have CS := Lib.hid (fun v => clone_at u.sch hf.sch v)
  have HN := Lib.hid (show (b = false ∨ z = 0) → o = null0 from fun h => by
    rw [← ho]
    refine of_not fun k => ?_
    rcases h with h | h
    · rw [hb, h] at k; cases k.1
    · exact k.2 (hz.trans h))
  have HO := Lib.hid (show b = true → z ≠ 0 → o = ⟨false, u.sch, u.h, u.port⟩ from fun h k => by rw [← ho]; exact of_web (hb.trans h) (fun e => k (hz.symm.trans e)))
  clear h1 h2 hb1 hs1 hB0 hb hz ho hm hs
  go_enter Tryz.func23, Tryz.ntmps23
  go_wp2_with ((with_reducible refine wp_load27 (o := ⟨some 4, .load 27 (.tmp 1), _, _, _, _⟩) ?_ (.tmp 1) ?_ w.heap.size ?_ u pv H8 hU ?_); (· rfl); (· rfl); (· rfl); simp only [Act.put, List.setIfInBounds_toArray, List.set_cons_zero, List.set_cons_succ])
  clear hU
  generalize ((w.alloc (.cells (cU u pv) 27)).alloc (.cells #[.bool false, .string ⟨#[]⟩, .int .i64 0, .string ⟨#[]⟩, .int .i64 0, .int .i64 0, .int .i64 0, .int .i64 0, .int .i64 0, .int .i64 0, .int .i64 0, .int .i64 0, .int .i64 0, .int .i64 0] 30)) = W at HB0 HU0 HZ0 HM HS ⊢
  refine (CM.out _ HM.out HS.out).mono ?_
  rintro e u1 ⟨rfl, hB⟩
  have HB1 := Lib.hid (Ascii.below2 HB0.out hB)
  have HU1 := Lib.hid (HU0.out.later hB)
  have HZ1 := Lib.hid (HZ0.out.later hB)
  clear hB CM HB0 HU0 HZ0 HM HS
  have hz1 := HZ1.out
  cases b
  · obtain rfl := HN.out (.inl (by first | rfl | trivial))
    go_wp2_with (first
      | ((with_reducible refine wp_build29n (o := ⟨some 13, .build 30 #[(0, .const (.bool true))], _, _, _, _⟩) ?_ (.const (.bool true)) ?_ ?_ ?_); (· rfl); (· rfl); (· rfl); simp only [Act.put, List.setIfInBounds_toArray, List.set_cons_zero, List.set_cons_succ])
      | ((with_reducible refine wp_store29 (o := ⟨none, .store 30 (.tmp 2) (.tmp 13), _, _, _, _⟩) ?_ (.tmp 2) (.tmp 13) ?_ (w.heap.size + 1) ?_ null0 ?_ rfl zeroO rfl hz1 ?_); (· rfl); (· rfl); (· rfl); (· rfl); simp only [Act.put, List.setIfInBounds_toArray, List.set_cons_zero, List.set_cons_succ]))
    exact bodyPost_ret (ret_o rfl (w.heap.size + 1) null0 rfl rfl (hz1.row null0)) rfl ⟨rfl, below_row HB1.out (Nat.le_succ _) _⟩
  have c0 := HU1.out.cell 0
  rw [(cU_at u pv H8).1] at c0
  go_wp2_with fail
  refine (CW.out _).mono ?_
  rintro e X ⟨rfl, rfl⟩
  clear CW c0
  by_cases h0 : z = 0
  · subst h0
    obtain rfl := HN.out (.inr (by first | rfl | trivial))
    go_wp2_with (first
      | ((with_reducible refine wp_build29n (o := ⟨some 13, .build 30 #[(0, .const (.bool true))], _, _, _, _⟩) ?_ (.const (.bool true)) ?_ ?_ ?_); (· rfl); (· rfl); (· rfl); simp only [Act.put, List.setIfInBounds_toArray, List.set_cons_zero, List.set_cons_succ])
      | ((with_reducible refine wp_store29 (o := ⟨none, .store 30 (.tmp 2) (.tmp 13), _, _, _, _⟩) ?_ (.tmp 2) (.tmp 13) ?_ (w.heap.size + 1) ?_ null0 ?_ rfl zeroO rfl hz1 ?_); (· rfl); (· rfl); (· rfl); (· rfl); simp only [Act.put, List.setIfInBounds_toArray, List.set_cons_zero, List.set_cons_succ]))
    exact bodyPost_ret (ret_o rfl (w.heap.size + 1) null0 rfl rfl (hz1.row null0)) rfl ⟨rfl, below_row HB1.out (Nat.le_succ _) _⟩
  have q0 : (z == 0) = false := beq_eq_false_iff_ne.2 h0
  have ho := HO.out (by first | rfl | trivial) h0
  clear HO HN
  have hu1 := HU1.out
  have hnew : HostAt (u1.alloc (.cells #[.int .i64 0, .string ⟨#[]⟩, .int .i64 0, .int .i64 0, .int .i64 0, .int .i64 0, .int .i64 0, .int .i64 0, .int .i64 0, .int .i64 0, .int .i64 0] 24)) u1.heap.size none0 := HostAt.new u1 none0
  have HH2 := Lib.hid (hnew.row u.h)
  have HC2 := Lib.hid (Host.below_row ((Below.refl u1.heap.size u1).alloc (Nat.le_refl _) (.cells #[.int .i64 0, .string ⟨#[]⟩, .int .i64 0, .int .i64 0, .int .i64 0, .int .i64 0, .int .i64 0, .int .i64 0, .int .i64 0, .int .i64 0, .int .i64 0] 24)) (Nat.le_refl _) u.h.cells)
  have c1 : ((u1.alloc (.cells #[.int .i64 0, .string ⟨#[]⟩, .int .i64 0, .int .i64 0, .int .i64 0, .int .i64 0, .int .i64 0, .int .i64 0, .int .i64 0, .int .i64 0, .int .i64 0] 24)).setRow u1.heap.size u.h.cells).cell? ⟨u1.heap.size, 1, none⟩ = some (.string u.h.s) := (HH2.out.cell 1).trans rfl
  go_wp2_with (first
    | ((with_reducible refine wp_load24u (o := ⟨some 15, .load 24 (.tmp 14), _, _, _, _⟩) ?_ (.tmp 14) ?_ w.heap.size ?_ u pv H8 hu1 ?_); (· rfl); (· rfl); (· rfl); simp only [Act.put, List.setIfInBounds_toArray, List.set_cons_zero, List.set_cons_succ])
    | ((with_reducible refine Host.wp_store24 (o := ⟨none, .store 24 (.tmp 3) (.tmp 15), _, _, _, _⟩) ?_ (.tmp 3) (.tmp 15) ?_ u1.heap.size ?_ u.h ?_ H8 none0 rfl hnew ?_); (· rfl); (· rfl); (· rfl); (· rfl); simp only [Act.put, List.setIfInBounds_toArray, List.set_cons_zero, List.set_cons_succ]))
  clear hu1 hnew c1 hz1
  have HU2 := Lib.hid (HU1.out.later HC2.out)
  have HZ2 := Lib.hid (HZ1.out.later HC2.out)
  have HB2 := Lib.hid (Ascii.below2 HB1.out HC2.out)
  have HL := Lib.hid (show w.heap.size + 1 < u1.heap.size from HZ1.out.lt)
  clear HC2 HU1 HZ1 HB1
  generalize (u1.alloc (.cells #[.int .i64 0, .string ⟨#[]⟩, .int .i64 0, .int .i64 0, .int .i64 0, .int .i64 0, .int .i64 0, .int .i64 0, .int .i64 0, .int .i64 0, .int .i64 0] 24)).setRow u1.heap.size u.h.cells = u2 at HH2 HU2 HZ2 HB2 ⊢
  generalize u1.heap.size = g at HH2 HL ⊢
  refine (CH.out _).mono ?_
  rintro e u3 ⟨rfl, hB⟩
  have HH3 := Lib.hid (HH2.out.later hB)
  have HU3 := Lib.hid (HU2.out.later hB)
  have HZ3 := Lib.hid (HZ2.out.later hB)
  have HB3 := Lib.hid (Ascii.below2 HB2.out hB)
  clear hB CH HH2 HU2 HZ2 HB2
  have c1 : u3.cell? ⟨g, 1, none⟩ = some (.string u.h.s) := (HH3.out.cell 1).trans rfl
  have f1 := host_free HH3.out 1
  have HH4 := Lib.hid (host_same HH3.out)
  have HU4 := Lib.hid (u_set HU3.out (by have := HL.out; omega : g ≠ w.heap.size) (j := 1) (.string u.h.s))
  have HZ4 := Lib.hid (o_set HZ3.out (by have := HL.out; omega : g ≠ w.heap.size + 1) (j := 1) (.string u.h.s))
  have HB4 := Lib.hid (below_set HB3.out (show w.heap.size ≤ g from by have := HL.out; omega) 1 (.string u.h.s))
  clear HH3 HU3 HZ3 HB3
  go_wp2_with fail
  clear c1 f1
  generalize u3.setCell ⟨g, 1, none⟩ (.string u.h.s) = V at HH4 HU4 HZ4 HB4 ⊢
  subst ho
  have hc : Below V.heap.size V V.drew := (Below.refl _ _).drew
  refine wp_region_held_drew (S := fun v => HostAt v g u.h ∧ UrlAt v w.heap.size u pv) (by kernel_rfl) ⟨HH4.out.later hc, HU4.out.later hc⟩ (fun hS => ?_)
  refine wpAnyH_take (i := 0) (oi := ⟨some 20, .fieldAddr 27 (.tmp 1) 0, _, _, _, _⟩) (v := .pointer (some ⟨w.heap.size, 0, none⟩)) rfl (by kernel_rfl) (by kernel_rfl) (by kernel_rfl) (fun _ _ _ h => h) (Or.inl ⟨by rfl, ?_⟩) (by assumption) ?_
  · (intro v hv; go_simp)
  simp only [Act.put, List.setIfInBounds_toArray, List.set_cons_zero, List.set_cons_succ]
  refine wpAnyH_take (i := 1) (oi := ⟨some 21, .load 9 (.tmp 20), _, _, _, _⟩) (v := .string (tb u.sch)) rfl (by kernel_rfl) (by kernel_rfl) (by kernel_rfl) (fun _ _ _ h => h) (Or.inl ⟨by rfl, ?_⟩) (by assumption) ?_
  · (exact fun v hv => run_load_of 9 (.tmp 20) ⟨w.heap.size, 0, none⟩ rfl (.string (tb u.sch)) (load9 ((hv.2.cell 0).trans (cU_at u pv H8).1)))
  simp only [Act.put, List.setIfInBounds_toArray, List.set_cons_zero, List.set_cons_succ]
  refine wpAnyH_take (i := 3) (oi := ⟨some 23, .load 24 (.tmp 3), _, _, _, _⟩) (v := .agg u.h.cells) rfl (by kernel_rfl) (by kernel_rfl) (by kernel_rfl) (fun _ _ _ h => h) (Or.inl ⟨by rfl, ?_⟩) (by assumption) ?_
  · (exact fun v hv => run_load_of 24 (.tmp 3) ⟨g, 0, none⟩ rfl (.agg u.h.cells) (hv.1.load H8))
  simp only [Act.put, List.setIfInBounds_toArray, List.set_cons_zero, List.set_cons_succ]
  refine wpAnyH_take (i := 4) (oi := ⟨some 24, .fieldAddr 27 (.tmp 1) 4, _, _, _, _⟩) (v := .pointer (some ⟨w.heap.size, 14, none⟩)) rfl (by kernel_rfl) (by kernel_rfl) (by kernel_rfl) (fun _ _ _ h => h) (Or.inl ⟨by rfl, ?_⟩) (by assumption) ?_
  · (intro v hv; go_simp)
  simp only [Act.put, List.setIfInBounds_toArray, List.set_cons_zero, List.set_cons_succ]
  refine wpAnyH_take (i := 5) (oi := ⟨some 25, .load 3 (.tmp 24), _, _, _, _⟩) (v := .int .i64 u.port) rfl (by kernel_rfl) (by kernel_rfl) (by kernel_rfl) (fun _ _ _ h => h) (Or.inl ⟨by rfl, ?_⟩) (by assumption) ?_
  · (exact fun v hv => run_load_of 3 (.tmp 24) ⟨w.heap.size, 14, none⟩ rfl (.int .i64 u.port) (load3 ((hv.2.cell 14).trans (cU_at u pv H8).2.2.2.2.1)))
  simp only [Act.put, List.setIfInBounds_toArray, List.set_cons_zero, List.set_cons_succ]
  refine wpAnyH_ready (rs := [2]) (by kernel_rfl) (by simp) ?_
  refine AllReadyH.cons (o := ⟨some 22, .call ⟨.value (.func 40), #[.tmp 21], _⟩, _, _, _, _⟩) rfl (fun K hK => ?_) AllReadyH.nil
  go_simp
  go_at_call 40
  refine (CS.out _).mono ?_
  rintro e x ⟨rfl, hB⟩
  have hc := below_trans hc hB
  refine hK.out _ _ ⟨HH4.out.later hc, HU4.out.later hc⟩ (fun hS => ?_)
  clear hB
  refine wpAnyH_take (i := 6) (oi := ⟨some 26, .build 30 #[(1, .tmp 22), (2, .tmp 23), (3, .tmp 25)], _, _, _, _⟩) (v := .agg (cO ⟨false, u.sch, u.h, u.port⟩)) rfl (by kernel_rfl) (by kernel_rfl) (by kernel_rfl) (fun _ _ _ h => h) (Or.inl ⟨by rfl, ?_⟩) (by assumption) ?_
  · (intro v hv; refine run_build_of rfl ?_; simp only [List.map_toArray, List.map_cons, List.map_nil]; exact built29 u.sch u.h u.port H8)
  simp only [Act.put, List.setIfInBounds_toArray, List.set_cons_zero, List.set_cons_succ]
  refine wpAnyH_ready (rs := [7]) (by kernel_rfl) (by simp) ?_
  refine AllReadyH.cons (o := ⟨none, .store 30 (.tmp 2) (.tmp 26), _, _, _, _⟩) rfl (fun K hK => ?_) AllReadyH.nil
  rw [if_pos (by rfl)]
  have hr := HZ4.out.later hc
  refine wp_store_row 30 (.tmp 2) (.tmp 26) rfl (w.heap.size + 1) (cO ⟨false, u.sch, u.h, u.port⟩) rfl rfl 30 (cO zeroO) hr (by rw [cO_size _ H8]; exact size29) (by first | exact (cO_size zeroO rfl).trans (cO_size ⟨false, u.sch, u.h, u.port⟩ H8).symm | exact (cO_size ⟨false, u.sch, u.h, u.port⟩ H8).trans (cO_size zeroO rfl).symm) (cO_one _) ?_
  have hh := HH4.out.later hc
  have hu := HU4.out.later hc
  refine hK.out _ _ ⟨(Url.setRow_other _ _ _ (by have := HL.out; omega)).trans hh, (Url.setRow_other _ _ _ (by omega)).trans hu⟩ (fun hS => ?_)
  refine wpAnyH_done (by kernel_rfl) ?_ _
  have hfin := hr.row ⟨false, u.sch, u.h, u.port⟩
  have hbe := Ascii.below2 HB4.out hc
  go_wp2
  exact bodyPost_ret (ret_o rfl (w.heap.size + 1) ⟨false, u.sch, u.h, u.port⟩ H8 rfl hfin) rfl ⟨rfl, below_row hbe (Nat.le_succ _) _⟩



set_option maxRecDepth 100000

theorem strs_nil1 (w : World) : Strs (w.alloc (.cells #[.string ⟨#[]⟩] 9)) (.slice (some ⟨w.heap.size, 0, none⟩) 1 1) [[]] := by
  refine ⟨_, 1, rfl, by simp, by unfold maxLen; omega, (fun e => by cases e), fun _ => ⟨w.heap.size, 0, rfl, fun j hj => ?_⟩⟩
  have h : (w.alloc (.cells #[.string ⟨#[]⟩] 9)).heap[w.heap.size]? = some (.cells #[.string ⟨#[]⟩] 9 (0, 0)) := heap_alloc_new w _
  rw [cell_of_row _ _ _ _ _ _ h]
  match j, hj with
  | 0, _ => simp

set_option maxHeartbeats 16000000 in
theorem adr_any (o : O) (h8 : o.h.p.length = 8) (w : World) : Calls Tryz.prog 62 #[.agg (cO o)] w (Got w (adr o)) := by
  have H8 := Lib.hid h8
  have h1 := OAt.new w o
  have hb1 := (Below.refl w.heap.size w).alloc (Nat.le_refl _) (.cells (cO o) 30)
  have hs1 : (w.alloc (.cells (cO o) 30)).heap.size = w.heap.size + 1 := Array.size_push _
  have h2 := UrlAt.new (w.alloc (.cells (cO o) 30)) none1 (.slice none 0 0)
  rw [hs1] at h2
  have hB0 : Below w.heap.size w ((w.alloc (.cells (cO o) 30)).alloc (.cells #[.string ⟨#[]⟩, .string ⟨#[]⟩, .string ⟨#[]⟩, .int .i64 0, .string ⟨#[]⟩, .int .i64 0, .int .i64 0, .int .i64 0, .int .i64 0, .int .i64 0, .int .i64 0, .int .i64 0, .int .i64 0, .int .i64 0, .int .i64 0, .slice none 0 0, .string ⟨#[]⟩, .string ⟨#[]⟩, .string ⟨#[]⟩, .bool false, .bool false] 27)) := hb1.alloc (by omega) (.cells #[.string ⟨#[]⟩, .string ⟨#[]⟩, .string ⟨#[]⟩, .int .i64 0, .string ⟨#[]⟩, .int .i64 0, .int .i64 0, .int .i64 0, .int .i64 0, .int .i64 0, .int .i64 0, .int .i64 0, .int .i64 0, .int .i64 0, .int .i64 0, .slice none 0 0, .string ⟨#[]⟩, .string ⟨#[]⟩, .string ⟨#[]⟩, .bool false, .bool false] 27)
  have hO : OAt ((w.alloc (.cells (cO o) 30)).alloc (.cells #[.string ⟨#[]⟩, .string ⟨#[]⟩, .string ⟨#[]⟩, .int .i64 0, .string ⟨#[]⟩, .int .i64 0, .int .i64 0, .int .i64 0, .int .i64 0, .int .i64 0, .int .i64 0, .int .i64 0, .int .i64 0, .int .i64 0, .int .i64 0, .slice none 0 0, .string ⟨#[]⟩, .string ⟨#[]⟩, .string ⟨#[]⟩, .bool false, .bool false] 27)) w.heap.size o := h1.past (.cells #[.string ⟨#[]⟩, .string ⟨#[]⟩, .string ⟨#[]⟩, .int .i64 0, .string ⟨#[]⟩, .int .i64 0, .int .i64 0, .int .i64 0, .int .i64 0, .int .i64 0, .int .i64 0, .int .i64 0, .int .i64 0, .int .i64 0, .int .i64 0, .slice none 0 0, .string ⟨#[]⟩, .string ⟨#[]⟩, .string ⟨#[]⟩, .bool false, .bool false] 27)
  have HB0 := Lib.hid hB0
  have HO := Lib.hid hO
  have HZ := Lib.hid (show UrlAt ((w.alloc (.cells (cO o) 30)).alloc (.cells #[.string ⟨#[]⟩, .string ⟨#[]⟩, .string ⟨#[]⟩, .int .i64 0, .string ⟨#[]⟩, .int .i64 0, .int .i64 0, .int .i64 0, .int .i64 0, .int .i64 0, .int .i64 0, .int .i64 0, .int .i64 0, .int .i64 0, .int .i64 0, .slice none 0 0, .string ⟨#[]⟩, .string ⟨#[]⟩, .string ⟨#[]⟩, .bool false, .bool false] 27)) (w.heap.size + 1) none1 (.slice none 0 0) from h2)
  have HN := Lib.hid (show ((w.alloc (.cells (cO o) 30)).alloc (.cells #[.string ⟨#[]⟩, .string ⟨#[]⟩, .string ⟨#[]⟩, .int .i64 0, .string ⟨#[]⟩, .int .i64 0, .int .i64 0, .int .i64 0, .int .i64 0, .int .i64 0, .int .i64 0, .int .i64 0, .int .i64 0, .int .i64 0, .int .i64 0, .slice none 0 0, .string ⟨#[]⟩, .string ⟨#[]⟩, .string ⟨#[]⟩, .bool false, .bool false] 27)).heap.size = w.heap.size + 2 by
    rw [show ((w.alloc (.cells (cO o) 30)).alloc (.cells #[.string ⟨#[]⟩, .string ⟨#[]⟩, .string ⟨#[]⟩, .int .i64 0, .string ⟨#[]⟩, .int .i64 0, .int .i64 0, .int .i64 0, .int .i64 0, .int .i64 0, .int .i64 0, .int .i64 0, .int .i64 0, .int .i64 0, .int .i64 0, .slice none 0 0, .string ⟨#[]⟩, .string ⟨#[]⟩, .string ⟨#[]⟩, .bool false, .bool false] 27)).heap.size = (w.alloc (.cells (cO o) 30)).heap.size + 1 from Array.size_push _, hs1])
  obtain ⟨c0, c1, c13⟩ := hO.cells h8
  clear h1 h2 hb1 hs1 hB0 hO h8
  go_enter Tryz.func62, Tryz.ntmps62
  go_upto_region 1 with fail
  generalize ((w.alloc (.cells (cO o) 30)).alloc (.cells #[.string ⟨#[]⟩, .string ⟨#[]⟩, .string ⟨#[]⟩, .int .i64 0, .string ⟨#[]⟩, .int .i64 0, .int .i64 0, .int .i64 0, .int .i64 0, .int .i64 0, .int .i64 0, .int .i64 0, .int .i64 0, .int .i64 0, .int .i64 0, .slice none 0 0, .string ⟨#[]⟩, .string ⟨#[]⟩, .string ⟨#[]⟩, .bool false, .bool false] 27)) = W at HB0 HO HZ HN c0 c1 c13 ⊢
  have hO := HO.out
  have hz2 : UrlAt (W.alloc (.cells #[.string ⟨#[]⟩] 9)) (w.heap.size + 1) none1 (.slice none 0 0) := HZ.out.past _
  go_wp2_with (first
    | ((with_reducible refine wp_load24o (o := ⟨some 6, .load 24 (.tmp 5), _, _, _, _⟩) ?_ (.tmp 5) ?_ w.heap.size ?_ o H8.out hO ?_); (· rfl); (· rfl); (· rfl); simp only [Act.put, List.setIfInBounds_toArray, List.set_cons_zero, List.set_cons_succ])
    | ((with_reducible refine wp_build27 (o := ⟨some 10, .build 27 #[(0, .tmp 4), (3, .tmp 6), (4, .tmp 8), (5, .tmp 9)], _, _, _, _⟩) ?_ (.tmp 4) (.tmp 6) (.tmp 8) (.tmp 9) ?_ o.sch o.h o.port (some ⟨W.heap.size, 0, none⟩) 1 1 ?_ ?_ ?_ ?_ H8.out ?_); (· rfl); (· rfl); (· rfl); (· rfl); (· rfl); (· rfl); simp only [Act.put, List.setIfInBounds_toArray, List.set_cons_zero, List.set_cons_succ])
    | ((with_reducible refine wp_store27 (o := ⟨none, .store 27 (.tmp 2) (.tmp 10), _, _, _, _⟩) ?_ (.tmp 2) (.tmp 10) ?_ (w.heap.size + 1) ?_ ⟨o.sch, [], [], o.h, o.port, [[]], [], [], [], false, false⟩ (.slice (some ⟨W.heap.size, 0, none⟩) 1 1) ?_ H8.out rfl none1 (.slice none 0 0) rfl hz2 ?_); (· rfl); (· rfl); (· rfl); (· rfl); simp only [Act.put, List.setIfInBounds_toArray, List.set_cons_zero, List.set_cons_succ]))
  clear c0 c1 c13 hO
  have hfin := hz2.row (adr o) (.slice (some ⟨W.heap.size, 0, none⟩) 1 1)
  have hbe := below_row (Ascii.below2 HB0.out ((Below.refl W.heap.size W).alloc (Nat.le_refl _) (.cells #[.string ⟨#[]⟩] 9))) (Nat.le_succ w.heap.size) (cU (adr o) (.slice (some ⟨W.heap.size, 0, none⟩) 1 1))
  have hnw : ∀ B, B ≤ W.heap.size → Path.New B (.slice (some ⟨W.heap.size, 0, none⟩) 1 1) := fun B hB b o s n c e => by cases e; exact hB
  have hn := HN.out
  exact bodyPost_ret (ret_url rfl (w.heap.size + 1) (adr o) (.slice (some ⟨W.heap.size, 0, none⟩) 1 1) H8.out rfl hfin) rfl ⟨_, rfl, strs_other (w.heap.size + 1) (strs_nil1 W) (hnw _ (by omega)) (fun k hk => Url.setRow_other _ _ _ (Ne.symm hk)), hnw _ (by omega), hbe⟩

set_option maxHeartbeats 16000000 in
theorem omay_any (o : O) (h8 : o.h.p.length = 8) (hs : o.h.s.size ≤ 1000) (hl : o.sch.length ≤ 1000000) (b : Bool) (hb : mayO o = b) (m : Int) (w : World) (hm : Six.At m w) :
    Calls Tryz.prog 52 #[.agg (cO o)] w fun e w' => e = .returned (.bool b) ∧ Below w.heap.size w w' := by
  have H8 := Lib.hid h8
  have HB0 := Lib.hid (show Below w.heap.size w (w.alloc (.cells (cO o) 30)) from (Below.refl _ w).alloc (Nat.le_refl _) _)
  have HO := Lib.hid (OAt.new w o)
  have HM := Lib.hid (hm.later HB0.out)
  obtain ⟨q, hq⟩ : ∃ q, ofU (adr o) = q := ⟨_, rfl⟩
  have hq8 : q.h.p.length = 8 := by rw [← hq]; exact of_len (adr o) h8
  have CA := Lib.hid (fun y => adr_any o h8 y)
  have CO := Lib.hid (fun pv y hm hs' => of_any (adr o) pv (adr_fit o h8 hs hl) q hq m y hm hs')
  have HE := Lib.hid (fun y => eq29 q o hq8 h8 b (by rw [← hq, of_adr]; exact hb) y)
  clear h8 hs hl hb hm hq hq8
  go_enter Tryz.func52, Tryz.ntmps52
  go_wp2_with fail
  generalize (w.alloc (.cells (cO o) 30)) = W at HB0 HO HM ⊢
  have hc : Below W.heap.size W W.drew := (Below.refl _ _).drew
  refine wp_region_held_drew (S := fun v => OAt v w.heap.size o) (by kernel_rfl) (HO.out.later hc) (fun hS => ?_)
  refine wpAnyH_take (i := 0) (oi := ⟨some 3, .load 30 (.tmp 1), _, _, _, _⟩) (v := .agg (cO o)) rfl (by kernel_rfl) (by kernel_rfl) (by kernel_rfl) (fun _ _ _ h => h) (Or.inl ⟨by rfl, ?_⟩) (by assumption) ?_
  · (exact fun v hv => run_load_of 30 (.tmp 1) ⟨w.heap.size, 0, none⟩ rfl (.agg (cO o)) (hv.load H8.out))
  simp only [Act.put, List.setIfInBounds_toArray, List.set_cons_zero, List.set_cons_succ]
  refine wpAnyH_take (i := 3) (oi := ⟨some 6, .load 30 (.tmp 1), _, _, _, _⟩) (v := .agg (cO o)) rfl (by kernel_rfl) (by kernel_rfl) (by kernel_rfl) (fun _ _ _ h => h) (Or.inl ⟨by rfl, ?_⟩) (by assumption) ?_
  · (exact fun v hv => run_load_of 30 (.tmp 1) ⟨w.heap.size, 0, none⟩ rfl (.agg (cO o)) (hv.load H8.out))
  simp only [Act.put, List.setIfInBounds_toArray, List.set_cons_zero, List.set_cons_succ]
  refine wpAnyH_ready (rs := [1]) (by kernel_rfl) (by simp) ?_
  refine AllReadyH.cons (o := ⟨some 4, .call ⟨.value (.func 62), #[.tmp 3], _⟩, _, _, _, _⟩) rfl (fun K hK => ?_) AllReadyH.nil
  go_simp
  go_at_call 62
  refine (CA.out _).mono ?_
  rintro e x ⟨pv, rfl, hst, hnw, hB⟩
  have hc := below_trans hc hB
  refine hK.out _ _ (HO.out.later hc) (fun hS => ?_)
  clear hB hnw
  refine wpAnyH_ready (rs := [2]) (by kernel_rfl) (by simp) ?_
  refine AllReadyH.cons (o := ⟨some 5, .call ⟨.value (.func 23), #[.tmp 4], _⟩, _, _, _, _⟩) rfl (fun K hK => ?_) AllReadyH.nil
  go_simp
  go_at_call 23
  refine (CO.out pv _ (HM.out.later hc) hst).mono ?_
  rintro e x ⟨rfl, hB⟩
  have hc := below_trans hc hB
  refine hK.out _ _ (HO.out.later hc) (fun hS => ?_)
  clear hB hst
  refine wpAnyH_take (i := 4) (oi := ⟨some 7, .binOp .eql 30 (.tmp 5) (.tmp 6) 30, _, _, _, _⟩) (v := .bool b) rfl (by kernel_rfl) (by kernel_rfl) (by kernel_rfl) (fun _ _ _ h => h) (Or.inl ⟨by rfl, ?_⟩) (by assumption) ?_
  · (intro v hv; have he := HE.out; go_simp)
  simp only [Act.put, List.setIfInBounds_toArray, List.set_cons_zero, List.set_cons_succ]
  refine wpAnyH_take (i := 5) (oi := ⟨some 2, .assign (.tmp 7), _, _, _, _⟩) (v := .bool b) rfl (by kernel_rfl) (by kernel_rfl) (by kernel_rfl) (fun _ _ _ h => h) (Or.inl ⟨by rfl, ?_⟩) (by assumption) ?_
  · (intro v hv; go_simp)
  simp only [Act.put, List.setIfInBounds_toArray, List.set_cons_zero, List.set_cons_succ]
  refine wpAnyH_done (by kernel_rfl) ?_ _
  go_wp2
  go_ret
  exact ⟨rfl, Ascii.below2 HB0.out hc⟩

set_option maxHeartbeats 16000000 in
theorem named_any (o : O) (h8 : o.h.p.length = 8) (hs : o.h.s.size ≤ 1000) (hl : o.sch.length ≤ 1000000) (n : Bool) (hn : (mayO o && !o.opaq) = n) (m : Int) (w : World) (hm : Six.At m w) :
    Calls Tryz.prog 37 #[.agg (cO o)] w fun e w' => e = .returned (.bool n) ∧ Below w.heap.size w w' := by
  have H8 := Lib.hid h8
  have HB0 := Lib.hid (show Below w.heap.size w (w.alloc (.cells (cO o) 30)) from (Below.refl _ w).alloc (Nat.le_refl _) _)
  have HO := Lib.hid (OAt.new w o)
  have HM := Lib.hid (hm.later HB0.out)
  obtain ⟨b, hb⟩ : ∃ b, mayO o = b := ⟨_, rfl⟩
  obtain ⟨q, hq⟩ : ∃ b, o.opaq = b := ⟨_, rfl⟩
  have CM := Lib.hid (fun y hm => omay_any o h8 hs hl b hb m y hm)
  rw [hb, hq] at hn
  have HQ := Lib.hid hq
  clear h8 hs hl hb hm hq
  subst hn
  have hO := HO.out
  go_enter Tryz.func37, Tryz.ntmps37
  go_wp2_with ((with_reducible refine wp_load29 (o := ⟨some 3, .load 30 (.tmp 1), _, _, _, _⟩) ?_ (.tmp 1) ?_ w.heap.size ?_ o H8.out hO ?_); (· rfl); (· rfl); (· rfl); simp only [Act.put, List.setIfInBounds_toArray, List.set_cons_zero, List.set_cons_succ])
  clear hO
  generalize (w.alloc (.cells (cO o) 30)) = W at HB0 HO HM ⊢
  refine (CM.out _ HM.out).mono ?_
  rintro e u1 ⟨rfl, hB⟩
  have HB1 := Lib.hid (Ascii.below2 HB0.out hB)
  have c0 := ((HO.out.later hB).cells H8.out).1
  rw [HQ.out] at c0
  clear hB CM
  cases b <;> cases q
  all_goals
    go_wp2
    go_ret
    exact ⟨rfl, HB1.out⟩

set_option maxHeartbeats 16000000 in
theorem osame_any (a b : O) (ha : a.h.p.length = 8) (hb : b.h.p.length = 8) (hs : a.h.s.size ≤ 1000) (hl : a.sch.length ≤ 1000000) (r : Bool) (hr : sameO a b = r) (m : Int) (w : World) (hm : Six.At m w) :
    Calls Tryz.prog 22 #[.agg (cO a), .agg (cO b)] w fun e w' => e = .returned (.bool r) ∧ Below w.heap.size w w' := by
  have HA := Lib.hid ha
  have HB := Lib.hid hb
  have hs1 : (w.alloc (.cells (cO a) 30)).heap.size = w.heap.size + 1 := Array.size_push _
  have hB1 := (Below.refl w.heap.size w).alloc (Nat.le_refl _) (.cells (cO a) 30)
  have hB2 := hB1.alloc (Nat.le_trans (Nat.le_succ _) (Nat.le_of_eq hs1.symm)) (.cells (cO b) 30)
  have HU := Lib.hid ((OAt.new w a).past (.cells (cO b) 30))
  have HV := Lib.hid (show OAt ((w.alloc (.cells (cO a) 30)).alloc (.cells (cO b) 30)) (w.heap.size + 1) b from by rw [← hs1]; exact OAt.new _ b)
  have HB0 := Lib.hid hB2
  have HM := Lib.hid (hm.later hB2)
  obtain ⟨q, hq⟩ : ∃ q, eqO a b = q := ⟨_, rfl⟩
  obtain ⟨n, hn⟩ : ∃ n, (mayO a && !a.opaq) = n := ⟨_, rfl⟩
  have CN := Lib.hid (fun y hm => named_any a ha hs hl n hn m y hm)
  have he := fun y => eq29 a b ha hb q hq y
  rw [← same_named, hq, hn] at hr
  have HE := Lib.hid he
  clear ha hb hs hl hs1 hB1 hB2 hm hq hn he
  subst hr
  have hu := HU.out
  have hv := HV.out
  have he := HE.out
  cases q
  · go_enter Tryz.func22, Tryz.ntmps22
    go_wp2_with (first
      | ((with_reducible refine wp_load29 (o := ⟨some 5, .load 30 (.tmp 2), _, _, _, _⟩) ?_ (.tmp 2) ?_ w.heap.size ?_ a HA.out hu ?_); (· rfl); (· rfl); (· rfl); simp only [Act.put, List.setIfInBounds_toArray, List.set_cons_zero, List.set_cons_succ])
      | ((with_reducible refine wp_load29 (o := ⟨some 6, .load 30 (.tmp 3), _, _, _, _⟩) ?_ (.tmp 3) ?_ (w.heap.size + 1) ?_ b HB.out hv ?_); (· rfl); (· rfl); (· rfl); simp only [Act.put, List.setIfInBounds_toArray, List.set_cons_zero, List.set_cons_succ]))
    go_ret
    exact ⟨rfl, HB0.out⟩
  · go_enter Tryz.func22, Tryz.ntmps22
    go_wp2_with (first
      | ((with_reducible refine wp_load29 (o := ⟨some 5, .load 30 (.tmp 2), _, _, _, _⟩) ?_ (.tmp 2) ?_ w.heap.size ?_ a HA.out hu ?_); (· rfl); (· rfl); (· rfl); simp only [Act.put, List.setIfInBounds_toArray, List.set_cons_zero, List.set_cons_succ])
      | ((with_reducible refine wp_load29 (o := ⟨some 6, .load 30 (.tmp 3), _, _, _, _⟩) ?_ (.tmp 3) ?_ (w.heap.size + 1) ?_ b HB.out hv ?_); (· rfl); (· rfl); (· rfl); simp only [Act.put, List.setIfInBounds_toArray, List.set_cons_zero, List.set_cons_succ])
      | ((with_reducible refine wp_load29 (o := ⟨some 9, .load 30 (.tmp 2), _, _, _, _⟩) ?_ (.tmp 2) ?_ w.heap.size ?_ a HA.out hu ?_); (· rfl); (· rfl); (· rfl); simp only [Act.put, List.setIfInBounds_toArray, List.set_cons_zero, List.set_cons_succ]))
    generalize (w.alloc (.cells (cO a) 30)).alloc (.cells (cO b) 30) = W at HB0 HM ⊢
    refine (CN.out _ HM.out).mono ?_
    rintro e u1 ⟨rfl, hB⟩
    have HB1 := Lib.hid (Ascii.below2 HB0.out hB)
    clear hB CN
    go_wp2
    go_ret
    exact ⟨by cases n <;> rfl, HB1.out⟩



set_option maxRecDepth 100000

theorem door_size (u : U) (hf : Fit u) : (doorU u).length ≤ 200 := by
  unfold doorU
  split
  · rename_i h
    rw [Bool.and_eq_true, Bool.not_eq_true', decide_eq_false_iff_not] at h
    have k := web_ok h.1 h.2
    have h1 := host_len u hf
    have h2 := port_len u (by have := k.p2; omega) (by have := k.p1; omega)
    unfold doorT portT
    split
    · rw [List.append_nil]; omega
    · rw [List.length_append, List.length_cons]; omega
  · exact Nat.zero_le _

theorem null_any (w : World) : Calls Tryz.prog 59 #[] w fun e w' => e = .returned (.string ⟨#[110, 117, 108, 108]⟩) ∧ w = w' := by
  go_enter Tryz.func59, Tryz.ntmps59
  go_wp2
  go_ret
  exact ⟨rfl, rfl⟩

set_option maxHeartbeats 16000000 in
theorem text_any' (g : Nat) (o : O) (h8 : o.h.p.length = 8) (hs : o.h.s.size ≤ 1000) (hl : o.sch.length ≤ 1000000) (x : ByteArray) (hx : tb (o.sch ++ 58 :: 47 :: 47 :: doorU (adr o)) = x) (m : Int) (w : World) (hm : Six.At m w) (ho : OAt w g o) (hk : o.h.k = 3 → Six.Known) :
    Calls Tryz.prog 60 #[.pointer (some ⟨g, 0, none⟩)] w fun e w' => e = .returned (.string x) ∧ Below w.heap.size w w' := by
  have H8 := Lib.hid h8
  have HM := Lib.hid hm
  have HO := Lib.hid ho
  have hf := adr_fit o h8 hs hl
  obtain ⟨N, hN⟩ : ∃ n, tb o.sch = n := ⟨_, rfl⟩
  have hN1 : N.size ≤ 1000000 := by rw [size_tb hN]; exact hl
  obtain ⟨D, hD⟩ : ∃ n, tb (doorU (adr o)) = n := ⟨_, rfl⟩
  have hD1 : D.size ≤ 200 := by rw [size_tb hD]; exact door_size _ hf
  obtain ⟨P, hP⟩ : ∃ n, N ++ (⟨#[58, 47, 47]⟩ : ByteArray) = n := ⟨_, rfl⟩
  have hP1 : P.size = N.size + 3 := by rw [← hP, ByteArray.size_append]; rfl
  have hX : P ++ D = x := by
    rw [← hx, ← hP, ← hN, ← hD]
    apply ByteArray.ext
    apply Array.toList_inj.1
    show (tb o.sch ++ (⟨#[58, 47, 47]⟩ : ByteArray) ++ tb (doorU (adr o))).data.toList = _
    rw [Path.text_append, Path.text_append, tb_list, tb_list, tb_list]; simp
  have CA := Lib.hid (fun y => adr_any o h8 y)
  have CD := Lib.hid (fun pv y hm hs' => door_any' (adr o) pv hf D hD m y hm hs' hk)
  have HN := Lib.hid hN
  have HP := Lib.hid hP
  have HX := Lib.hid hX
  have HN1 := Lib.hid hN1
  have HD1 := Lib.hid hD1
  have HP1 := Lib.hid hP1
  clear h8 hs hl hx hm ho hf hN hD hP hX hN1 hD1 hP1
  go_enter Tryz.func60, Tryz.ntmps60
  go_wp2_with fail
  have hc : Below w.heap.size w w.drew := (Below.refl _ _).drew
  refine wp_region_held_drew (S := fun v => OAt v g o) (by kernel_rfl) (HO.out.later hc) (fun hS => ?_)
  refine wpAnyH_take (i := 0) (oi := ⟨some 2, .fieldAddr 30 (.tmp 0) 1, _, _, _, _⟩) (v := .pointer (some ⟨g, 1, none⟩)) rfl (by kernel_rfl) (by kernel_rfl) (by kernel_rfl) (fun _ _ _ h => h) (Or.inl ⟨by rfl, ?_⟩) (by assumption) ?_
  · (intro v hv; go_simp)
  simp only [Act.put, List.setIfInBounds_toArray, List.set_cons_zero, List.set_cons_succ]
  refine wpAnyH_take (i := 1) (oi := ⟨some 3, .load 9 (.tmp 2), _, _, _, _⟩) (v := .string N) rfl (by kernel_rfl) (by kernel_rfl) (by kernel_rfl) (fun _ _ _ h => h) (Or.inl ⟨by rfl, ?_⟩) (by assumption) ?_
  · (exact fun v hv => run_load_of 9 (.tmp 2) ⟨g, 1, none⟩ rfl (.string N) (load9 (by rw [← HN.out]; exact (hv.cells H8.out).2.1)))
  simp only [Act.put, List.setIfInBounds_toArray, List.set_cons_zero, List.set_cons_succ]
  refine wpAnyH_take (i := 2) (oi := ⟨some 4, .binOp .add 9 (.tmp 3) (.const (.string ⟨#[58, 47, 47]⟩)) 9, _, _, _, _⟩) (v := .string P) rfl (by kernel_rfl) (by kernel_rfl) (by kernel_rfl) (fun _ _ _ h => h) (Or.inl ⟨by rfl, ?_⟩) (by assumption) ?_
  · (intro v hv; have a1 := HN1.out; have a2 := HP.out; go_simp; omega)
  simp only [Act.put, List.setIfInBounds_toArray, List.set_cons_zero, List.set_cons_succ]
  refine wpAnyH_take (i := 3) (oi := ⟨some 5, .load 30 (.tmp 0), _, _, _, _⟩) (v := .agg (cO o)) rfl (by kernel_rfl) (by kernel_rfl) (by kernel_rfl) (fun _ _ _ h => h) (Or.inl ⟨by rfl, ?_⟩) (by assumption) ?_
  · (exact fun v hv => run_load_of 30 (.tmp 0) ⟨g, 0, none⟩ rfl (.agg (cO o)) (hv.load H8.out))
  simp only [Act.put, List.setIfInBounds_toArray, List.set_cons_zero, List.set_cons_succ]
  refine wpAnyH_ready (rs := [4]) (by kernel_rfl) (by simp) ?_
  refine AllReadyH.cons (o := ⟨some 6, .call ⟨.value (.func 62), #[.tmp 5], _⟩, _, _, _, _⟩) rfl (fun K hK => ?_) AllReadyH.nil
  go_simp
  go_at_call 62
  refine (CA.out _).mono ?_
  rintro e y ⟨pv, rfl, hst, hnw, hB⟩
  have hc := below_trans hc hB
  refine hK.out _ _ (HO.out.later hc) (fun hS => ?_)
  clear hB hnw
  refine wpAnyH_ready (rs := [5]) (by kernel_rfl) (by simp) ?_
  refine AllReadyH.cons (o := ⟨some 7, .call ⟨.value (.func 61), #[.tmp 6], _⟩, _, _, _, _⟩) rfl (fun K hK => ?_) AllReadyH.nil
  go_simp
  go_at_call 61
  refine (CD.out pv _ (HM.out.later hc) hst).mono ?_
  rintro e z ⟨rfl, hB⟩
  have hc := below_trans hc hB
  refine hK.out _ _ (HO.out.later hc) (fun hS => ?_)
  clear hB hst
  refine wpAnyH_take (i := 6) (oi := ⟨some 8, .binOp .add 9 (.tmp 4) (.tmp 7) 9, _, _, _, _⟩) (v := .string x) rfl (by kernel_rfl) (by kernel_rfl) (by kernel_rfl) (fun _ _ _ h => h) (Or.inl ⟨by rfl, ?_⟩) (by assumption) ?_
  · (intro v hv; have a1 := HN1.out; have a2 := HD1.out; have a3 := HP1.out; have a4 := HX.out; go_simp; omega)
  simp only [Act.put, List.setIfInBounds_toArray, List.set_cons_zero, List.set_cons_succ]
  refine wpAnyH_take (i := 7) (oi := ⟨some 1, .assign (.tmp 8), _, _, _, _⟩) (v := .string x) rfl (by kernel_rfl) (by kernel_rfl) (by kernel_rfl) (fun _ _ _ h => h) (Or.inl ⟨by rfl, ?_⟩) (by assumption) ?_
  · (intro v hv; go_simp)
  simp only [Act.put, List.setIfInBounds_toArray, List.set_cons_zero, List.set_cons_succ]
  refine wpAnyH_done (by kernel_rfl) ?_ _
  go_wp2
  go_ret
  exact ⟨rfl, hc⟩

theorem text_any (g : Nat) (o : O) (h8 : o.h.p.length = 8) (hs : o.h.s.size ≤ 1000) (hl : o.sch.length ≤ 1000000) (x : ByteArray) (hx : tb (o.sch ++ 58 :: 47 :: 47 :: doorU (adr o)) = x) (m : Int) (w : World) (hm : Six.At m w) (ho : OAt w g o) :
    Calls Tryz.prog 60 #[.pointer (some ⟨g, 0, none⟩)] w fun e w' => e = .returned (.string x) ∧ Below w.heap.size w w' := text_any' g o h8 hs hl x hx m w hm ho (fun _ => Six.known) 

set_option maxHeartbeats 16000000 in
theorem shownBy_any (o : O) (h8 : o.h.p.length = 8) (hs : o.h.s.size ≤ 1000) (hl : o.sch.length ≤ 1000000) (n : Bool) (hn : (mayO o && !o.opaq) = n) (m : Int) (w : World) (hm : Six.At m w) :
    Calls Tryz.prog 41 #[.agg (cO o)] w fun e w' => e = .returned (if n then .func (.func 60) #[] #[.pointer (some ⟨w.heap.size, 0, none⟩)] else .func (.func 59) #[] #[]) ∧ OAt w' w.heap.size o ∧ Below w.heap.size w w' := by
  have H8 := Lib.hid h8
  have HB0 := Lib.hid (show Below w.heap.size w (w.alloc (.cells (cO o) 30)) from (Below.refl _ w).alloc (Nat.le_refl _) _)
  have HO := Lib.hid (OAt.new w o)
  have HM := Lib.hid (hm.later HB0.out)
  have CN := Lib.hid (fun y hm => named_any o h8 hs hl n hn m y hm)
  clear h8 hs hl hn hm
  have hO := HO.out
  cases n
  · go_enter Tryz.func41, Tryz.ntmps41
    go_wp2_with ((with_reducible refine wp_load29 (o := ⟨some 3, .load 30 (.tmp 1), _, _, _, _⟩) ?_ (.tmp 1) ?_ w.heap.size ?_ o H8.out hO ?_); (· rfl); (· rfl); (· rfl); simp only [Act.put, List.setIfInBounds_toArray, List.set_cons_zero, List.set_cons_succ])
    clear hO
    generalize (w.alloc (.cells (cO o) 30)) = W at HB0 HO HM ⊢
    refine (CN.out _ HM.out).mono ?_
    rintro e u1 ⟨rfl, hB⟩
    go_wp2
    go_ret
    exact ⟨rfl, HO.out.later hB, Ascii.below2 HB0.out hB⟩
  · go_enter Tryz.func41, Tryz.ntmps41
    go_wp2_with ((with_reducible refine wp_load29 (o := ⟨some 3, .load 30 (.tmp 1), _, _, _, _⟩) ?_ (.tmp 1) ?_ w.heap.size ?_ o H8.out hO ?_); (· rfl); (· rfl); (· rfl); simp only [Act.put, List.setIfInBounds_toArray, List.set_cons_zero, List.set_cons_succ])
    clear hO
    generalize (w.alloc (.cells (cO o) 30)) = W at HB0 HO HM ⊢
    refine (CN.out _ HM.out).mono ?_
    rintro e u1 ⟨rfl, hB⟩
    go_wp2
    go_ret
    exact ⟨rfl, HO.out.later hB, Ascii.below2 HB0.out hB⟩

set_option maxHeartbeats 16000000 in
theorem oshow_any' (o : O) (h8 : o.h.p.length = 8) (hs : o.h.s.size ≤ 1000) (hl : o.sch.length ≤ 1000000) (x : ByteArray) (hx : tb (showO o) = x) (m : Int) (w : World) (hm : Six.At m w) (hk : o.h.k = 3 → Six.Known) :
    Calls Tryz.prog 25 #[.agg (cO o)] w fun e w' => e = .returned (.string x) ∧ Below w.heap.size w w' := by
  have H8 := Lib.hid h8
  have HB0 := Lib.hid (show Below w.heap.size w (w.alloc (.cells (cO o) 30)) from (Below.refl _ w).alloc (Nat.le_refl _) _)
  have HO := Lib.hid (OAt.new w o)
  have HM := Lib.hid (hm.later HB0.out)
  obtain ⟨n, hn⟩ : ∃ n, (mayO o && !o.opaq) = n := ⟨_, rfl⟩
  have CB := Lib.hid (fun y hm => shownBy_any o h8 hs hl n hn m y hm)
  have CT := Lib.hid (fun (k : n = true) g y hm ho => text_any' g o h8 hs hl x (by
    rw [k, Bool.and_eq_true, Bool.not_eq_true'] at hn
    rw [← hx, show_adr hn.1 hn.2]) m y hm ho hk)
  have HX := Lib.hid (show n = false → (⟨#[110, 117, 108, 108]⟩ : ByteArray) = x from fun k => by
    rw [k] at hn
    rw [← hx, show_null (by cases h1 : o.opaq <;> cases h2 : mayO o <;> rw [h1, h2] at hn <;> first | rfl | cases hn)]
    rfl)
  clear h8 hs hl hx hn hm
  have hO := HO.out
  go_enter Tryz.func25, Tryz.ntmps25
  go_wp2_with ((with_reducible refine wp_load29 (o := ⟨some 3, .load 30 (.tmp 1), _, _, _, _⟩) ?_ (.tmp 1) ?_ w.heap.size ?_ o H8.out hO ?_); (· rfl); (· rfl); (· rfl); simp only [Act.put, List.setIfInBounds_toArray, List.set_cons_zero, List.set_cons_succ])
  clear hO
  generalize (w.alloc (.cells (cO o) 30)) = W at HB0 HO HM ⊢
  refine (CB.out _ HM.out).mono ?_
  rintro e u1 ⟨rfl, ho, hB⟩
  have HB1 := Lib.hid (Ascii.below2 HB0.out hB)
  have HO1 := Lib.hid ho
  have HM1 := Lib.hid (HM.out.later hB)
  clear hB ho CB HB0 HO HM
  cases n
  · obtain rfl := HX.out (by first | rfl | trivial)
    simp only [Bool.false_eq_true, if_false]
    go_wp2_with fail
    refine (null_any _).mono ?_
    rintro e X ⟨rfl, rfl⟩
    go_wp2
    go_ret
    exact ⟨rfl, HB1.out⟩
  · have C := Lib.hid (CT.out (by first | rfl | trivial))
    clear CT HX
    simp only [if_true]
    go_wp2_with fail
    refine (C.out _ _ HM1.out HO1.out).mono ?_
    rintro e u2 ⟨rfl, hB⟩
    have HB2 := Lib.hid (Ascii.below2 HB1.out hB)
    clear hB C
    go_wp2
    go_ret
    exact ⟨rfl, HB2.out⟩

theorem oshow_any (o : O) (h8 : o.h.p.length = 8) (hs : o.h.s.size ≤ 1000) (hl : o.sch.length ≤ 1000000) (x : ByteArray) (hx : tb (showO o) = x) (m : Int) (w : World) (hm : Six.At m w) :
    Calls Tryz.prog 25 #[.agg (cO o)] w fun e w' => e = .returned (.string x) ∧ Below w.heap.size w w' := oshow_any' o h8 hs hl x hx m w hm (fun _ => Six.known) 

/-- What is loaded of an address in every later world. -/
theorem q_url {W : World} {g : Nat} {u : U} {pv : Value} (a : UrlAt W g u pv) (h8 : u.h.p.length = 8) : ∀ v, Below W.heap.size W v → (loadVar 27 ⟨g, 0, none⟩).run Tryz.prog v = .ok (.agg (cU u pv)) v := fun v hv => (a.later hv).load h8

theorem q_org {W : World} {g : Nat} {o : O} (a : OAt W g o) (h8 : o.h.p.length = 8) : ∀ v, Below W.heap.size W v → (loadVar 30 ⟨g, 0, none⟩).run Tryz.prog v = .ok (.agg (cO o)) v := fun v hv => (a.later hv).load h8

set_option maxHeartbeats 16000000 in
theorem both_any (u v : U) (pv qv : Value) (hf : Fit u) (hg : Fit v) (b : Bool) (hb : bothU u v = b) (m : Int) (w : World) (hm : Six.At m w) (hs : Strs w pv u.path) (ht : Strs w qv v.path) :
    Calls Tryz.prog 24 #[.agg (cU u pv), .agg (cU v qv)] w fun e w' => e = .returned (.bool b) ∧ Below w.heap.size w w' := by
  have hs1 : (w.alloc (.cells (cU u pv) 27)).heap.size = w.heap.size + 1 := Array.size_push _
  have hb1 := (Below.refl w.heap.size w).alloc (Nat.le_refl _) (.cells (cU u pv) 27)
  have hb2 := hb1.alloc (Nat.le_trans (Nat.le_succ _) (Nat.le_of_eq hs1.symm)) (.cells (cU v qv) 27)
  have hU := (UrlAt.new w u pv).past (.cells (cU v qv) 27)
  have hV : UrlAt ((w.alloc (.cells (cU u pv) 27)).alloc (.cells (cU v qv) 27)) (w.heap.size + 1) v qv := by rw [← hs1]; exact UrlAt.new _ v qv
  have HB0 := Lib.hid hb2
  have HU := Lib.hid hU
  have HV := Lib.hid hV
  have HM := Lib.hid (hm.later hb2)
  have HS := Lib.hid (hs.later hb2)
  have HT := Lib.hid (ht.later hb2)
  obtain ⟨a, ha⟩ : ∃ o, ofU u = o := ⟨_, rfl⟩
  obtain ⟨c, hc⟩ : ∃ o, ofU v = o := ⟨_, rfl⟩
  obtain ⟨a8, az, ay⟩ := of_size u hf
  obtain ⟨c8, cs, cl⟩ := of_size v hg
  rw [ha] at a8 az ay
  rw [hc] at c8 cs cl
  unfold bothU at hb
  rw [ha, hc] at hb
  have CA := Lib.hid (fun y hm hs => of_any u pv hf a ha m y hm hs)
  have CC := Lib.hid (fun y hm hs => of_any v qv hg c hc m y hm hs)
  have CS := Lib.hid (fun y hm => osame_any a c a8 c8 az ay b hb m y hm)
  have H8 := Lib.hid hf.h8
  have K8 := Lib.hid hg.h8
  clear hs1 hb1 hb2 hU hV hf hg hm hs ht ha hc a8 az ay c8 cs cl hb
  go_enter Tryz.func24, Tryz.ntmps24
  go_wp2_with fail
  generalize ((w.alloc (.cells (cU u pv) 27)).alloc (.cells (cU v qv) 27)) = W at HB0 HU HV HM HS HT ⊢
  have QU := Lib.hid (q_url HU.out H8.out)
  have QV := Lib.hid (q_url HV.out K8.out)
  refine Ascii.wp_region_quiet_below (by kernel_rfl) (by kernel_rfl) ?_
  ((go_big_quiet_want; (with_reducible refine Host.quiet_load (o := ⟨some 5, .load 27 (.tmp 2), _, _, _, _⟩) 27 (.tmp 2) ?_ _ ?_ _ QU.out ?_); (· rfl); (· rfl)); go_big_quiet_on; simp only [Act.put, List.setIfInBounds_toArray, List.set_cons_succ, List.set_cons_zero])
  go_big_quiet_step ((intro hu; go_at_call 23; exact (CA.out _ (HM.out.later hu) (HS.out.later hu)).mono fun e u' h => ⟨h.1, hu.trans (h.2.mono hu.size)⟩))
  ((go_big_quiet_want; (with_reducible refine Host.quiet_load (o := ⟨some 7, .load 27 (.tmp 3), _, _, _, _⟩) 27 (.tmp 3) ?_ _ ?_ _ QV.out ?_); (· rfl); (· rfl)); go_big_quiet_on; simp only [Act.put, List.setIfInBounds_toArray, List.set_cons_succ, List.set_cons_zero])
  go_big_quiet_step ((intro hu; go_at_call 23; exact (CC.out _ (HM.out.later hu) (HT.out.later hu)).mono fun e u' h => ⟨h.1, hu.trans (h.2.mono hu.size)⟩))
  go_big_quiet_step ((intro hu; go_at_call 22; exact (CS.out _ (HM.out.later hu)).mono fun e u' h => ⟨h.1, hu.trans (h.2.mono hu.size)⟩))
  repeat (go_big_quiet_step ((intro _; rfl)))
  refine wpQuiet_nil ?_
  intro y hy
  go_wp2
  go_ret
  exact ⟨rfl, Ascii.below2 HB0.out hy⟩



open Go.ChangeShapes Go.WideShapes Go.ChangeAt Go.RowKit

open Url

set_option maxRecDepth 100000
section
variable {H : Type} {enc : TypeId × Value → H} {W : World} {base : Nat} {sp : Nat → Bool} {held : Bool}
theorem cells29 : Tryz.prog.cellsOf 30 = 14 := by kernel_rfl

theorem open_origin {r : Reach} {b0 : Nat} {v : Value} {d : DataW H} {ps : List MemPlace} (hval : Value.okWide Tryz.prog W r b0 30 v) (hd : DataW.Trod enc Tryz.prog W base sp held 30 v d ps) :
    ∃ o : O, o.h.p.length = 8 ∧ v = .agg (cO o) ∧ (Lit.int .i64 o.port).wf = true := by
  obtain ⟨cs, rfl, hsz⟩ := okWide_struct Tryz.underlying30 hval
  rw [cells29] at hsz
  obtain ⟨l⟩ := cs
  match l, hsz with
  | [e0, e1, e2, e3, e4, e5, e6, e7, e8, e9, e10, e11, e12, e13], _ =>
  obtain ⟨fuel, hf⟩ := hd
  obtain ⟨y0, y1, y2, y3, n, hx, _, h0, h1, h2, h3⟩ := Joins.trod_struct4 Tryz.underlying30 hf
  simp only [Value.cells, Six.cells3, Six.cells9, Six.cells24, cells4, List.drop, List.take] at h0 h1 h2 h3
  obtain ⟨b, q0, -⟩ := DataW.trod_bool Tryz.underlying4 h0
  obtain ⟨s, q1, -, -⟩ := DataW.trod_string Tryz.underlying9 h1
  obtain ⟨h, h8, q2⟩ := trod_host h2
  obtain ⟨p, q3, -, w3⟩ := DataW.trod_int Tryz.underlying3 h3
  refine ⟨⟨b, s.data.toList, h, p⟩, h8, ?_, w3⟩
  simp only [List.cons.injEq, and_true] at q0 q1 q3
  rw [q0, q1, q3]
  have e : (⟨[.bool b, .string s, e2, e3, e4, e5, e6, e7, e8, e9, e10, e11, e12, .int .i64 p]⟩ : Array Value) = (.bool b :: .string s :: ([e2, e3, e4, e5, e6, e7, e8, e9, e10, e11, e12] ++ [.int .i64 p])).toArray := rfl
  rw [e, q2]
  simp only [cO, tb_of, List.cons_append]
end

end Go.Proofs.YtlkikfdbjpjpaaaGreatDoor.Origin

/-
  The law's FewReq; what it lets through.
-/
import Derived.Test.YtlkikfdbjpjpaaaGreatDoorRqObj
namespace Go.Proofs.YtlkikfdbjpjpaaaGreatDoor.Req
set_option linter.unusedSimpArgs false
set_option linter.unusedVariables false
set_option maxRecDepth 100000


open Go.RowKit Go.Shelf

open Url Show Origin Req

open Path (Strs)

set_option maxRecDepth 100000

def fewR (q : R) : Bool := fewU q.url && (le3 q.mth.length && (le3 q.o.sch.length && (le3 q.o.h.s.size && decide (q.ref.length ≤ 5000))))

/-- What every request of a law keeps to. -/
structure QFit (q : R) : Prop where
  r8 : R8 q
  u : Fit q.url
  pt : ∀ t ∈ q.url.path, t.length ≤ 30000
  os : q.o.h.s.size ≤ 1000
  ol : q.o.sch.length ≤ 1000000
  op : -9223372036854775808 ≤ q.o.port ∧ q.o.port ≤ 9223372036854775807

theorem few_path {u : U} (h : fewU u = true) : u.path.length ≤ 60 ∧ ∀ t ∈ u.path, t.length ≤ 300 := by
  unfold fewU at h
  rw [Bool.and_eq_true] at h
  exact (Path.few_iff _).1 h.1

theorem few_req (q : R) (h8 : R8 q) (hw : (Lit.int .i64 q.o.port).wf = true) (h : fewR q = true) : QFit q ∧ fewU q.url = true := by
  unfold fewR at h
  simp only [Bool.and_eq_true, le3_iff] at h
  obtain ⟨h0, h1, h2, h3, h4⟩ := h
  refine ⟨⟨h8, few_fit q.url h8.u h0, fun t ht => ?_, by omega, by omega, by
    have h := hw
    simp [Lit.wf] at h
    exact ⟨Int.le_trans (by decide) h.1, h.2⟩⟩, h0⟩
  unfold fewU at h0
  rw [Bool.and_eq_true] at h0
  exact Nat.le_trans (((Path.few_iff _).1 h0.1).2 t ht) (by decide)

/-- Where an origin's and an address's parts lie in a request. -/
theorem cR_o (q : R) (pv hv : Value) (h : R8 q) : (cR q pv hv)[24]? = some (.bool q.o.opaq) ∧ (cR q pv hv)[25]? = some (.string (tb q.o.sch)) ∧ (cR q pv hv)[27]? = some (.string q.o.h.s) := by
  refine ⟨(cR_org q pv hv h 0 (by decide)).trans (cO_at q.o h.o).1, (cR_org q pv hv h 1 (by decide)).trans (cO_at q.o h.o).2.1, ?_⟩
  rw [cR_org q pv hv h 3 (by decide), cO_host q.o h.o 1 (by decide)]
  rfl

theorem cR_sch (q : R) (pv hv : Value) (h : R8 q) : (cR q pv hv)[0]? = some (.string (tb q.url.sch)) := (cR_url q pv hv h 0 (by decide)).trans (cU_at q.url pv h.u).1

set_option maxHeartbeats 16000000 in
theorem few_req_any (q : R) (pv hv : Value) (h8 : R8 q) (b : Bool) (hb : fewR q = b) (w : World) (hs : Strs w pv q.url.path) :
    Calls Tryz.prog 11 #[.agg (cR q pv hv)] w fun e w' => e = .returned (.bool b) ∧ Below w.heap.size w w' := by
  have HB := Lib.hid (show Below w.heap.size w (w.alloc (.cells (cR q pv hv) 32)) from (Below.refl _ w).alloc (Nat.le_refl _) _)
  have HR := Lib.hid (RAt.new w q pv hv)
  have HS := Lib.hid (hs.later HB.out)
  have H8 := Lib.hid h8
  obtain ⟨y, hy⟩ : ∃ y, fewU q.url = y := ⟨_, rfl⟩
  have CF := Lib.hid (fun v hs => few_any q.url pv h8.u y hy v hs)
  obtain ⟨M, hM⟩ : ∃ x, tb q.mth = x := ⟨_, rfl⟩
  obtain ⟨S, hS⟩ : ∃ x, tb q.o.sch = x := ⟨_, rfl⟩
  obtain ⟨N, hN⟩ : ∃ x, q.o.h.s = x := ⟨_, rfl⟩
  obtain ⟨E, hE⟩ : ∃ x, tb q.ref = x := ⟨_, rfl⟩
  obtain ⟨b1, hb1⟩ : ∃ b, decide ((M.size : Int) ≤ 300) = b := ⟨_, rfl⟩
  obtain ⟨b2, hb2⟩ : ∃ b, decide ((S.size : Int) ≤ 300) = b := ⟨_, rfl⟩
  obtain ⟨b3, hb3⟩ : ∃ b, decide ((N.size : Int) ≤ 300) = b := ⟨_, rfl⟩
  obtain ⟨b4, hb4⟩ : ∃ b, decide ((E.size : Int) ≤ 5000) = b := ⟨_, rfl⟩
  have hv' : b = (y && (b1 && (b2 && (b3 && b4)))) := by
    rw [← hb, ← hb1, ← hb2, ← hb3, ← hb4, ← hy, ← hM, ← hS, ← hN, ← hE]
    unfold fewR
    rw [show le3 q.mth.length = decide (((tb q.mth).size : Int) ≤ 300) from by unfold le3; exact decide_eq_decide.2 (by rw [tb_size] <;> omega), show le3 q.o.sch.length = decide (((tb q.o.sch).size : Int) ≤ 300) from by unfold le3; exact decide_eq_decide.2 (by rw [tb_size] <;> omega), show le3 q.o.h.s.size = decide ((q.o.h.s.size : Int) ≤ 300) from by unfold le3; exact decide_eq_decide.2 (by omega), show decide (q.ref.length ≤ 5000) = decide (((tb q.ref).size : Int) ≤ 5000) from decide_eq_decide.2 (by rw [tb_size] <;> omega)]
  have HV := Lib.hid hv'
  have HM := Lib.hid hM
  have HSS := Lib.hid hS
  have HN := Lib.hid hN
  have HE := Lib.hid hE
  clear hs h8 hb hy hM hS hN hE hv'
  go_enter Tryz.func11, Tryz.ntmps11
  have hr := HR.out
  go_wp2_with ((with_reducible refine wp_load27r (o := ⟨some 5, .load 27 (.tmp 4), _, _, _, _⟩) ?_ (.tmp 4) ?_ w.heap.size ?_ q pv hv H8.out hr ?_); (· rfl); (· rfl); (· rfl); simp only [Act.put, List.setIfInBounds_toArray, List.set_cons_zero, List.set_cons_succ])
  clear hr
  generalize w.alloc (.cells (cR q pv hv) 32) = W at HB HR HS ⊢
  refine (CF.out _ HS.out).mono ?_
  rintro e u1 ⟨rfl, hB⟩
  have HB1 := Lib.hid (Ascii.below2 HB.out hB)
  have hr := HR.out.later hB
  have c21 := hr.cell 21
  rw [(cR_at q pv hv H8.out).1, HM.out] at c21
  have c41 := hr.cell 41
  rw [(cR_at q pv hv H8.out).2.2.2.2.2.2.1, HE.out] at c41
  have c25 := hr.cell 25
  rw [(cR_o q pv hv H8.out).2.1, HSS.out] at c25
  have c27 := hr.cell 27
  rw [(cR_o q pv hv H8.out).2.2, HN.out] at c27
  clear hB CF HB HR HS hr
  obtain rfl := HV.out
  cases y <;> cases b1 <;> cases b2 <;> cases b3 <;> cases b4
  all_goals
    go_wp2
    go_ret
    exact ⟨rfl, HB1.out⟩

end Go.Proofs.YtlkikfdbjpjpaaaGreatDoor.Req

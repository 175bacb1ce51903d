/-
  The laws' Few: an address of few segments and short texts.
-/
import Derived.Test.YtfdhhjigpboieaaGreatDoorUMay
namespace Go.Proofs.YtfdhhjigpboieaaGreatDoor.Url
open Go.RowKit Go.Shelf
open Host (H HostAt none0 okH mayH)
open Six (arr RowAt zero8)
open Path (Strs)
set_option linter.unusedSimpArgs false
set_option linter.unusedVariables false
set_option maxRecDepth 100000

def le3 (n : Nat) : Bool := decide ((n : Int) ≤ 300)
def fewU (u : U) : Bool := Path.fewB u.path && (le3 u.sch.length && (le3 u.usr.length && (le3 u.pas.length && (le3 u.h.s.size && (le3 u.opq.length && (le3 u.qry.length && le3 u.frg.length))))))
theorem le3_iff (n : Nat) : le3 n = true ↔ n ≤ 300 := by unfold le3; rw [decide_eq_true_eq]; omega
theorem few_fit (u : U) (h8 : u.h.p.length = 8) (h : fewU u = true) : Fit u := by
  unfold fewU at h
  simp only [Bool.and_eq_true, le3_iff] at h
  obtain ⟨h0, h1, h2, h3, h4, h5, h6, h7⟩ := h
  obtain ⟨p1, p2⟩ := (Path.few_iff _).1 h0
  exact ⟨h8, by omega, by omega, fun t ht => by have := p2 t ht; omega, by omega, by omega, by omega, by omega, by omega, by omega⟩
set_option maxHeartbeats 8000000 in
theorem few_any (u : U) (pv : Value) (h8 : u.h.p.length = 8) (b : Bool) (hb : fewU u = b) (w : World) (hs : Strs w pv u.path) :
    Calls Tryz.prog 12 #[.agg (cU u pv)] w fun e w' => e = .returned (.bool b) ∧ Below w.heap.size w w' := by
  have HB0 := Lib.hid (show Below w.heap.size w (w.alloc (.cells (cU u pv) 27)) from (Below.refl _ w).alloc (Nat.le_refl _) _)
  have HU := Lib.hid (UrlAt.new w u pv)
  have CF := Lib.hid (fun v h => Path.few_any pv u.path v h)
  have HS := Lib.hid (hs.later HB0.out)
  have c15 := HU.out.cell 15
  rw [(cU_at u pv h8).2.2.2.2.2.1] at c15
  have c0 := HU.out.cell 0
  rw [(cU_at u pv h8).1] at c0
  have c1 := HU.out.cell 1
  rw [(cU_at u pv h8).2.1] at c1
  have c2 := HU.out.cell 2
  rw [(cU_at u pv h8).2.2.1] at c2
  have c4 := HU.out.cell 4
  rw [(cU_at u pv h8).2.2.2.1] at c4
  have c16 := HU.out.cell 16
  rw [(cU_at u pv h8).2.2.2.2.2.2.1] at c16
  have c17 := HU.out.cell 17
  rw [(cU_at u pv h8).2.2.2.2.2.2.2.1] at c17
  have c18 := HU.out.cell 18
  rw [(cU_at u pv h8).2.2.2.2.2.2.2.2.1] at c18
  unfold fewU at hb
  subst hb
  rw [← tb_size u.sch, ← tb_size u.usr, ← tb_size u.pas, ← tb_size u.opq, ← tb_size u.qry, ← tb_size u.frg]
  generalize tb u.sch = s0 at c0 ⊢
  generalize tb u.usr = s1 at c1 ⊢
  generalize tb u.pas = s2 at c2 ⊢
  generalize u.h.s = s4 at c4 ⊢
  generalize tb u.opq = s16 at c16 ⊢
  generalize tb u.qry = s17 at c17 ⊢
  generalize tb u.frg = s18 at c18 ⊢
  unfold le3
  generalize Path.fewB u.path = b0 at CF ⊢
  clear hs h8
  go_enter Tryz.func12, Tryz.ntmps12
  go_wp2_with fail
  generalize w.alloc (.cells (cU u pv) 27) = W at HB0 HU HS c15 c0 c1 c2 c4 c16 c17 c18 ⊢
  refine (CF.out _ HS.out).mono ?_
  rintro e u1 ⟨rfl, rfl⟩
  clear CF HU HS c15
  cases b0
  · go_wp2
    go_ret
    exact ⟨by first | rfl | (simp only [*]; rfl) | simp [*], HB0.out⟩
  cases q0 : decide ((s0.size : Int) ≤ 300)
  · go_wp2
    go_ret
    exact ⟨by first | rfl | (simp only [*]; rfl) | simp [*], HB0.out⟩
  cases q1 : decide ((s1.size : Int) ≤ 300)
  · go_wp2
    go_ret
    exact ⟨by first | rfl | (simp only [*]; rfl) | simp [*], HB0.out⟩
  cases q2 : decide ((s2.size : Int) ≤ 300)
  · go_wp2
    go_ret
    exact ⟨by first | rfl | (simp only [*]; rfl) | simp [*], HB0.out⟩
  cases q4 : decide ((s4.size : Int) ≤ 300)
  · go_wp2
    go_ret
    exact ⟨by first | rfl | (simp only [*]; rfl) | simp [*], HB0.out⟩
  cases q5 : decide ((s16.size : Int) ≤ 300)
  · go_wp2
    go_ret
    exact ⟨by first | rfl | (simp only [*]; rfl) | simp [*], HB0.out⟩
  cases q6 : decide ((s17.size : Int) ≤ 300)
  · go_wp2
    go_ret
    exact ⟨by first | rfl | (simp only [*]; rfl) | simp [*], HB0.out⟩
  cases q7 : decide ((s18.size : Int) ≤ 300)
  · go_wp2
    go_ret
    exact ⟨by first | rfl | (simp only [*]; rfl) | simp [*], HB0.out⟩
  · go_wp2
    go_ret
    exact ⟨by first | rfl | (simp only [*]; rfl) | simp [*], HB0.out⟩
end Go.Proofs.YtfdhhjigpboieaaGreatDoor.Url

/-
  Package taint's answers as plain functions, and what follows of them.
-/
import Derived.Test.YtlkikfdbjpjpaaaGreatDoorRqObj
namespace Go.Proofs.YtlkikfdbjpjpaaaGreatDoor.Taint
set_option linter.unusedSimpArgs false
set_option linter.unusedVariables false
set_option maxRecDepth 100000


open Url Show Origin

open Req (R R8)

set_option maxRecDepth 100000

def getT : T := [71, 69, 84]

def headT : T := [72, 69, 65, 68]

/-- Is a request at the origin of who asks? -/
def ownB (q : R) : Bool := sameO q.o (ofU q.url)

def taintB (was : Bool) (o : O) (u v : U) : Bool := was || (!bothU u v && !sameO o (ofU u))

def credsB (u : U) : Bool := !(u.usr == []) || !(u.pas == [])

def crossB (q : R) : Bool := q.crs || ((q.mode == 1) && !ownB q)

/-- The method is GET or HEAD. -/
def asksB (q : R) : Bool := (q.mth == getT) || (q.mth == headT)

def quietB (q : R) : Bool := asksB q && (!(q.mode == 1) || !crossB q)

def downB (q : R) : Bool := !q.o.opaq && ((q.o.sch == https) && !(q.url.sch == https))

/-- Does the policy hide who asks? -/
def hideB (q : R) : Bool :=
  if q.pol = 1 then true else if q.pol = 0 ∨ q.pol = 2 ∨ q.pol = 5 ∨ q.pol = 7 then downB q else if q.pol = 3 then !ownB q else false

/-- Is what is told null? -/
def nullB (q : R) : Bool := q.tnt || (!(q.mode == 1) && hideB q)

def sendsB (q : R) : Bool := !quietB q

def sendsT (q : R) : T := if quietB q = true then [] else if nullB q = true then nullT else showO q.o

theorem sends_not {q : R} (h : quietB q = true) : sendsB q = false ∧ sendsT q = [] := by
  unfold sendsB sendsT
  rw [h]
  exact ⟨rfl, if_pos rfl⟩

theorem sends_null {q : R} (h : quietB q = false) (k : nullB q = true) : sendsB q = true ∧ sendsT q = nullT := by
  unfold sendsB sendsT
  rw [h, k]
  exact ⟨rfl, by simp⟩

theorem sends_own {q : R} (h : quietB q = false) (k : nullB q = false) : sendsB q = true ∧ sendsT q = showO q.o := by
  unfold sendsB sendsT
  rw [h, k]
  exact ⟨rfl, by simp⟩
/-! ## the laws -/

theorem stays_law (o : O) (u v : U) : taintB true o u v = true ∧ (taintB false o u v = true → bothU u v = false ∧ sameO o (ofU u) = false) ∧ (taintB false o u v = false → bothU u v = true ∨ sameO o (ofU u) = true) := by
  unfold taintB
  refine ⟨rfl, fun h => ?_, fun h => ?_⟩
  · cases h1 : bothU u v <;> cases h2 : sameO o (ofU u) <;> simp_all
  · cases h1 : bothU u v <;> cases h2 : sameO o (ofU u) <;> simp_all

/-- What is not sent: nothing is told, and the method is GET or HEAD. -/
theorem null_not {q : R} (h : sendsB q = false) : sendsT q = [] ∧ quietB q = true ∧ asksB q = true := by
  have hq : quietB q = true := by unfold sendsB at h; simpa using h
  refine ⟨(sends_not hq).2, hq, ?_⟩
  unfold quietB at hq
  exact (Bool.and_eq_true _ _ ▸ hq).1

/-- What is sent is null, or the origin of one that isn't tainted; and one that asks by GET at its own origin, and was at no other one, sends nothing. -/
theorem null_sent {q : R} (h : sendsB q = true) : (sendsT q = nullT ∨ (sendsT q = showO q.o ∧ q.tnt = false)) ∧ quietB q = false ∧ ¬ (ownB q = true ∧ q.crs = false ∧ q.mth = getT) := by
  have hq : quietB q = false := by unfold sendsB at h; simpa using h
  refine ⟨?_, hq, fun ⟨h1, h2, h3⟩ => ?_⟩
  · cases hn : nullB q
    · refine .inr ⟨(sends_own hq hn).2, ?_⟩
      unfold nullB at hn
      exact (Bool.or_eq_false_iff.1 hn).1
    · exact .inl (sends_null hq hn).2
  · have : quietB q = true := by
      unfold quietB asksB crossB
      rw [h1, h2, h3]
      simp
    rw [this] at hq
    cases hq

/-- Of MoCors: neither the policy matters, nor what it hides. -/
theorem cors_law (q : R) (p : Int) (h : q.mode = 1) :
    (sendsT { q with pol := p } = sendsT q ∧ sendsB { q with pol := p } = sendsB q) ∧ (ownB q = false → sendsB q = true ∧ crossB q = true) ∧ (asksB q = false → sendsB q = true) ∧ (sendsB q = true → (q.tnt = true → sendsT q = nullT) ∧ (q.tnt = false → sendsT q = showO q.o)) := by
  have h1 : (q.mode == 1) = true := by rw [h]; rfl
  have hn : ∀ k : R, k.mode = 1 → nullB k = k.tnt := fun k e => by unfold nullB; rw [e]; simp
  have hc : ownB q = false → crossB q = true := fun e => by unfold crossB; rw [h1, e]; simp
  refine ⟨⟨?_, rfl⟩, fun e => ⟨?_, hc e⟩, fun e => ?_, fun e => ⟨fun t => ?_, fun t => ?_⟩⟩
  · unfold sendsT
    rw [hn q h, hn { q with pol := p } h]
    rfl
  · unfold sendsB quietB
    rw [h1, hc e]
    simp
  · unfold sendsB quietB
    rw [e]
    rfl
  · have hq : quietB q = false := by unfold sendsB at e; simpa using e
    exact (sends_null hq ((hn q h).trans t)).2
  · have hq : quietB q = false := by unfold sendsB at e; simpa using e
    exact (sends_own hq ((hn q h).trans t)).2

/-- Of no MoCors, by another method, not tainted: null by the first policy, the origin by PoAll, PoOrigin, PoCross. -/
theorem policy_law (q : R) (h : q.mode ≠ 1) (ha : asksB q = false) (ht : q.tnt = false) :
    (sendsB { q with pol := 1 } = true ∧ sendsT { q with pol := 1 } = nullT) ∧ ∀ p : Int, p = 8 ∨ p = 4 ∨ p = 6 → sendsB { q with pol := p } = true ∧ sendsT { q with pol := p } = showO q.o := by
  have h1 : (q.mode == 1) = false := beq_eq_false_iff_ne.2 h
  have hq : ∀ p : Int, quietB { q with pol := p } = false := fun p => by
    show (asksB q && _) = false
    rw [ha]; rfl
  refine ⟨sends_null (hq 1) ?_, fun p hp => sends_own (hq p) ?_⟩
  · unfold nullB
    show (q.tnt || (!(q.mode == 1) && hideB { q with pol := 1 })) = true
    rw [h1, show hideB { q with pol := 1 } = true from if_pos rfl]
    simp
  · have hh : hideB { q with pol := p } = false := by
      unfold hideB
      rcases hp with e | e | e <;> subst e <;> simp
    unfold nullB
    show (q.tnt || (!(q.mode == 1) && hideB { q with pol := p })) = false
    rw [hh, ht]
    simp

end Go.Proofs.YtlkikfdbjpjpaaaGreatDoor.Taint

/-
  What package origin answers, as plain functions, and what follows of them.
-/
import Derived.Test.YtlkikfdbjpjpaaaGreatDoorShow
namespace Go.Proofs.YtlkikfdbjpjpaaaGreatDoor.Origin
set_option linter.unusedSimpArgs false
set_option linter.unusedVariables false
set_option maxRecDepth 100000


open Url Show

open Host (H parH okH none0 mayH showH localH)

open Six (zero8)


structure O where
  opaq : Bool
  sch : T
  h : H
  port : Int

def null0 : O := ⟨true, [], none0, 0⟩

def nullT : T := [110, 117, 108, 108]

def ofU (u : U) : O := if mayU u && !decide (webI u.sch = 0) then ⟨false, u.sch, u.h, u.port⟩ else null0

def mayO (o : O) : Bool :=
  if o.opaq then o.sch.isEmpty && (Host.sameH o.h none0 && decide (o.port = 0))
  else !decide (webI o.sch = 0) && (mayH o.h && (decide (-1 ≤ o.port) && (decide (o.port ≤ 65535) && !decide (o.port = webI o.sch))))

def sameO (a b : O) : Bool := mayO a && (mayO b && (!a.opaq && (!b.opaq && (a.sch == b.sch && (Host.sameH a.h b.h && decide (a.port = b.port))))))

def portO (o : O) : T := if o.port = -1 then [] else 58 :: Deci.showI o.port

def textO (o : O) : T := o.sch ++ 58 :: 47 :: 47 :: (showH o.h ++ portO o)

def showO (o : O) : T := if o.opaq || !mayO o then nullT else textO o

def trustU (u : U) : Bool := mayU u && ((u.sch == https) || ((u.sch == http) && localH u.h))

def bothU (u v : U) : Bool := sameO (ofU u) (ofU v)

/-! ## an address's origin -/

theorem of_web {u : U} (h : mayU u = true) (hw : webI u.sch ≠ 0) : ofU u = ⟨false, u.sch, u.h, u.port⟩ := by
  unfold ofU
  rw [h, decide_eq_false hw]; rfl

theorem of_not {u : U} (h : ¬ (mayU u = true ∧ webI u.sch ≠ 0)) : ofU u = null0 := by
  unfold ofU
  cases hm : mayU u
  · rfl
  · by_cases hw : webI u.sch = 0
    · rw [decide_eq_true hw]; rfl
    · exact absurd ⟨hm, hw⟩ h

theorem null_may : mayO null0 = true := by decide +kernel

theorem web_ok {u : U} (h : mayU u = true) (hw : webI u.sch ≠ 0) : WebOk u := by
  rcases (may_parts h).2 with ⟨_, k⟩ | ⟨e, _⟩
  · exact k
  · exact absurd e hw

theorem of_may (u : U) : mayO (ofU u) = true := by
  by_cases h : mayU u = true ∧ webI u.sch ≠ 0
  · rw [of_web h.1 h.2]
    have k := web_ok h.1 h.2
    unfold mayO
    simp only [Bool.false_eq_true, if_false]
    rw [decide_eq_false h.2, k.h, decide_eq_true k.p1, decide_eq_true k.p2, decide_eq_false k.p3]; rfl
  · rw [of_not h]; exact null_may

theorem sameO_iff (a b : O) : sameO a b = true ↔ mayO a = true ∧ mayO b = true ∧ a.opaq = false ∧ b.opaq = false ∧ a.sch = b.sch ∧ a.h = b.h ∧ a.port = b.port := by
  unfold sameO
  simp only [Bool.and_eq_true, Bool.not_eq_true', beq_iff_eq, Host.same_iff, decide_eq_true_eq]

theorem sameO_symm (a b : O) : sameO a b = sameO b a := by
  rw [Bool.eq_iff_iff, sameO_iff, sameO_iff]
  constructor <;> rintro ⟨h1, h2, h3, h4, h5, h6, h7⟩ <;> exact ⟨h2, h1, h4, h3, h5.symm, h6.symm, h7.symm⟩

theorem both_iff (u v : U) : bothU u v = true ↔ (mayU u = true ∧ webI u.sch ≠ 0) ∧ (mayU v = true ∧ webI v.sch ≠ 0) ∧ u.sch = v.sch ∧ u.h = v.h ∧ u.port = v.port := by
  unfold bothU
  rw [sameO_iff]
  by_cases h : mayU u = true ∧ webI u.sch ≠ 0
  · by_cases k : mayU v = true ∧ webI v.sch ≠ 0
    · rw [show mayO (ofU u) = true from of_may u, show mayO (ofU v) = true from of_may v, of_web h.1 h.2, of_web k.1 k.2]
      exact ⟨fun x => ⟨h, k, x.2.2.2.2⟩, fun x => ⟨rfl, rfl, rfl, rfl, x.2.2⟩⟩
    · rw [of_not k]
      exact ⟨fun x => absurd x.2.2.2.1 (by decide), fun x => absurd x.2.1 k⟩
  · rw [of_not h]
    exact ⟨fun x => absurd x.2.2.1 (by decide), fun x => absurd x.1 h⟩

theorem both_symm (u v : U) : bothU u v = bothU v u := sameO_symm _ _

theorem both_self (u : U) : bothU u u = (mayU u && !decide (webI u.sch = 0)) := by
  rw [Bool.eq_iff_iff, both_iff, Bool.and_eq_true, Bool.not_eq_true', decide_eq_false_iff_not]
  exact ⟨fun x => x.1, fun x => ⟨x, x, rfl, rfl, rfl⟩⟩

/-- What has an origin with one of two that have one has it with the other. -/
theorem both_trans {a b : U} (h : bothU a b = true) (c : U) : bothU b c = bothU a c := by
  obtain ⟨h1, h2, h3, h4, h5⟩ := (both_iff a b).1 h
  rw [Bool.eq_iff_iff, both_iff, both_iff, h3, h4, h5]
  constructor
  · rintro ⟨_, x⟩; exact ⟨⟨h1.1, by rw [← h3]; exact h1.2⟩, x⟩
  · rintro ⟨_, x⟩; exact ⟨h2, x⟩

/-! ## what is to be trusted -/

theorem trust_may {u : U} (h : trustU u = true) : mayU u = true ∧ webI u.sch ≠ 0 := by
  unfold trustU at h
  simp only [Bool.and_eq_true, Bool.or_eq_true, beq_iff_eq] at h
  refine ⟨h.1, ?_⟩
  rcases h.2 with e | ⟨e, _⟩ <;> rw [e] <;> decide

theorem trust_both {u v : U} (h : bothU u v = true) : trustU u = trustU v := by
  obtain ⟨h1, h2, h3, h4, h5⟩ := (both_iff u v).1 h
  unfold trustU
  rw [h1.1, h2.1, h3, h4]

theorem trust_https {u : U} (h : u.sch = https) : trustU u = mayU u := by
  unfold trustU
  rw [h]
  simp

/-! ## what is shown -/

theorem portO_of (u : U) (o : O) (h : o.port = u.port) : portO o = portT u := by unfold portO portT; rw [h]

theorem show_of {u : U} (h : mayU u = true) (hw : webI u.sch ≠ 0) : showO (ofU u) = u.sch ++ 58 :: 47 :: 47 :: doorT u := by
  have hm := of_may u
  unfold showO
  rw [hm, of_web h hw]
  rfl

theorem show_null {o : O} (h : (o.opaq || !mayO o) = true) : showO o = nullT := by unfold showO; rw [if_pos h]

theorem show_not {u : U} (h : ¬ (mayU u = true ∧ webI u.sch ≠ 0)) : showO (ofU u) = nullT := by
  rw [of_not h]; decide +kernel

/-- The address that an origin's text tells. -/
theorem par_origin {u : U} (h : mayU u = true) (hw : webI u.sch ≠ 0) (h8 : u.h.p.length = 8) :
    okU (u.sch ++ 58 :: 47 :: 47 :: doorT u) = true ∧ parU (u.sch ++ 58 :: 47 :: 47 :: doorT u) = ⟨u.sch, [], [], u.h, u.port, [[]], [], [], [], false, false⟩ := by
  have k := web_ok h hw
  have hb := fun c hc => door_bytes k c hc
  obtain ⟨s1, s2, s3⟩ := sch_ok h
  have hc : Ascii.clean (u.sch ++ 58 :: 47 :: 47 :: doorT u) = u.sch ++ 58 :: 47 :: 47 :: doorT u := by
    refine clean_same _ (fun c hc => ?_)
    simp only [List.mem_append, List.mem_cons] at hc
    rcases hc with hc | rfl | rfl | rfl | hc
    · exact (s3 c hc).1
    · decide
    · decide
    · decide
    · exact (hb c hc).1
  have n35 : (35 : UInt8) ∉ (47 :: 47 :: doorT u : T) := by
    simp only [List.mem_cons, not_or]
    exact ⟨by decide, by decide, fun hm => (hb _ hm).2.2.2.2.1 rfl⟩
  have n63 : (63 : UInt8) ∉ (47 :: 47 :: doorT u : T) := by
    simp only [List.mem_cons, not_or]
    exact ⟨by decide, by decide, fun hm => (hb _ hm).2.2.2.1 rfl⟩
  obtain ⟨t1, t2, t3, t4, t5⟩ := tA_of _ n35 n63
  obtain ⟨a1, a2⟩ := auth_end (doorT u) (fun hm => (hb _ hm).2.2.1 rfl)
  obtain ⟨p1, p2, p3⟩ := place_no (doorT u) (fun hm => (hb _ hm).2.2.2.2.2 rfl)
  obtain ⟨q1, q2, q3⟩ := door_cut k
  obtain ⟨k1, k2, k3, k4⟩ := Host.show_back u.h h8 k.h
  unfold okU parU
  rw [hc]
  have hB : webB (tA (47 :: 47 :: doorT u)) = true := by
    rw [t1, web_pre, a1, p1, q1, q2, k1]; rfl
  obtain ⟨o1, o2⟩ := par_at u.sch (doorT u) s1 s2 hw _ (rfl : (47 :: 47 :: doorT u : T) = _)
  refine ⟨o1.trans hB, (o2 hB).trans ?_⟩
  unfold tailU webU
  rw [t1, t2, t3, t4, t5, a1, a2, p1, p2, p3, q1, q3, k2]
  have e : Path.parse [47] = [[]] := by decide +kernel
  rw [e]
  rfl

theorem text_origin {u : U} (h : mayU u = true) (hw : webI u.sch ≠ 0) (h8 : u.h.p.length = 8) :
    mayU ⟨u.sch, [], [], u.h, u.port, [[]], [], [], [], false, false⟩ = true ∧ showU ⟨u.sch, [], [], u.h, u.port, [[]], [], [], [], false, false⟩ = u.sch ++ 58 :: 47 :: 47 :: doorT u ++ [47] := by
  have hm : mayU ⟨u.sch, [], [], u.h, u.port, [[]], [], [], [], false, false⟩ = true := by
    obtain ⟨p1, p2⟩ := par_origin h hw h8
    rw [← p2]; exact par_may _ p1
  refine ⟨hm, ?_⟩
  unfold showU
  rw [if_pos hm]
  unfold textU midT restT
  rw [if_neg hw]
  simp [userT, qT, fT, Path.show1, doorT, portT]

/-- Two origins shown as one text, one of them an address's of the web: they are one. -/
theorem show_both {u : U} (h : mayU u = true) (hw : webI u.sch ≠ 0) (h8 : u.h.p.length = 8) (v : U) (k8 : v.h.p.length = 8) : (showO (ofU u) = showO (ofU v)) ↔ bothU u v = true := by
  rw [both_iff]
  constructor
  · intro e
    by_cases k : mayU v = true ∧ webI v.sch ≠ 0
    · refine ⟨⟨h, hw⟩, k, ?_⟩
      rw [show_of h hw, show_of k.1 k.2] at e
      have e1 := (par_origin h hw h8).2
      rw [e, (par_origin k.1 k.2 k8).2] at e1
      simp only [U.mk.injEq] at e1
      exact ⟨e1.1.symm, e1.2.2.2.1.symm, e1.2.2.2.2.1.symm⟩
    · rw [show_of h hw, show_not k] at e
      exfalso
      rcases web_cases u.sch with ⟨x, _⟩ | ⟨x, _⟩ | x
      · rw [x] at e; cases e
      · rw [x] at e; cases e
      · exact hw x
  · rintro ⟨_, k, e1, e2, e3⟩
    rw [show_of h hw, show_of k.1 k.2]
    unfold doorT portT
    rw [e1, e2, e3]

/-- What may be, not opaque, is shown with its scheme. -/
theorem show_begins {o : O} (h : mayO o = true) (ho : o.opaq = false) : showO o = o.sch ++ 58 :: 47 :: 47 :: (showH o.h ++ portO o) := by
  unfold showO
  rw [h, ho]; rfl

theorem same_none {a b : O} (h : (a.opaq || !mayO a) = true) : sameO a b = false ∧ sameO b a = false := by
  have k : sameO a b = false := by
    cases e : sameO a b
    · rfl
    · obtain ⟨h1, _, h3, _⟩ := (sameO_iff a b).1 e
      rw [h1, h3] at h; cases h
  exact ⟨k, by rw [sameO_symm]; exact k⟩
/-! ## the address that tells an origin alone -/

def adr (o : O) : U := ⟨o.sch, [], [], o.h, o.port, [[]], [], [], [], false, false⟩

theorem adr_may (o : O) : mayU (adr o) = (!decide (webI o.sch = 0) && (mayH o.h && (decide (-1 ≤ o.port) && (decide (o.port ≤ 65535) && !decide (o.port = webI o.sch))))) := by
  have h2 : Pct.readyB 2 [] = true := by decide +kernel
  have h1 : Pct.readyB 1 [] = true := by decide +kernel
  have h4 : Pct.readyB 4 [] = true := by decide +kernel
  have hp : Path.mayP [[]] = true := by decide +kernel
  unfold mayU tailB adr
  by_cases hw : webI o.sch = 0
  · rw [if_pos hw, decide_eq_true hw]
    unfold mayOpq
    simp
  · rw [if_neg hw, decide_eq_false hw]
    unfold mayWeb mayPort
    simp only [h1, h2, h4, hp, List.isEmpty_nil, Bool.or_true, Bool.and_true, Bool.true_and, Bool.not_false]

def eqO (a b : O) : Bool := (a.opaq == b.opaq) && ((a.sch == b.sch) && (Host.sameH a.h b.h && (a.port == b.port)))

theorem eqO_iff (a b : O) : eqO a b = true ↔ a = b := by
  unfold eqO
  rw [Bool.and_eq_true, Bool.and_eq_true, Bool.and_eq_true, beq_iff_eq, beq_iff_eq, beq_iff_eq, Host.same_iff]
  constructor
  · rintro ⟨h1, h2, h3, h4⟩
    obtain ⟨_, _, _, _⟩ := a
    obtain ⟨_, _, _, _⟩ := b
    simp only at h1 h2 h3 h4
    subst h1; subst h2; subst h3; subst h4; rfl
  · rintro rfl; exact ⟨rfl, rfl, rfl, rfl⟩

/-- What may be comes back from the address that tells it; nothing else does. -/
theorem of_adr (o : O) : eqO (ofU (adr o)) o = mayO o := by
  rw [Bool.eq_iff_iff, eqO_iff]
  have hm := adr_may o
  by_cases h : mayU (adr o) = true ∧ webI o.sch ≠ 0
  · rw [of_web h.1 h.2]
    rw [h.1] at hm
    constructor
    · intro e
      rw [← e]
      unfold mayO
      simp only [Bool.false_eq_true, if_false]
      exact hm.symm
    · intro k
      obtain ⟨q, s, hh, z⟩ := o
      cases q
      · rfl
      · unfold mayO at k
        simp only [if_true, Bool.and_eq_true, List.isEmpty_iff] at k
        exact absurd (show webI s = 0 by rw [k.1]; rfl) h.2
  · rw [of_not h]
    obtain ⟨q, s, hh, z⟩ := o
    constructor
    · intro e
      rw [← e]; exact null_may
    · intro k
      cases q
      · exfalso
        unfold mayO at k
        simp only [Bool.false_eq_true, if_false] at k
        rw [← hm] at k
        refine h ⟨k, fun e => ?_⟩
        rw [k] at hm
        simp only at e
        rw [decide_eq_true e] at hm
        cases hm
      · unfold mayO at k
        simp only [if_true, Bool.and_eq_true, List.isEmpty_iff, Host.same_iff, decide_eq_true_eq] at k
        obtain ⟨k1, k2, k3⟩ := k
        subst k1; subst k2; subst k3; rfl

theorem same_named (a b : O) : (eqO a b && (mayO a && !a.opaq)) = sameO a b := by
  rw [Bool.eq_iff_iff, sameO_iff, Bool.and_eq_true, Bool.and_eq_true, eqO_iff, Bool.not_eq_true']
  constructor
  · rintro ⟨rfl, h1, h2⟩; exact ⟨h1, h1, h2, h2, rfl, rfl, rfl⟩
  · rintro ⟨h1, _, h3, h4, h5, h6, h7⟩
    refine ⟨?_, h1, h3⟩
    obtain ⟨_, _, _, _⟩ := a
    obtain ⟨_, _, _, _⟩ := b
    simp only at h3 h4 h5 h6 h7
    subst h3; subst h4; subst h5; subst h6; subst h7; rfl

theorem trust_of (u : U) : trustU u = ((ofU u).sch == https || ((ofU u).sch == http && localH (ofU u).h)) := by
  by_cases h : mayU u = true ∧ webI u.sch ≠ 0
  · rw [of_web h.1 h.2]
    unfold trustU
    rw [h.1]; rfl
  · rw [of_not h]
    have e : (null0.sch == https || (null0.sch == http && localH null0.h)) = false := by decide +kernel
    rw [e]
    cases k : trustU u
    · rfl
    · exact absurd (trust_may k) h

theorem show_adr {o : O} (h : mayO o = true) (ho : o.opaq = false) : o.sch ++ 58 :: 47 :: 47 :: doorU (adr o) = showO o := by
  have hk := h
  unfold mayO at hk
  rw [ho] at hk
  simp only [Bool.false_eq_true, if_false] at hk
  rw [← adr_may o] at hk
  have hw : webI o.sch ≠ 0 := by
    intro e
    have hm := adr_may o
    rw [hk, decide_eq_true e] at hm
    cases hm
  rw [show_begins h ho]
  unfold doorU
  rw [hk, show decide (webI (adr o).sch = 0) = false from decide_eq_false hw]
  rfl

theorem adr_fit (o : O) (h8 : o.h.p.length = 8) (hs : o.h.s.size ≤ 1000) (hl : o.sch.length ≤ 1000000) : Fit (adr o) :=
  ⟨h8, hs, Nat.le_add_left 1 9999, fun t ht => by rw [List.mem_singleton.1 ht]; exact Nat.zero_le _, hl, Nat.zero_le _, Nat.zero_le _, Nat.zero_le _, Nat.zero_le _, Nat.zero_le _⟩

theorem of_len (u : U) (h8 : u.h.p.length = 8) : (ofU u).h.p.length = 8 := by
  unfold ofU
  split
  · exact h8
  · rfl

theorem of_size (u : U) (hf : Fit u) : (ofU u).h.p.length = 8 ∧ (ofU u).h.s.size ≤ 1000 ∧ (ofU u).sch.length ≤ 1000000 := by
  unfold ofU
  split
  · exact ⟨hf.h8, hf.hs, hf.sch⟩
  · exact ⟨rfl, Nat.zero_le _, Nat.zero_le _⟩

end Go.Proofs.YtlkikfdbjpjpaaaGreatDoor.Origin

/-
  What package strip answers, as plain functions, and what follows of them.
  The chapter's example, plain.
-/
import Derived.Test.YtbmnhmbicefemaaGreatDoorOAwake
import Derived.Test.YtbmnhmbicefemaaGreatDoorPlFacts
namespace Go.Proofs.YtbmnhmbicefemaaGreatDoor.Strip
set_option linter.unusedSimpArgs false
set_option linter.unusedVariables false
set_option maxRecDepth 100000


open Url Show Origin

open Host (H none0 mayH showH localH)

open Policy (meetI)


theorem of_kind (u : U) (h : (ofU u).h.k = 3) : u.h.k = 3 := by
  by_cases k : mayU u = true ∧ webI u.sch ≠ 0
  · rw [of_web k.1 k.2] at h; exact h
  · rw [of_not k] at h; exact absurd h (by decide)

/-- It may be, and is of the web. -/
def tells (u : U) : Bool := mayU u && !decide (webI u.sch = 0)

def srcT (u : U) : T := showO (ofU u) ++ [47]

def whlT (u : U) : T := showU (openU u)

def capW (u : U) : T := if (whlT u).length ≤ 4096 then whlT u else srcT u

def orgT (u : U) : T := if tells u then srcT u else []

def fullT (u : U) : T := if tells u then whlT u else []

def capT (u : U) : T := if tells u then capW u else []

def tellB (u : U) (l : Int) : Bool := tells u && (l == 1 || l == 2)

def tellT (u : U) (l : Int) : T := if tells u then (if l = 1 then srcT u else if l = 2 then capW u else []) else []

theorem tells_iff (u : U) : tells u = true ↔ mayU u = true ∧ webI u.sch ≠ 0 := by
  unfold tells
  rw [Bool.and_eq_true, Bool.not_eq_true', decide_eq_false_iff_not]

theorem tells_of {u : U} (h : mayU u = true) (hw : webI u.sch ≠ 0) : tells u = true := (tells_iff u).2 ⟨h, hw⟩

theorem tells_not {u : U} (h : ¬ (mayU u = true ∧ webI u.sch ≠ 0)) : tells u = false := by
  cases e : tells u
  · rfl
  · exact absurd ((tells_iff u).1 e) h

theorem org_yes {u : U} (h : tells u = true) : orgT u = srcT u := if_pos h

theorem full_yes {u : U} (h : tells u = true) : fullT u = whlT u := if_pos h

theorem cap_yes {u : U} (h : tells u = true) : capT u = capW u := if_pos h

theorem tell_yes {u : U} (h : tells u = true) (l : Int) : tellT u l = if l = 1 then srcT u else if l = 2 then capW u else [] := if_pos h

theorem tell_not {u : U} {l : Int} (h : tellB u l = false) : tellT u l = [] := by
  unfold tellB at h
  unfold tellT
  cases ht : tells u
  · rfl
  · rw [ht] at h
    simp only [Bool.true_and, Bool.or_eq_false_iff, beq_eq_false_iff_ne] at h
    simp only [if_true]
    rw [if_neg h.1, if_neg h.2]

theorem tellB_iff (u : U) (l : Int) : tellB u l = true ↔ tells u = true ∧ (l = 1 ∨ l = 2) := by
  unfold tellB
  rw [Bool.and_eq_true, Bool.or_eq_true, beq_iff_eq, beq_iff_eq]

/-! ## where an address comes from, and all of it -/

theorem src_of {u : U} (h : tells u = true) : srcT u = u.sch ++ 58 :: 47 :: 47 :: (doorT u ++ [47]) := by
  obtain ⟨h1, h2⟩ := (tells_iff u).1 h
  unfold srcT
  rw [show_of h1 h2]
  simp

theorem whl_of {u : U} (h : tells u = true) : ∃ r, whlT u = srcT u ++ r := by
  obtain ⟨h1, h2⟩ := (tells_iff u).1 h
  have k := web_ok h1 h2
  obtain ⟨r, hr⟩ := path_head k.path
  refine ⟨r ++ (qT u ++ []), ?_⟩
  rw [src_of h]
  unfold whlT showU
  rw [if_pos (open_may h1)]
  show u.sch ++ 58 :: ((if webI u.sch = 0 then u.opq else 47 :: 47 :: ([] ++ (doorT u ++ Path.show1 u.path))) ++ (qT u ++ [])) = _
  rw [if_neg h2, hr]
  simp

theorem src_le {u : U} (h : tells u = true) : (srcT u).length ≤ (whlT u).length := by
  obtain ⟨r, hr⟩ := whl_of h
  rw [hr, List.length_append]; omega

theorem src_take {u : U} (h : tells u = true) : (whlT u).take (srcT u).length = srcT u := by
  obtain ⟨r, hr⟩ := whl_of h
  rw [hr, List.take_left]

theorem door_short (u : U) (hf : Fit u) (k : WebOk u) : (doorT u).length ≤ 200 := by
  have h1 := host_len u hf
  have h2 := port_len u (by have := k.p2; omega) (by have := k.p1; omega)
  unfold doorT portT
  split
  · rw [List.append_nil]; omega
  · rw [List.length_append, List.length_cons]; omega

theorem sch_short {u : U} (k : WebOk u) : u.sch.length ≤ 5 := by
  rcases k.sch with e | e <;> rw [e] <;> decide

theorem src_short {u : U} (h : tells u = true) (hf : Fit u) : (srcT u).length ≤ 300 := by
  obtain ⟨h1, h2⟩ := (tells_iff u).1 h
  have k := web_ok h1 h2
  have a := door_short u hf k
  have b := sch_short k
  rw [src_of h]
  simp only [List.length_append, List.length_cons, List.length_nil]
  omega

theorem cap_short {u : U} (h : tells u = true) (hf : Fit u) : (capW u).length ≤ 4096 := by
  unfold capW
  split
  · assumption
  · have := src_short h hf; omega

theorem cap_ways (u : U) : capW u = whlT u ∨ capW u = srcT u := by
  unfold capW
  split
  · exact .inl rfl
  · exact .inr rfl

theorem src_cap {u : U} (h : tells u = true) : (srcT u).length ≤ (capW u).length := by
  rcases cap_ways u with e | e <;> rw [e]
  · exact src_le h
  · exact Nat.le_refl _

/-- The address that tells where another one comes from. -/
def srcU (u : U) : U := ⟨u.sch, [], [], u.h, u.port, [[]], [], [], [], false, false⟩

theorem src_par {u : U} (h : tells u = true) (h8 : u.h.p.length = 8) : okU (srcT u) = true ∧ parU (srcT u) = srcU u ∧ mayU (srcU u) = true := by
  obtain ⟨h1, h2⟩ := (tells_iff u).1 h
  obtain ⟨a, b⟩ := text_origin h1 h2 h8
  have e : srcT u = showU (srcU u) := by
    unfold srcT srcU
    rw [b, show_of h1 h2]
  rw [e]
  obtain ⟨p1, p2⟩ := par_show a h8
  exact ⟨p1, p2, a⟩

theorem src_both {u : U} (h : tells u = true) (h8 : u.h.p.length = 8) : bothU u (srcU u) = true := by
  obtain ⟨h1, h2⟩ := (tells_iff u).1 h
  exact (both_web _ h1 h2).2 ⟨⟨(src_par h h8).2.2, h2⟩, rfl, rfl, rfl⟩

theorem whl_par {u : U} (h : tells u = true) (h8 : u.h.p.length = 8) : okU (whlT u) = true ∧ parU (whlT u) = openU u := par_show (open_may ((tells_iff u).1 h).1) h8

theorem whl_both {u : U} (h : tells u = true) : bothU u (openU u) = true := by
  obtain ⟨h1, h2⟩ := (tells_iff u).1 h
  exact (both_web _ h1 h2).2 ⟨⟨open_may h1, h2⟩, rfl, rfl, rfl⟩

/-- What is told at a level, as an address. -/
def toldU (u : U) (l : Int) : U := if l = 1 then srcU u else if (whlT u).length ≤ 4096 then openU u else srcU u

theorem told_par {u : U} {l : Int} (h : tellB u l = true) (h8 : u.h.p.length = 8) (hf : Fit u) :
    okU (tellT u l) = true ∧ parU (tellT u l) = toldU u l ∧ (toldU u l).usr = [] ∧ (toldU u l).pas = [] ∧ (toldU u l).hf = false ∧ (toldU u l).h = u.h ∧ bothU u (toldU u l) = true ∧ (tellT u l).length ≤ 4096 ∧ Fit (toldU u l) := by
  obtain ⟨ht, hl⟩ := (tellB_iff u l).1 h
  obtain ⟨a1, a2, a3⟩ := src_par ht h8
  obtain ⟨b1, b2⟩ := whl_par ht h8
  have c1 := src_both ht h8
  have c2 := whl_both ht
  have s1 : Fit (srcU u) := ⟨h8, hf.hs, by show 1 ≤ 10000; omega, (fun t ht => by rw [List.mem_singleton.1 ht]; exact Nat.zero_le _), hf.sch, Nat.zero_le _, Nat.zero_le _, Nat.zero_le _, Nat.zero_le _, Nat.zero_le _⟩
  have s2 := open_fit hf
  have n1 := src_short ht hf
  rw [tell_yes ht]
  unfold toldU capW
  rcases hl with rfl | rfl
  · simp only [if_true]
    exact ⟨a1, a2, rfl, rfl, rfl, rfl, c1, by omega, s1⟩
  · simp only [show ((2 : Int) = 1) = False from eq_false (by decide), if_false, if_true]
    split
    · exact ⟨b1, b2, rfl, rfl, rfl, rfl, c2, by assumption, s2⟩
    · exact ⟨a1, a2, rfl, rfl, rfl, rfl, c1, by omega, s1⟩

theorem told_none {u : U} {l : Int} (h : tellB u l = false) : tellT u l = [] ∧ (l < 1 ∨ 2 < l ∨ mayU u = false ∨ webI u.sch = 0) := by
  refine ⟨tell_not h, ?_⟩
  by_cases hl : l = 1 ∨ l = 2
  · have ht : tells u = false := by
      cases e : tells u
      · rfl
      · rw [(tellB_iff u l).2 ⟨e, hl⟩] at h; cases h
    by_cases hw : webI u.sch = 0
    · exact .inr (.inr (.inr hw))
    · refine .inr (.inr (.inl ?_))
      cases e : mayU u
      · rfl
      · rw [tells_of e hw] at ht; cases ht
  · omega

/-! ## what does not hang on what -/

theorem org_both {u v : U} (h : bothU u v = true) : orgT u = orgT v := by
  obtain ⟨h1, h2, h3, h4, h5⟩ := (both_iff u v).1 h
  rw [org_yes (tells_of h1.1 h1.2), org_yes (tells_of h2.1 h2.2), src_of (tells_of h1.1 h1.2), src_of (tells_of h2.1 h2.2)]
  unfold doorT portT
  rw [h3, h4, h5]

theorem org_eq {u v : U} (h : tells u = true) (k : tells v = true) (h8 : u.h.p.length = 8) (k8 : v.h.p.length = 8) : (orgT u = orgT v) ↔ bothU u v = true := by
  obtain ⟨h1, h2⟩ := (tells_iff u).1 h
  rw [org_yes h, org_yes k]
  unfold srcT
  rw [List.append_left_inj]
  exact show_both h1 h2 h8 v k8

/-- An address with another one's user, and fragment. -/
def withU (u v : U) : U := { u with usr := v.usr, pas := v.pas, frg := v.frg, hf := v.hf }

theorem with_may {u v : U} (h : tells u = true) (k : tells v = true) : mayU (withU u v) = true := by
  obtain ⟨h1, hu⟩ := (tells_iff u).1 h
  obtain ⟨k1, hv⟩ := (tells_iff v).1 k
  unfold mayU at h1 k1
  rw [if_neg hu, Bool.and_eq_true] at h1
  rw [if_neg hv, Bool.and_eq_true] at k1
  obtain ⟨t1, m1⟩ := h1
  obtain ⟨t2, m2⟩ := k1
  unfold tailB at t1 t2
  unfold mayWeb at m1 m2
  rw [Bool.and_eq_true] at t1 t2
  simp only [Bool.and_eq_true] at m1 m2
  obtain ⟨a1, a2, a3, a4, a5, a6⟩ := m1
  obtain ⟨b1, b2, b3, b4, b5, b6⟩ := m2
  show (((Pct.readyB 2 u.qry && (u.hq || u.qry.isEmpty)) && (Pct.readyB 1 v.frg && (v.hf || v.frg.isEmpty))) && (if webI u.sch = 0 then _ else (mayH u.h && (Pct.readyB 4 v.usr && (Pct.readyB 4 v.pas && (Path.mayP u.path && (u.opq.isEmpty && mayPort u))))))) = true
  rw [if_neg hu, t1.1, t2.2, a1, b2, b3, a4, a5, a6]
  rfl

theorem with_told {u v : U} (h : tells u = true) (k : tells v = true) : fullT (withU u v) = fullT u ∧ capT (withU u v) = capT u := by
  have hw : tells (withU u v) = true := tells_of (with_may h k) ((tells_iff u).1 h).2
  have e : whlT (withU u v) = whlT u := rfl
  have e2 : srcT (withU u v) = srcT u := by
    rw [src_of hw, src_of h]; rfl
  rw [full_yes h, full_yes hw, cap_yes h, cap_yes hw]
  unfold capW
  rw [e, e2]
  exact ⟨rfl, rfl⟩

/-- With another query. -/
def qryU (u : U) (q : T) : U := { u with qry := q, hq := true }

theorem qry_org {u : U} (q : T) (h : tells u = true) (k : mayU (qryU u q) = true) : orgT u = orgT (qryU u q) := by
  have hq : tells (qryU u q) = true := tells_of k ((tells_iff u).1 h).2
  rw [org_yes h, org_yes hq, src_of h, src_of hq]; rfl

theorem qry_full {u : U} (q : T) (h8 : u.h.p.length = 8) (h : tells u = true) (k : mayU (qryU u q) = true) : (fullT u == fullT (qryU u q)) = (u.hq && (u.qry == q)) := by
  have hq : tells (qryU u q) = true := tells_of k ((tells_iff u).1 h).2
  rw [full_yes h, full_yes hq, Bool.eq_iff_iff, beq_iff_eq, Bool.and_eq_true, beq_iff_eq]
  constructor
  · intro e
    have e1 : openU u = openU (qryU u q) := show_inj (open_may ((tells_iff u).1 h).1) h8 (open_may k) h8 e
    have e2 := congrArg U.qry e1
    have e3 := congrArg U.hq e1
    exact ⟨e3, e2⟩
  · rintro ⟨e1, e2⟩
    have : qryU u q = u := by
      obtain ⟨sch, usr, pas, hh, port, path, opq, qry, frg, hq, hf⟩ := u
      simp only at e1 e2
      subst e1; subst e2; rfl
    rw [this]

/-! ## levels -/

theorem meet_iff (a b : Int) : (meetI a b = 1 ∨ meetI a b = 2) ↔ ((a = 1 ∨ a = 2) ∧ (b = 1 ∨ b = 2)) := by
  unfold meetI
  split <;> omega

theorem meet_tells (u : U) (a b : Int) : (tellB u a && tellB u b) = tellB u (meetI a b) := by
  rw [Bool.eq_iff_iff, Bool.and_eq_true, tellB_iff, tellB_iff, tellB_iff, meet_iff]
  exact ⟨fun ⟨⟨h, x⟩, _, y⟩ => ⟨h, x, y⟩, fun ⟨h, x, y⟩ => ⟨⟨h, x⟩, h, y⟩⟩

theorem meet_told {u : U} {a b : Int} (h : tellB u (meetI a b) = true) : tellB u a = true ∧ tellB u b = true ∧ (tellT u (meetI a b)).length ≤ (tellT u a).length ∧ (tellT u (meetI a b)).length ≤ (tellT u b).length ∧ (tellT u (meetI a b) = tellT u a ∨ tellT u (meetI a b) = tellT u b) := by
  obtain ⟨ht, hl⟩ := (tellB_iff _ _).1 h
  obtain ⟨ha, hb⟩ := (meet_iff a b).1 hl
  refine ⟨(tellB_iff _ _).2 ⟨ht, ha⟩, (tellB_iff _ _).2 ⟨ht, hb⟩, ?_⟩
  have hs := src_cap ht
  simp only [tell_yes ht]
  have m11 : meetI 1 1 = 1 := by decide
  have m12 : meetI 1 2 = 1 := by decide
  have m21 : meetI 2 1 = 1 := by decide
  have m22 : meetI 2 2 = 2 := by decide
  rcases ha with rfl | rfl <;> rcases hb with rfl | rfl <;> simp [m11, m12, m21, m22, hs]



set_option maxRecDepth 100000

def wP : T := [104, 116, 116, 112, 115, 58, 47, 47, 117, 58, 112, 64, 97, 46, 111, 114, 103, 47, 98, 63, 99, 35, 100]

def uP : U := ⟨https, [117], [112], aH, -1, [[98]], [], [99], [100], true, true⟩

theorem wP_ok : okU wP = true := by decide +kernel

theorem wP_par : parU wP = uP := by
  have h1 : Ascii.clean wP = wP := by decide +kernel
  have h2 : okS wP = true := by decide +kernel
  have h3 : schS wP = https := by decide +kernel
  have h4 : schR wP = [47, 47, 117, 58, 112, 64, 97, 46, 111, 114, 103, 47, 98, 63, 99, 35, 100] := by decide +kernel
  have h5 : tA [47, 47, 117, 58, 112, 64, 97, 46, 111, 114, 103, 47, 98, 63, 99, 35, 100] = [47, 47, 117, 58, 112, 64, 97, 46, 111, 114, 103, 47, 98] := by decide +kernel
  have h6 : hname (place (auth [47, 47, 117, 58, 112, 64, 97, 46, 111, 114, 103, 47, 98])) = aorg := by decide +kernel
  unfold parU
  rw [h1]
  unfold parS aheadU
  rw [h2, if_pos rfl, h3, h4, h5, if_neg (by decide)]
  unfold tailU webU
  rw [h6, aorg_ok.2]
  unfold uP
  rw [U.mk.injEq]
  exact ⟨rfl, by decide +kernel, by decide +kernel, rfl, by decide +kernel, by decide +kernel, rfl, by decide +kernel, by decide +kernel, by decide +kernel, by decide +kernel⟩

theorem uP_may : mayU uP = true := by rw [← wP_par]; exact par_may _ wP_ok

theorem uP_tells : tells uP = true := tells_of uP_may (by decide)

theorem uP_fit : Fit uP := ⟨rfl, by decide, by decide, by decide, by decide, by decide, by decide, by decide, by decide, by decide⟩

theorem uP_src : srcT uP = [104, 116, 116, 112, 115, 58, 47, 47, 97, 46, 111, 114, 103, 47] := by
  rw [src_of uP_tells]
  unfold doorT portT
  rw [show uP.h = aH from rfl, show uP.port = -1 from rfl, if_pos rfl, show showH aH = aorg from aorg_show]
  rfl

theorem uP_whl : whlT uP = [104, 116, 116, 112, 115, 58, 47, 47, 97, 46, 111, 114, 103, 47, 98, 63, 99] := by
  unfold whlT showU
  rw [if_pos (open_may uP_may)]
  unfold textU midT restT doorT
  rw [show (openU uP).h = aH from rfl, show showH aH = aorg from aorg_show]
  decide +kernel

theorem uP_cap : capW uP = whlT uP := by unfold capW; rw [uP_whl]; exact if_pos (by decide)

theorem uP_org : tb (orgT uP) = ⟨#[104, 116, 116, 112, 115, 58, 47, 47, 97, 46, 111, 114, 103, 47]⟩ := by rw [org_yes uP_tells, uP_src]; rfl

theorem uP_full : tb (fullT uP) = ⟨#[104, 116, 116, 112, 115, 58, 47, 47, 97, 46, 111, 114, 103, 47, 98, 63, 99]⟩ := by rw [full_yes uP_tells, uP_whl]; rfl

theorem uP_capT : tb (capT uP) = ⟨#[104, 116, 116, 112, 115, 58, 47, 47, 97, 46, 111, 114, 103, 47, 98, 63, 99]⟩ := by rw [cap_yes uP_tells, uP_cap, uP_whl]; rfl

theorem uP_tell2 : tb (tellT uP 2) = ⟨#[104, 116, 116, 112, 115, 58, 47, 47, 97, 46, 111, 114, 103, 47, 98, 63, 99]⟩ := by rw [tell_yes uP_tells, if_neg (by decide), if_pos rfl, uP_cap, uP_whl]; rfl

theorem uP_tell1 : tb (tellT uP 1) = ⟨#[104, 116, 116, 112, 115, 58, 47, 47, 97, 46, 111, 114, 103, 47]⟩ := by rw [tell_yes uP_tells, if_pos rfl, uP_src]; rfl

theorem uP_tell0 : tb (tellT uP 0) = ⟨#[]⟩ := by rw [tell_yes uP_tells, if_neg (by decide), if_neg (by decide)]; rfl

theorem uP_is2 : tellB uP 2 = true := (tellB_iff _ _).2 ⟨uP_tells, .inr rfl⟩

theorem uP_is1 : tellB uP 1 = true := (tellB_iff _ _).2 ⟨uP_tells, .inl rfl⟩

theorem uP_is0 : tellB uP 0 = false := by unfold tellB; rw [uP_tells]; rfl

end Go.Proofs.YtbmnhmbicefemaaGreatDoor.Strip

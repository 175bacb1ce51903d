/-
  What package refer answers, as plain functions; what follows of them; the chapter's example, plain.
  The chapter's example, plain.
-/
import Derived.Test.YtbmnhmbicefemaaGreatDoorStFacts
namespace Go.Proofs.YtbmnhmbicefemaaGreatDoor.Refer
set_option linter.unusedSimpArgs false
set_option linter.unusedVariables false
set_option maxRecDepth 100000


open Url Show Origin Strip

open Host (H none0 mayH showH localH)

open Policy (allowI mostI strictB uN lev wayN rowL each mostTo strictTo)

set_option maxRecDepth 100000

/-- A text is an address of the web. -/
def fromB (l : T) : Bool := okU l && !decide (webI (parU l).sch = 0)

def fromU (l : T) : U := if fromB l then parU l else none1

def downU (u v : U) : Bool := trustU u && !trustU v

def levelU (p : Int) (u v : U) : Int := allowI p (bothU u v) (downU u v)

def refB (p : Int) (l : T) (v : U) : Bool := fromB l && tellB (parU l) (levelU p (parU l) v)

def refT (p : Int) (l : T) (v : U) : T := if fromB l then tellT (parU l) (levelU p (parU l) v) else []

theorem from_iff (l : T) : fromB l = true ↔ okU l = true ∧ webI (parU l).sch ≠ 0 := by
  unfold fromB
  rw [Bool.and_eq_true, Bool.not_eq_true', decide_eq_false_iff_not]

theorem from_tells {l : T} (h : fromB l = true) : tells (parU l) = true := by
  obtain ⟨h1, h2⟩ := (from_iff l).1 h
  exact tells_of (par_may _ h1) h2

theorem from_yes {l : T} (h : fromB l = true) : fromU l = parU l := if_pos h

theorem from_no {l : T} (h : fromB l = false) : fromU l = none1 := by unfold fromU; rw [h]; rfl

theorem ref_yes {p : Int} {l : T} {v : U} (h : fromB l = true) : refB p l v = tellB (parU l) (levelU p (parU l) v) ∧ refT p l v = tellT (parU l) (levelU p (parU l) v) := by
  unfold refB refT
  rw [h]
  exact ⟨rfl, rfl⟩

theorem ref_no {p : Int} {l : T} {v : U} (h : fromB l = false) : refB p l v = false ∧ refT p l v = [] := by
  unfold refB refT
  rw [h]
  exact ⟨rfl, rfl⟩

theorem level_small (p : Int) (u v : U) : 0 ≤ levelU p u v ∧ levelU p u v < 3 := Policy.lev_small _ _

theorem level_cases (p : Int) (u v : U) : levelU p u v = 0 ∨ levelU p u v = 1 ∨ levelU p u v = 2 := by have := level_small p u v; omega

theorem level_never (u v : U) : levelU 1 u v = 0 := by
  unfold levelU
  cases bothU u v <;> cases downU u v <;> decide

theorem level_most (p : Int) (u v : U) : levelU p u v ≤ mostI p := Policy.less_most p _ _

theorem level_strict {p q : Int} (h : strictB p q = true) (u v : U) : levelU p u v ≤ levelU q u v := Policy.strict_less p q _ _ h

/-- Nothing is told at the level 0, something else at another one. -/
theorem told_level {u : U} (h : tells u = true) (n : Int) (hn : n = 0 ∨ n = 1 ∨ n = 2) : (n = 0 → tellB u n = false ∧ tellT u n = []) ∧ (n ≠ 0 → tellB u n = true) := by
  refine ⟨fun e => ?_, fun e => (tellB_iff u n).2 ⟨h, by omega⟩⟩
  subst e
  have k : tellB u 0 = false := by unfold tellB; rw [h]; rfl
  exact ⟨k, tell_not k⟩
/-! ## at most what the policy allows -/

theorem most_law {p : Int} {l : T} {v : U} (h : fromB l = true) :
    (levelU p (parU l) v = 0 → refB p l v = false ∧ refT p l v = []) ∧
    (levelU p (parU l) v ≠ 0 → refB p l v = true ∧ p ≠ 1 ∧ (refT p l v = orgT (parU l) ∨ levelU p (parU l) v = 2 ∧ refT p l v = fullT (parU l)) ∧ levelU p (parU l) v ≤ mostI p) := by
  have ht := from_tells h
  obtain ⟨e1, e2⟩ := ref_yes (p := p) (v := v) h
  rw [e1, e2]
  have hc := level_cases p (parU l) v
  obtain ⟨a, b⟩ := told_level ht _ hc
  refine ⟨a, fun k => ⟨b k, fun e => ?_, ?_, level_most _ _ _⟩⟩
  · subst e; exact k (level_never _ _)
  · rcases hc with e | e | e
    · exact absurd e k
    · rw [e, tell_yes ht, if_pos rfl, org_yes ht]; exact .inl rfl
    · rw [e, tell_yes ht, if_neg (by decide), if_pos rfl, org_yes ht, full_yes ht]
      rcases cap_ways (parU l) with c | c
      · exact .inr ⟨rfl, c⟩
      · exact .inl c

theorem most_len {p : Int} {l : T} {v : U} (h : fromB l = true) (hf : Fit (parU l)) : (refT p l v).length ≤ 4096 := by
  have ht := from_tells h
  obtain ⟨_, e2⟩ := ref_yes (p := p) (v := v) h
  rw [e2, tell_yes ht]
  have := src_short ht hf
  split
  · omega
  · split
    · exact cap_short ht hf
    · exact Nat.zero_le _
/-! ## what does not hang on what -/

theorem trust_alike {a b : U} (h : bothU a b = true) : trustU a = trustU b := trust_both h

theorem blind_near {p : Int} {x y : T} {v : U} (hx : fromB x = true) (hy : fromB y = true) (h : bothU (parU x) (parU y) = true) (hl : levelU p (parU x) v ≤ 1) : refB p x v = refB p y v ∧ refT p x v = refT p y v := by
  have t1 := from_tells hx
  have t2 := from_tells hy
  obtain ⟨a1, a2⟩ := ref_yes (p := p) (v := v) hx
  obtain ⟨b1, b2⟩ := ref_yes (p := p) (v := v) hy
  have el : levelU p (parU x) v = levelU p (parU y) v := by
    unfold levelU downU
    rw [trust_both h, both_trans h v]
  have eo := org_both h
  rw [org_yes t1, org_yes t2] at eo
  rw [a1, a2, b1, b2, ← el]
  refine ⟨by unfold tellB; rw [t1, t2], ?_⟩
  rw [tell_yes t1, tell_yes t2]
  rcases level_cases p (parU x) v with e | e | e
  · rw [e]; rfl
  · rw [e, if_pos rfl, if_pos rfl, eo]
  · omega

theorem far_none (p : Int) (hp : p = 1 ∨ p = 3) (u v : U) (h : bothU u v = false) : levelU p u v = 0 := by
  unfold levelU
  rw [h]
  rcases hp with rfl | rfl <;> cases downU u v <;> decide

theorem blind_far {p : Int} (hp : p = 1 ∨ p = 3) {x y : T} {v : U} (hx : fromB x = true) (hy : fromB y = true) (h1 : bothU (parU x) v = false) (h2 : bothU (parU y) v = false) : refB p x v = refB p y v ∧ refT p x v = refT p y v := by
  obtain ⟨a1, a2⟩ := (most_law (p := p) (v := v) hx).1 (far_none p hp _ _ h1)
  obtain ⟨b1, b2⟩ := (most_law (p := p) (v := v) hy).1 (far_none p hp _ _ h2)
  rw [a1, a2, b1, b2]
  exact ⟨rfl, rfl⟩
/-! ## stricter, no more -/

theorem strict_law {p q : Int} (h : strictB p q = true) (l : T) (v : U) : refB p l v = true → refB q l v = true ∧ (refT p l v).length ≤ (refT q l v).length := by
  intro k
  cases hl : fromB l
  · rw [(ref_no hl).1] at k; cases k
  · have ht := from_tells hl
    obtain ⟨a1, a2⟩ := ref_yes (p := p) (v := v) hl
    obtain ⟨b1, b2⟩ := ref_yes (p := q) (v := v) hl
    rw [a1] at k
    rw [a2, b1, b2]
    have hs := level_strict h (parU l) v
    have hc := level_cases q (parU l) v
    obtain ⟨_, k2⟩ := (tellB_iff _ _).1 k
    generalize levelU p (parU l) v = i at *
    generalize levelU q (parU l) v = j at *
    refine ⟨(tellB_iff _ _).2 ⟨ht, by omega⟩, ?_⟩
    have := src_cap ht
    rw [tell_yes ht, tell_yes ht]
    rcases k2 with rfl | rfl
    · rcases (show j = 1 ∨ j = 2 by omega) with rfl | rfl
      · exact Nat.le_refl _
      · simpa using this
    · obtain rfl : j = 2 := by omega
      exact Nat.le_refl _
/-! ## down -/

theorem down_both {u v : U} (h : downU u v = true) : bothU u v = false := by
  cases k : bothU u v
  · rfl
  · unfold downU at h
    rw [trust_both k] at h
    cases t : trustU v <;> rw [t] at h <;> cases h

theorem down_quiet {p : Int} (hp : p = 0 ∨ p = 5 ∨ p = 7 ∨ p = 2) {u v : U} (h : downU u v = true) : levelU p u v = 0 := by
  unfold levelU
  rw [h, down_both h]
  rcases hp with rfl | rfl | rfl | rfl <;> decide
/-! ## to one's own origin -/

theorem self_from {u v : U} (h8 : u.h.p.length = 8) (h : bothU u v = true) : fromB (showU u) = true ∧ parU (showU u) = u := by
  obtain ⟨h1, _⟩ := (both_iff u v).1 h
  obtain ⟨a, b⟩ := par_show h1.1 h8
  exact ⟨(from_iff _).2 ⟨a, by rw [b]; exact h1.2⟩, b⟩

theorem self_level {u v : U} (h : bothU u v = true) (p : Int) : levelU p u v = mostI p := by
  unfold levelU downU
  rw [h, trust_both h]
  have : (trustU v && !trustU v) = false := by cases trustU v <;> rfl
  rw [this]
  exact Policy.most_same p

theorem self_law {u v : U} (h8 : u.h.p.length = 8) (hf : Fit u) (h : bothU u v = true) (p : Int) :
    (p = 1 → refB p (showU u) v = false ∧ refT p (showU u) v = []) ∧
    (p ≠ 1 → refB p (showU u) v = true ∧ okU (refT p (showU u) v) = true ∧ bothU u (parU (refT p (showU u) v)) = true ∧ Fit (parU (refT p (showU u) v)) ∧ (refT p (showU u) v).length ≤ (whlT u).length ∧
      (refT p (showU u) v).length ≤ 4096 ∧ (p ≠ 4 → p ≠ 5 → (whlT u).length ≤ 4096 → refT p (showU u) v = whlT u)) := by
  obtain ⟨a, b⟩ := self_from h8 h
  have ht : tells u = true := b ▸ from_tells a
  obtain ⟨e1, e2⟩ := ref_yes (p := p) (v := v) a
  rw [b] at e1 e2
  rw [e1, e2, self_level h]
  have hc : mostI p = 0 ∨ mostI p = 1 ∨ mostI p = 2 := by rw [← self_level h p]; exact level_cases p u v
  have h0 : mostI p = 0 ↔ p = 1 := by
    have := Policy.most_none p
    rw [Bool.eq_iff_iff, beq_iff_eq, beq_iff_eq] at this
    exact this
  have ho := Policy.most_origin p
  refine ⟨fun k => (told_level ht _ hc).1 (h0.2 k), fun k => ?_⟩
  have kb := (told_level ht _ hc).2 (fun e => k (h0.1 e))
  obtain ⟨c1, c2, _, _, _, _, c3, c4, c5⟩ := told_par kb h8 hf
  refine ⟨kb, c1, by rw [c2]; exact c3, by rw [c2]; exact c5, ?_, c4, fun n4 n5 hl => ?_⟩
  · rw [tell_yes ht]
    have s1 := src_le ht
    split
    · exact s1
    · split
      · rcases cap_ways u with e | e <;> rw [e]
        · exact Nat.le_refl _
        · exact s1
      · exact Nat.zero_le _
  · have e : mostI p = 2 := by
      rcases hc with e | e | e
      · exact absurd (h0.1 e) k
      · rcases ho.1 e with e | e
        · exact absurd e n4
        · exact absurd e n5
      · exact e
    rw [e, tell_yes ht, if_neg (by decide), if_pos rfl]
    exact if_pos hl



open Host (H none0 mayH showH localH okH parH domB)

set_option maxRecDepth 100000

/-- Where one comes from. -/
def xS : T := [104, 116, 116, 112, 115, 58, 47, 47, 97, 46, 111, 114, 103, 47, 120]

def uX : U := ⟨https, [], [], aH, -1, [[120]], [], [], [], false, false⟩

theorem xS_ok : okU xS = true := by decide +kernel

theorem xS_par : parU xS = uX := by
  have h1 : Ascii.clean xS = xS := by decide +kernel
  have h2 : okS xS = true := by decide +kernel
  have h3 : schS xS = https := by decide +kernel
  have h4 : schR xS = [47, 47, 97, 46, 111, 114, 103, 47, 120] := by decide +kernel
  have h5 : tA [47, 47, 97, 46, 111, 114, 103, 47, 120] = [47, 47, 97, 46, 111, 114, 103, 47, 120] := by decide +kernel
  have h6 : hname (place (auth [47, 47, 97, 46, 111, 114, 103, 47, 120])) = aorg := by decide +kernel
  unfold parU
  rw [h1]
  unfold parS aheadU
  rw [h2, if_pos rfl, h3, h4, h5, if_neg (by decide)]
  unfold tailU webU
  rw [h6, aorg_ok.2]
  unfold uX
  rw [U.mk.injEq]
  exact ⟨rfl, by decide +kernel, by decide +kernel, rfl, by decide +kernel, by decide +kernel, rfl, by decide +kernel, by decide +kernel, by decide +kernel, by decide +kernel⟩

theorem uX_may : mayU uX = true := by rw [← xS_par]; exact par_may _ xS_ok

theorem uX_tells : tells uX = true := tells_of uX_may (by decide)

theorem uX_fit : Fit uX := ⟨rfl, by decide, by decide, by decide, by decide, by decide, by decide, by decide, by decide, by decide⟩

/-- Where one goes. -/
def borg : T := [98, 46, 111, 114, 103]

theorem borg_dom : domB borg = true := by decide +kernel

def bH : H := ⟨1, ⟨borg.toArray⟩, 0, Six.zero8⟩

theorem borg_ok : okH borg = true ∧ parH borg = bH := Host.ok_dom borg borg_dom

def tS : T := [104, 116, 116, 112, 58, 47, 47, 98, 46, 111, 114, 103, 47]

def uT : U := ⟨http, [], [], bH, -1, [[]], [], [], [], false, false⟩

theorem tS_ok : okU tS = true := by decide +kernel

theorem tS_par : parU tS = uT := by
  have h1 : Ascii.clean tS = tS := by decide +kernel
  have h2 : okS tS = true := by decide +kernel
  have h3 : schS tS = http := by decide +kernel
  have h4 : schR tS = [47, 47, 98, 46, 111, 114, 103, 47] := by decide +kernel
  have h5 : tA [47, 47, 98, 46, 111, 114, 103, 47] = [47, 47, 98, 46, 111, 114, 103, 47] := by decide +kernel
  have h6 : hname (place (auth [47, 47, 98, 46, 111, 114, 103, 47])) = borg := by decide +kernel
  unfold parU
  rw [h1]
  unfold parS aheadU
  rw [h2, if_pos rfl, h3, h4, h5, if_neg (by decide)]
  unfold tailU webU
  rw [h6, borg_ok.2]
  unfold uT
  rw [U.mk.injEq]
  exact ⟨rfl, by decide +kernel, by decide +kernel, rfl, by decide +kernel, by decide +kernel, rfl, by decide +kernel, by decide +kernel, by decide +kernel, by decide +kernel⟩

theorem uT_may : mayU uT = true := by rw [← tS_par]; exact par_may _ tS_ok

theorem uT_fit : Fit uT := ⟨rfl, by decide, by decide, by decide, by decide, by decide, by decide, by decide, by decide, by decide⟩

/-- What is not of the web. -/
def dS : T := [100, 97, 116, 97, 58, 44]

theorem dS_from : fromB dS = false := by
  have h : decide (webI (parU dS).sch = 0) = true := by
    unfold parU
    rw [show Ascii.clean dS = dS by decide +kernel]
    unfold parS
    rw [show okS dS = true by decide +kernel, if_pos rfl]
    show decide (webI (aheadU (schS dS) (tA (schR dS))).sch = 0) = true
    unfold aheadU
    rw [show schS dS = [100, 97, 116, 97] by decide +kernel, if_pos (by decide)]
    decide
  unfold fromB
  rw [h]
  exact Bool.and_false _

theorem dS_fit : Fit (parU dS) := (par_small dS (by decide)).fit

theorem xS_from : fromB xS = true := (from_iff _).2 ⟨xS_ok, by rw [xS_par]; decide⟩

theorem xS_fromU : fromU xS = uX := (from_yes xS_from).trans xS_par

theorem uX_trust : trustU uX = true := by
  rw [trust_https rfl]; exact uX_may

theorem uT_trust : trustU uT = false := by
  have h : localH bH = false := by
    have hm : mayH bH = true := by
      have : bH.s.data.toList = borg := rfl
      unfold bH
      rw [Host.may1]
      exact borg_dom
    unfold localH
    rw [hm]
    decide +kernel
  unfold trustU
  rw [uT_may, show (uT.h) = bH from rfl, h]
  decide

theorem ex_down : downU uX uT = true := by unfold downU; rw [uX_trust, uT_trust]; rfl

theorem ex_both : bothU uX uT = false := down_both ex_down

theorem ex_level (p : Int) : levelU p uX uT = lev (uN p) 2 := by unfold levelU; rw [ex_both, ex_down]; rfl

theorem ex_level8 : levelU 8 uX uT = 2 := by rw [ex_level]; decide

theorem uX_src : srcT uX = [104, 116, 116, 112, 115, 58, 47, 47, 97, 46, 111, 114, 103, 47] := by
  rw [src_of uX_tells]
  unfold doorT portT
  rw [show uX.h = aH from rfl, show uX.port = -1 from rfl, if_pos rfl, show showH aH = aorg from aorg_show]
  rfl

theorem ex_refB4 : refB 4 xS uT = true := by
  rw [(ref_yes xS_from).1, xS_par, ex_level]
  exact (tellB_iff _ _).2 ⟨uX_tells, by decide⟩

theorem ex_refT4 : tb (refT 4 xS uT) = ⟨#[104, 116, 116, 112, 115, 58, 47, 47, 97, 46, 111, 114, 103, 47]⟩ := by
  rw [(ref_yes xS_from).2, xS_par, ex_level, tell_yes uX_tells, if_pos (by decide), uX_src]
  rfl

theorem ex_ref7 : refB 7 xS uT = false ∧ tb (refT 7 xS uT) = ⟨#[]⟩ := by
  have e : levelU 7 uX uT = 0 := by rw [ex_level]; decide
  have k := (told_level uX_tells _ (.inl e)).1 e
  rw [(ref_yes xS_from).1, (ref_yes xS_from).2, xS_par, k.1, k.2]
  exact ⟨rfl, rfl⟩

end Go.Proofs.YtbmnhmbicefemaaGreatDoor.Refer

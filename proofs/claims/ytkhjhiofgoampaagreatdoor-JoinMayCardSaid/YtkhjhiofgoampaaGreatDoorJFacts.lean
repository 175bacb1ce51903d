/-
  What package join answers, as plain functions of lists, and what follows of them.
-/
import Derived.Test.YtkhjhiofgoampaaGreatDoorShow
namespace Go.Proofs.YtkhjhiofgoampaaGreatDoor.Join
set_option linter.unusedSimpArgs false
set_option linter.unusedVariables false
set_option maxRecDepth 100000


open Url Show

open Host (H parH okH none0 mayH showH)

open Six (zero8)


def wholeB (s : T) : Bool := schB (Ascii.clean s)

def inhU (u v : U) : U := if u.hf then u else { u with frg := v.frg, hf := v.hf }

def two : T := [47, 47]

def pathU (b : List T) (t : T) : List T := if t = [] then b else if Lib.hasPrefix t [47] = true then Path.parse t else Path.merge b t

/-- Of a text that has neither a scheme nor a host. -/
def besU (b : U) (s : T) : U :=
  { b with path := pathU b.path (tA s), qry := if tHQ s || !(tA s).isEmpty then Pct.encode 2 (tQ s) else b.qry, hq := if tHQ s || !(tA s).isEmpty then tHQ s else b.hq, frg := Pct.encode 1 (tF s), hf := tHF s }

def okIn (b : U) (s : T) : Bool := if schB s then okS s else if webI b.sch = 0 then false else if Lib.hasPrefix s two then okU (b.sch ++ 58 :: s) else true

def resIn (b : U) (s : T) : U := if schB s then parS s else if webI b.sch = 0 then none1 else if Lib.hasPrefix s two then parU (b.sch ++ 58 :: s) else besU b s

def okR (b : U) (s : T) : Bool := mayU b && okIn b (Ascii.clean s)

def resR (b : U) (s : T) : U := if mayU b then resIn b (Ascii.clean s) else none1

/-! ## cleaned texts -/

theorem clean_tight (s : T) : Ascii.clean (Ascii.clean s) = Ascii.clean s := Ascii.clean_clean s

/-- Ahead of a cleaned text a plain one. -/
theorem clean_plain (a s : T) (ha : ∀ c ∈ a, 32 < c.toNat) (hs : ∃ c r, s = c :: r ∧ Ascii.lowish c = false) : Ascii.clean (a ++ s) = a ++ Ascii.clean s := by
  rw [clean_ahead a s ?_ hs, clean_same a ha]
  rcases List.eq_nil_or_concat a with rfl | ⟨r, c, rfl⟩
  · exact .inl rfl
  · refine .inr ⟨r, c, by simp, ?_⟩
    have := ha c (by simp)
    unfold Ascii.lowish; simp; exact this

theorem clean_one (c : UInt8) (h : 32 < c.toNat) (s : T) : ∃ s', Ascii.clean (c :: s) = c :: s' ∧ s'.length ≤ s.length := by
  have hl : Ascii.lowish c = false := by unfold Ascii.lowish; simp; exact h
  have hb := break_low c hl
  have e1 : Ascii.stays (c :: s) = c :: Ascii.stays s := by rw [stays_def, List.filter_cons, if_pos (by rw [hb]; rfl)]; rfl
  have hk : ∀ x : T, ∃ s', Ascii.trim (c :: x) = c :: s' := by
    intro x
    unfold Ascii.trim
    rw [List.dropWhile_cons_of_neg (by rw [hl]; simp)]
    unfold Ascii.dropEnd
    rw [List.reverse_cons, List.dropWhile_append]
    split
    · exact ⟨[], by rw [List.dropWhile_cons_of_neg (by rw [hl]; simp)]; rfl⟩
    · exact ⟨(List.dropWhile Ascii.lowish x.reverse).reverse, by simp⟩
  obtain ⟨s', h'⟩ := hk (Ascii.stays s)
  refine ⟨s', by rw [clean_stays, e1, h'], ?_⟩
  have h1 := clean_len (c :: s)
  rw [clean_stays, e1, h'] at h1
  simpa using h1

theorem sch_no (c : UInt8) (s : T) (h : Ascii.alphaB (c.toNat : Int) = false) : schB (c :: s) = false := by
  unfold schB
  by_cases hc : c = 58
  · subst hc
    rw [bef_hit]; simp [named, headB]
  · rw [bef_miss _ hc]
    unfold named headB
    simp [h]

theorem pre_two (s : T) : Lib.hasPrefix s two = true ↔ ∃ r, s = 47 :: 47 :: r := by
  constructor
  · intro h
    match s, h with
    | [], h => simp [two, Lib.hasPrefix, List.isPrefixOf] at h
    | [a], h => simp [two, Lib.hasPrefix, List.isPrefixOf] at h
    | a :: b :: r, h =>
      simp [two, Lib.hasPrefix, List.isPrefixOf] at h
      exact ⟨r, by rw [← h.1, ← h.2]⟩
  · rintro ⟨r, rfl⟩
    simp [two, Lib.hasPrefix, List.isPrefixOf]

theorem pre_one (c : UInt8) (s : T) : Lib.hasPrefix (c :: s) [47] = (c == 47) := by
  simp [Lib.hasPrefix, List.isPrefixOf]
  rw [Bool.eq_iff_iff, beq_iff_eq, beq_iff_eq]
  exact ⟨Eq.symm, Eq.symm⟩

theorem pre_no (c : UInt8) (s : T) (h : c ≠ 47) : Lib.hasPrefix (c :: s) two = false := by
  cases e : Lib.hasPrefix (c :: s) two
  · rfl
  · obtain ⟨r, hr⟩ := (pre_two _).1 e
    exact absurd (List.cons.inj hr).1 h

/-! ## what is told may be -/

theorem web_ok {b : U} (h : mayU b = true) (hw : webI b.sch ≠ 0) : WebOk b := by
  rcases (may_parts h).2 with ⟨_, k⟩ | ⟨e, _⟩
  · exact k
  · exact absurd e hw

theorem tQ_nil {s : T} (h : tHQ s = false) : tQ s = [] := by
  unfold tHQ at h
  unfold tQ
  rw [aft_no _ (has_of h)]

theorem tF_nil {s : T} (h : tHF s = false) : tF s = [] := by
  unfold tHF at h
  unfold tF
  rw [aft_no _ (has_of h)]

theorem path_may {b : List T} (h : Path.mayP b = true) (t : T) : Path.mayP (pathU b t) = true := by
  unfold pathU
  split
  · exact h
  · split
    · exact Path.parse_may t
    · exact Path.merge_may b t h

theorem bes_may {b : U} (h : mayU b = true) (hw : webI b.sch ≠ 0) (s : T) : mayU (besU b s) = true := by
  have k := web_ok h hw
  obtain ⟨tk, _⟩ := may_parts h
  have ht : tailB (besU b s) = true := by
    unfold tailB besU
    simp only [Bool.and_eq_true, Bool.or_eq_true, List.isEmpty_iff]
    refine ⟨⟨?_, ?_⟩, Pct.ready_encode 1 _, ?_⟩
    · split
      · exact Pct.ready_encode 2 _
      · exact tk.qry
    · split
      · cases hq : tHQ s
        · right; rw [tQ_nil hq]; rfl
        · exact .inl rfl
      · cases hq : b.hq
        · exact .inr (tk.hq hq)
        · exact .inl rfl
    · cases hq : tHF s
      · right; rw [tF_nil hq]; rfl
      · exact .inl rfl
  have hs : (besU b s).sch = b.sch := rfl
  unfold mayU
  rw [ht, hs, if_neg hw]
  unfold mayWeb mayPort
  have e1 : (besU b s).h = b.h := rfl
  have e2 : (besU b s).usr = b.usr := rfl
  have e3 : (besU b s).pas = b.pas := rfl
  have e4 : (besU b s).path = pathU b.path (tA s) := rfl
  have e5 : (besU b s).opq = b.opq := rfl
  have e6 : (besU b s).port = b.port := rfl
  rw [e1, e2, e3, e4, e5, e6, hs, k.h, k.usr, k.pas, path_may k.path, k.opq, decide_eq_true k.p1, decide_eq_true k.p2, decide_eq_false k.p3]
  rfl

theorem ahead_clean {b : U} (h : mayU b = true) (r : T) : Ascii.clean (b.sch ++ 58 :: 47 :: 47 :: r) = b.sch ++ 58 :: Ascii.clean (47 :: 47 :: r) := by
  have e : (b.sch ++ 58 :: 47 :: 47 :: r : T) = (b.sch ++ [58]) ++ (47 :: 47 :: r) := by simp
  rw [e, clean_plain _ _ ?_ ⟨47, _, rfl, by decide⟩]
  · simp
  · intro c hc
    rcases List.mem_append.1 hc with hc | hc
    · exact ((sch_ok h).2.2 c hc).1
    · rw [List.mem_singleton] at hc; subst hc; decide

theorem beside_sch {b : U} (h : mayU b = true) (r : T) (hc : Ascii.clean (47 :: 47 :: r) = 47 :: 47 :: r) (ho : okU (b.sch ++ 58 :: 47 :: 47 :: r) = true) : (parU (b.sch ++ 58 :: 47 :: 47 :: r)).sch = b.sch := by
  unfold okU parU at *
  rw [ahead_clean h, hc] at *
  obtain ⟨s1, s2, s3⟩ := sch_ok h
  obtain ⟨t1, t2, t3⟩ := sch_of b.sch (47 :: 47 :: r) s1
  rw [s2] at t2
  obtain ⟨_, ⟨_, _, e⟩ | ⟨_, _, e⟩⟩ := okS_ways ho <;> rw [e]
  · exact t2
  · exact t2

theorem res_whole {b : U} {s : T} (h : schB (Ascii.clean s) = true) : okR b s = (mayU b && okU s) ∧ (mayU b = true → resR b s = parU s) := by
  unfold okR resR okIn resIn okU parU
  rw [if_pos h]
  exact ⟨rfl, fun hb => by rw [if_pos hb, if_pos h]⟩

theorem res_part {b : U} {s : T} (h : schB (Ascii.clean s) = false) (ho : okR b s = true) : mayU b = true ∧ webI b.sch ≠ 0 ∧ mayU (resR b s) = true ∧ (resR b s).sch = b.sch ∧ okU s = false := by
  have h0 : okU s = false := by unfold okU okS; rw [h]; rfl
  unfold okR at ho
  rw [Bool.and_eq_true] at ho
  obtain ⟨hb, ho⟩ := ho
  unfold okIn at ho
  rw [if_neg (by rw [h]; simp)] at ho
  by_cases hw : webI b.sch = 0
  · rw [if_pos hw] at ho; cases ho
  · rw [if_neg hw] at ho
    refine ⟨hb, hw, ?_⟩
    unfold resR resIn
    rw [if_pos hb, if_neg (by rw [h]; simp), if_neg hw]
    cases hp : Lib.hasPrefix (Ascii.clean s) two
    · exact ⟨bes_may hb hw _, rfl, h0⟩
    · rw [hp, if_pos rfl] at ho
      obtain ⟨r, hr⟩ := (pre_two _).1 hp
      have hc := clean_tight s
      rw [hr] at ho hc ⊢
      exact ⟨par_may _ ho, beside_sch hb r hc ho, h0⟩

theorem res_may {b : U} {s : T} (ho : okR b s = true) : mayU (resR b s) = true := by
  cases h : schB (Ascii.clean s)
  · exact (res_part h ho).2.2.1
  · have h1 := (res_whole (b := b) h).1
    rw [ho] at h1
    have h2 := Bool.and_eq_true_iff.1 h1.symm
    rw [(res_whole h).2 h2.1]
    exact par_may _ h2.2

/-- What is not told. -/
theorem res_not {b : U} {s : T} (ho : okR b s = false) : resR b s = none1 ∧ (mayU b = false ∨ wholeB s = true ∨ webI b.sch = 0 ∨ 1 < s.length) := by
  unfold okR at ho
  unfold resR wholeB
  cases hb : mayU b
  · exact ⟨by rw [if_neg (by simp)], .inl rfl⟩
  · rw [hb, Bool.true_and] at ho
    rw [if_pos rfl]
    unfold okIn at ho
    unfold resIn
    cases h : schB (Ascii.clean s)
    · rw [h, if_neg (by simp)] at ho
      rw [if_neg (by simp)]
      by_cases hw : webI b.sch = 0
      · rw [if_pos hw]; exact ⟨rfl, .inr (.inr (.inl hw))⟩
      · rw [if_neg hw] at ho ⊢
        cases hp : Lib.hasPrefix (Ascii.clean s) two
        · rw [hp] at ho; cases ho
        · rw [hp, if_pos rfl] at ho
          rw [if_pos rfl]
          refine ⟨par_none _ ho, .inr (.inr (.inr ?_))⟩
          obtain ⟨r, hr⟩ := (pre_two _).1 hp
          have := clean_len s
          rw [hr] at this
          simp only [List.length_cons] at this; omega
    · rw [h, if_pos rfl] at ho
      rw [if_pos rfl]
      exact ⟨par_none _ ho, .inr (.inl rfl)⟩

theorem may_law (b c : U) (s : T) (ho : okR b s = true) : mayU (resR b s) = true ∧
    (wholeB s = true → okU s = true ∧ parU s = resR b s ∧ (mayU c = true → okR c s = true ∧ resR b s = resR c s)) ∧ (wholeB s = false → (resR b s).sch = b.sch ∧ okU s = false) := by
  refine ⟨res_may ho, fun h => ?_, fun h => ?_⟩
  · obtain ⟨e1, e2⟩ := res_whole (b := b) (show schB (Ascii.clean s) = true from h)
    obtain ⟨f1, f2⟩ := res_whole (b := c) (show schB (Ascii.clean s) = true from h)
    rw [ho] at e1
    have h2 := Bool.and_eq_true_iff.1 e1.symm
    refine ⟨h2.2, (e2 h2.1).symm, fun hc => ⟨by rw [f1, hc, h2.2]; rfl, by rw [e2 h2.1, f2 hc]⟩⟩
  · obtain ⟨_, _, _, h4, h5⟩ := res_part (show schB (Ascii.clean s) = false from h) ho
    exact ⟨h4, h5⟩

/-! ## beside an address of the web -/

theorem res_bes {b : U} (h : mayU b = true) (hw : webI b.sch ≠ 0) {s s' : T} (hc : Ascii.clean s = s') (h1 : schB s' = false) (h2 : Lib.hasPrefix s' two = false) : okR b s = true ∧ resR b s = besU b s' := by
  unfold okR resR okIn resIn
  rw [hc, h, h1, h2, if_pos rfl]
  simp only [Bool.false_eq_true, if_false, if_neg hw]
  exact ⟨by first | rfl | trivial, by first | rfl | trivial⟩

theorem bes_nil (b : U) : besU b [] = bareU b := rfl

theorem res_nil {b : U} (h : mayU b = true) (hw : webI b.sch ≠ 0) : okR b [] = true ∧ resR b [] = bareU b := by
  rw [← bes_nil]
  exact res_bes h hw rfl (by decide) (by decide)

theorem res_frag {b : U} (h : mayU b = true) (hw : webI b.sch ≠ 0) (f : T) : ∃ f', f'.length ≤ f.length ∧ okR b (35 :: f) = true ∧ resR b (35 :: f) = { b with frg := Pct.encode 1 f', hf := true } := by
  obtain ⟨f', hf, hl⟩ := clean_one 35 (by decide) f
  refine ⟨f', hl, ?_⟩
  obtain ⟨r1, r2⟩ := res_bes h hw hf (sch_no _ _ (by decide)) (pre_no _ _ (by decide))
  refine ⟨r1, r2.trans ?_⟩
  have e1 : tA (35 :: f') = [] := by unfold tA; rw [bef_hit]; rfl
  have e2 : tHQ (35 :: f') = false := by unfold tHQ; rw [bef_hit]; rfl
  have e3 : tF (35 :: f') = f' := by unfold tF; rw [aft_hit]
  have e4 : tHF (35 :: f') = true := has_yes (by simp)
  unfold besU pathU
  rw [e1, e2, e3, e4]
  rfl

theorem res_show {b u : U} (h : mayU b = true) (k : mayU u = true) (h8 : u.h.p.length = 8) : okR b (showU u) = true ∧ resR b (showU u) = u := by
  obtain ⟨p1, p2⟩ := par_show k h8
  have hs : schB (Ascii.clean (showU u)) = true := by
    unfold okU at p1
    exact (okS_ways p1).1
  obtain ⟨e1, e2⟩ := res_whole (b := b) hs
  exact ⟨by rw [e1, h, p1]; rfl, by rw [e2 h, p2]⟩

theorem res_query {b : U} (h : mayU b = true) (hw : webI b.sch ≠ 0) (q : T) : ∃ q', q'.length ≤ q.length + 1 ∧ okR b (63 :: q) = true ∧ resR b (63 :: q) = { b with qry := Pct.encode 2 (tQ q'), hq := true, frg := Pct.encode 1 (tF q'), hf := tHF q' } := by
  obtain ⟨q', hq, hl⟩ := clean_one 63 (by decide) q
  refine ⟨63 :: q', by simp; omega, ?_⟩
  obtain ⟨r1, r2⟩ := res_bes h hw hq (sch_no _ _ (by decide)) (pre_no _ _ (by decide))
  refine ⟨r1, r2.trans ?_⟩
  have e0 : bef 35 (63 :: q') = 63 :: bef 35 q' := bef_miss _ (by decide)
  have e1 : tA (63 :: q') = [] := by unfold tA; rw [e0, bef_hit]
  have e2 : tHQ (63 :: q') = true := by unfold tHQ; rw [e0]; exact has_yes (by simp)
  unfold besU pathU
  rw [e1, e2]
  rfl

theorem res_top {b : U} (h : mayU b = true) (hw : webI b.sch ≠ 0) : okR b [47] = true ∧ resR b [47] = { b with path := [[]], qry := [], hq := false, frg := [], hf := false } := by
  obtain ⟨r1, r2⟩ := res_bes h hw (s := [47]) (s' := [47]) (by decide +kernel) (by decide +kernel) (by decide)
  refine ⟨r1, r2.trans ?_⟩
  have e1 : Path.parse [47] = [[]] := by decide +kernel
  have : besU b [47] = { b with path := pathU b.path [47], qry := [], hq := false, frg := [], hf := false } := rfl
  rw [this]
  unfold pathU
  rw [if_neg (by simp), if_pos (by decide), e1]

theorem res_path {b : U} (h : mayU b = true) (hw : webI b.sch ≠ 0) (s : T) (hs : ∀ c ∈ s, 32 < c.toNat ∧ c.toNat ≠ 63 ∧ c.toNat ≠ 35) (hn : wholeB s = false) (h0 : s ≠ []) (h2 : Lib.hasPrefix s two = false) :
    okR b s = true ∧ resR b s = { b with path := if Lib.hasPrefix s [47] = true then Path.parse s else Path.merge b.path s, qry := [], hq := false, frg := [], hf := false } := by
  have hc := clean_same s fun c hc => (hs c hc).1
  unfold wholeB at hn
  rw [hc] at hn
  obtain ⟨r1, r2⟩ := res_bes h hw hc hn h2
  refine ⟨r1, r2.trans ?_⟩
  obtain ⟨t1, t2, t3, t4, t5⟩ := tA_of s (fun hm => (hs _ hm).2.2 rfl) (fun hm => (hs _ hm).2.1 rfl)
  unfold besU pathU
  rw [t1, t2, t3, t4, t5, if_neg h0]
  have : s.isEmpty = false := by cases s with | nil => exact absurd rfl h0 | cons a r => rfl
  rw [this]
  rfl

/-- Doors do not hang on a path, a query, a fragment. -/
theorem door_same {u v : U} (h : mayU u = true) (k : mayU v = true) (hs : u.sch = v.sch) (hh : u.h = v.h) (hp : u.port = v.port) : doorU u = doorU v := by
  unfold doorU doorT portT
  rw [h, k, hs, hh, hp]

/-! ## another one's fragment -/

theorem inh_yes {u : U} (h : u.hf = true) (v : U) : inhU u v = u := by unfold inhU; rw [if_pos h]

theorem inh_no {u : U} (h : u.hf = false) (v : U) : inhU u v = { u with frg := v.frg, hf := v.hf } := by unfold inhU; rw [if_neg (by rw [h]; simp)]

theorem inh_bare (u v : U) : bareU (inhU u v) = bareU u := by unfold inhU; split <;> rfl

end Go.Proofs.YtkhjhiofgoampaaGreatDoor.Join

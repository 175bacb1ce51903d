/-
  What package join answers, as plain functions of lists, and what follows of them.
-/
import Derived.Test.YtkhjhiofgoampaaGreatDoorShow
namespace Go.Proofs.YtkhjhiofgoampaaGreatDoor.Join
set_option linter.unusedSimpArgs false
set_option linter.unusedVariables false
set_option maxRecDepth 100000


open Url Show

open Host (H parH okH none0 mayH showH)

open Six (zero8)


def wholeB (s : T) : Bool := schB (Ascii.clean s)

def inhU (u v : U) : U := if u.hf then u else { u with frg := v.frg, hf := v.hf }

def two : T := [47, 47]

def pathU (b : List T) (t : T) : List T := if t = [] then b else if Lib.hasPrefix t [47] = true then Path.parse t else Path.merge b t

/-- Of a text that has neither a scheme nor a host. -/
def besU (b : U) (s : T) : U :=
  { b with path := pathU b.path (tA s), qry := if tHQ s || !(tA s).isEmpty then Pct.encode 2 (tQ s) else b.qry, hq := if tHQ s || !(tA s).isEmpty then tHQ s else b.hq, frg := Pct.encode 1 (tF s), hf := tHF s }

def okIn (b : U) (s : T) : Bool := if schB s then okS s else if webI b.sch = 0 then false else if Lib.hasPrefix s two then okU (b.sch ++ 58 :: s) else true

def resIn (b : U) (s : T) : U := if schB s then parS s else if webI b.sch = 0 then none1 else if Lib.hasPrefix s two then parU (b.sch ++ 58 :: s) else besU b s

def okR (b : U) (s : T) : Bool := mayU b && okIn b (Ascii.clean s)

def resR (b : U) (s : T) : U := if mayU b then resIn b (Ascii.clean s) else none1

/-! ## cleaned texts -/

theorem clean_tight (s : T) : Ascii.clean (Ascii.clean s) = Ascii.clean s := Ascii.clean_clean s

/-- Ahead of a cleaned text a plain one. -/
theorem clean_plain (a s : T) (ha : ∀ c ∈ a, 32 < c.toNat) (hs : ∃ c r, s = c :: r ∧ Ascii.lowish c = false) : Ascii.clean (a ++ s) = a ++ Ascii.clean s := by
  rw [clean_ahead a s ?_ hs, clean_same a ha]
  rcases List.eq_nil_or_concat a with rfl | ⟨r, c, rfl⟩
  · exact .inl rfl
  · refine .inr ⟨r, c, by simp, ?_⟩
    have := ha c (by simp)
    unfold Ascii.lowish; simp; exact this

theorem sch_no (c : UInt8) (s : T) (h : Ascii.alphaB (c.toNat : Int) = false) : schB (c :: s) = false := by
  unfold schB
  by_cases hc : c = 58
  · subst hc
    rw [bef_hit]; simp [named, headB]
  · rw [bef_miss _ hc]
    unfold named headB
    simp [h]

theorem pre_two (s : T) : Lib.hasPrefix s two = true ↔ ∃ r, s = 47 :: 47 :: r := by
  constructor
  · intro h
    match s, h with
    | [], h => simp [two, Lib.hasPrefix, List.isPrefixOf] at h
    | [a], h => simp [two, Lib.hasPrefix, List.isPrefixOf] at h
    | a :: b :: r, h =>
      simp [two, Lib.hasPrefix, List.isPrefixOf] at h
      exact ⟨r, by rw [← h.1, ← h.2]⟩
  · rintro ⟨r, rfl⟩
    simp [two, Lib.hasPrefix, List.isPrefixOf]

theorem pre_one (c : UInt8) (s : T) : Lib.hasPrefix (c :: s) [47] = (c == 47) := by
  simp [Lib.hasPrefix, List.isPrefixOf]
  rw [Bool.eq_iff_iff, beq_iff_eq, beq_iff_eq]
  exact ⟨Eq.symm, Eq.symm⟩

/-! ## what is told may be -/

theorem web_ok {b : U} (h : mayU b = true) (hw : webI b.sch ≠ 0) : WebOk b := by
  rcases (may_parts h).2 with ⟨_, k⟩ | ⟨e, _⟩
  · exact k
  · exact absurd e hw

theorem tQ_nil {s : T} (h : tHQ s = false) : tQ s = [] := by
  unfold tHQ at h
  unfold tQ
  rw [aft_no _ (has_of h)]

theorem tF_nil {s : T} (h : tHF s = false) : tF s = [] := by
  unfold tHF at h
  unfold tF
  rw [aft_no _ (has_of h)]

theorem path_may {b : List T} (h : Path.mayP b = true) (t : T) : Path.mayP (pathU b t) = true := by
  unfold pathU
  split
  · exact h
  · split
    · exact Path.parse_may t
    · exact Path.merge_may b t h

theorem bes_may {b : U} (h : mayU b = true) (hw : webI b.sch ≠ 0) (s : T) : mayU (besU b s) = true := by
  have k := web_ok h hw
  obtain ⟨tk, _⟩ := may_parts h
  have ht : tailB (besU b s) = true := by
    unfold tailB besU
    simp only [Bool.and_eq_true, Bool.or_eq_true, List.isEmpty_iff]
    refine ⟨⟨?_, ?_⟩, Pct.ready_encode 1 _, ?_⟩
    · split
      · exact Pct.ready_encode 2 _
      · exact tk.qry
    · split
      · cases hq : tHQ s
        · right; rw [tQ_nil hq]; rfl
        · exact .inl rfl
      · cases hq : b.hq
        · exact .inr (tk.hq hq)
        · exact .inl rfl
    · cases hq : tHF s
      · right; rw [tF_nil hq]; rfl
      · exact .inl rfl
  have hs : (besU b s).sch = b.sch := rfl
  unfold mayU
  rw [ht, hs, if_neg hw]
  unfold mayWeb mayPort
  have e1 : (besU b s).h = b.h := rfl
  have e2 : (besU b s).usr = b.usr := rfl
  have e3 : (besU b s).pas = b.pas := rfl
  have e4 : (besU b s).path = pathU b.path (tA s) := rfl
  have e5 : (besU b s).opq = b.opq := rfl
  have e6 : (besU b s).port = b.port := rfl
  rw [e1, e2, e3, e4, e5, e6, hs, k.h, k.usr, k.pas, path_may k.path, k.opq, decide_eq_true k.p1, decide_eq_true k.p2, decide_eq_false k.p3]
  rfl

theorem ahead_clean {b : U} (h : mayU b = true) (r : T) : Ascii.clean (b.sch ++ 58 :: 47 :: 47 :: r) = b.sch ++ 58 :: Ascii.clean (47 :: 47 :: r) := by
  have e : (b.sch ++ 58 :: 47 :: 47 :: r : T) = (b.sch ++ [58]) ++ (47 :: 47 :: r) := by simp
  rw [e, clean_plain _ _ ?_ ⟨47, _, rfl, by decide⟩]
  · simp
  · intro c hc
    rcases List.mem_append.1 hc with hc | hc
    · exact ((sch_ok h).2.2 c hc).1
    · rw [List.mem_singleton] at hc; subst hc; decide

theorem beside_sch {b : U} (h : mayU b = true) (r : T) (hc : Ascii.clean (47 :: 47 :: r) = 47 :: 47 :: r) (ho : okU (b.sch ++ 58 :: 47 :: 47 :: r) = true) : (parU (b.sch ++ 58 :: 47 :: 47 :: r)).sch = b.sch := by
  unfold okU parU at *
  rw [ahead_clean h, hc] at *
  obtain ⟨s1, s2, s3⟩ := sch_ok h
  obtain ⟨t1, t2, t3⟩ := sch_of b.sch (47 :: 47 :: r) s1
  rw [s2] at t2
  obtain ⟨_, ⟨_, _, e⟩ | ⟨_, _, e⟩⟩ := okS_ways ho <;> rw [e]
  · exact t2
  · exact t2

theorem res_whole {b : U} {s : T} (h : schB (Ascii.clean s) = true) : okR b s = (mayU b && okU s) ∧ (mayU b = true → resR b s = parU s) := by
  unfold okR resR okIn resIn okU parU
  rw [if_pos h]
  exact ⟨rfl, fun hb => by rw [if_pos hb, if_pos h]⟩

theorem res_part {b : U} {s : T} (h : schB (Ascii.clean s) = false) (ho : okR b s = true) : mayU b = true ∧ webI b.sch ≠ 0 ∧ mayU (resR b s) = true ∧ (resR b s).sch = b.sch ∧ okU s = false := by
  have h0 : okU s = false := by unfold okU okS; rw [h]; rfl
  unfold okR at ho
  rw [Bool.and_eq_true] at ho
  obtain ⟨hb, ho⟩ := ho
  unfold okIn at ho
  rw [if_neg (by rw [h]; simp)] at ho
  by_cases hw : webI b.sch = 0
  · rw [if_pos hw] at ho; cases ho
  · rw [if_neg hw] at ho
    refine ⟨hb, hw, ?_⟩
    unfold resR resIn
    rw [if_pos hb, if_neg (by rw [h]; simp), if_neg hw]
    cases hp : Lib.hasPrefix (Ascii.clean s) two
    · exact ⟨bes_may hb hw _, rfl, h0⟩
    · rw [hp, if_pos rfl] at ho
      obtain ⟨r, hr⟩ := (pre_two _).1 hp
      have hc := clean_tight s
      rw [hr] at ho hc ⊢
      exact ⟨par_may _ ho, beside_sch hb r hc ho, h0⟩

theorem res_may {b : U} {s : T} (ho : okR b s = true) : mayU (resR b s) = true := by
  cases h : schB (Ascii.clean s)
  · exact (res_part h ho).2.2.1
  · have h1 := (res_whole (b := b) h).1
    rw [ho] at h1
    have h2 := Bool.and_eq_true_iff.1 h1.symm
    rw [(res_whole h).2 h2.1]
    exact par_may _ h2.2

/-! ## beside an address of the web -/

theorem res_bes {b : U} (h : mayU b = true) (hw : webI b.sch ≠ 0) {s s' : T} (hc : Ascii.clean s = s') (h1 : schB s' = false) (h2 : Lib.hasPrefix s' two = false) : okR b s = true ∧ resR b s = besU b s' := by
  unfold okR resR okIn resIn
  rw [hc, h, h1, h2, if_pos rfl]
  simp only [Bool.false_eq_true, if_false, if_neg hw]
  exact ⟨by first | rfl | trivial, by first | rfl | trivial⟩

/-! ## another one's fragment -/

theorem inh_yes {u : U} (h : u.hf = true) (v : U) : inhU u v = u := by unfold inhU; rw [if_pos h]

theorem inh_no {u : U} (h : u.hf = false) (v : U) : inhU u v = { u with frg := v.frg, hf := v.hf } := by unfold inhU; rw [if_neg (by rw [h]; simp)]

end Go.Proofs.YtkhjhiofgoampaaGreatDoor.Join

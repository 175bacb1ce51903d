/-
  What package show answers, as plain functions of lists, and what follows of them.
-/
import Derived.Test.YtkjkcgbmfglihaaGreatDoorUrl
namespace Go.Proofs.YtkjkcgbmfglihaaGreatDoor.Show
open Url
open Host (H parH okH none0 mayH showH domB)
open Six (zero8)
set_option linter.unusedSimpArgs false
set_option linter.unusedVariables false

def userT (u : U) : T := if u.usr.isEmpty && u.pas.isEmpty then [] else u.usr ++ ((if u.pas.isEmpty then [] else 58 :: u.pas) ++ [64])
def portT (u : U) : T := if u.port = -1 then [] else 58 :: Deci.showI u.port
def doorT (u : U) : T := showH u.h ++ portT u
def qT (u : U) : T := if u.hq then 63 :: u.qry else []
def fT (u : U) : T := if u.hf then 35 :: u.frg else []
def restT (u : U) : T := userT u ++ (doorT u ++ Path.show1 u.path)
def midT (u : U) : T := if webI u.sch = 0 then u.opq else 47 :: 47 :: restT u
def textU (u : U) : T := u.sch ++ 58 :: (midT u ++ (qT u ++ fT u))
def showU (u : U) : T := if mayU u then textU u else []
def doorU (u : U) : T := if mayU u && !decide (webI u.sch = 0) then doorT u else []
def bareU (u : U) : U := { u with frg := [], hf := false }
def openU (u : U) : U := { u with usr := [], pas := [], frg := [], hf := false }

/-! ## what may be -/
theorem bytes_all : ∀ n : Fin 256,
    (Pct.inB 1 (UInt8.ofNat n.val) = false → 32 < n.val ∧ n.val < 127) ∧ (Pct.inB 2 (UInt8.ofNat n.val) = false → 32 < n.val ∧ n.val < 127 ∧ n.val ≠ 35) ∧
    (Pct.inB 3 (UInt8.ofNat n.val) = false → 32 < n.val ∧ n.val < 127 ∧ n.val ≠ 35 ∧ n.val ≠ 63) ∧
    (Pct.inB 4 (UInt8.ofNat n.val) = false → 32 < n.val ∧ n.val < 127 ∧ n.val ≠ 35 ∧ n.val ≠ 63 ∧ n.val ≠ 47 ∧ n.val ≠ 58 ∧ n.val ≠ 64) := by decide +kernel
theorem bytes_at (c : UInt8) : (Pct.inB 1 c = false → 32 < c.toNat ∧ c.toNat < 127) ∧ (Pct.inB 2 c = false → 32 < c.toNat ∧ c.toNat < 127 ∧ c.toNat ≠ 35) ∧
    (Pct.inB 3 c = false → 32 < c.toNat ∧ c.toNat < 127 ∧ c.toNat ≠ 35 ∧ c.toNat ≠ 63) ∧
    (Pct.inB 4 c = false → 32 < c.toNat ∧ c.toNat < 127 ∧ c.toNat ≠ 35 ∧ c.toNat ≠ 63 ∧ c.toNat ≠ 47 ∧ c.toNat ≠ 58 ∧ c.toNat ≠ 64) := by
  have := bytes_all ⟨c.toNat, c.toNat_lt⟩
  simp only [UInt8.ofNat_toNat] at this
  exact this
theorem ready_at {set : Int} {l : T} (h : Pct.readyB set l = true) : ∀ c ∈ l, Pct.inB set c = false := fun c hc => by
  have := List.all_eq_true.1 h c hc
  simpa using this
theorem no_of {l : T} {d : UInt8} (h : ∀ c ∈ l, c.toNat ≠ d.toNat) : d ∉ l := fun hm => h d hm rfl
/-- What a host's text has. -/
theorem host_low (h : H) (hm : mayH h = true) : ∀ c ∈ showH h, c.toNat < 127 := by
  rcases Host.may_ways h hm with ⟨h0, h3, e⟩ | ⟨n, hn, h0, e⟩ | ⟨h0, h3, e⟩
  · rw [e]
    obtain ⟨d1, d2, d3, d4⟩ := (Host.dom_iff _).1 h3
    exact fun c hc => (Host.byte_not c (Host.parts_all _ d4 c hc)).2.1
  · rw [e]
    intro c hc
    rcases Host.show4_bytes n c hc with h | h
    · omega
    · rw [h]; decide
  · rw [e]
    intro c hc
    simp only [List.mem_cons, List.mem_append, List.not_mem_nil, or_false] at hc
    rcases hc with rfl | hc | rfl
    · decide
    · exact (okC_at c (six_mem h.p h3 c hc)).2.1
    · decide
/-- What may be, of the web. -/
structure WebOk (u : U) : Prop where
  sch : u.sch = http ∨ u.sch = https
  h : mayH u.h = true
  usr : Pct.readyB 4 u.usr = true
  pas : Pct.readyB 4 u.pas = true
  path : Path.mayP u.path = true
  opq : u.opq = []
  p1 : -1 ≤ u.port
  p2 : u.port ≤ 65535
  p3 : u.port ≠ webI u.sch
/-- What may be, opaque. -/
structure OpqOk (u : U) : Prop where
  sch : opB u.sch = true
  opq : Pct.readyB 1 u.opq = true
  n63 : (63 : UInt8) ∉ u.opq
  n35 : (35 : UInt8) ∉ u.opq
  port : u.port = -1
  h : u.h = none0
  usr : u.usr = []
  pas : u.pas = []
  path : u.path = []
structure TailOk (u : U) : Prop where
  qry : Pct.readyB 2 u.qry = true
  hq : u.hq = false → u.qry = []
  frg : Pct.readyB 1 u.frg = true
  hf : u.hf = false → u.frg = []
theorem empty_iff (l : T) : l.isEmpty = true ↔ l = [] := List.isEmpty_iff
theorem has_of {c : UInt8} {l : T} (h : l.contains c = false) : c ∉ l := fun hm => by rw [has_yes hm] at h; cases h
theorem tail_ok {u : U} (h : tailB u = true) : TailOk u := by
  unfold tailB at h
  simp only [Bool.and_eq_true, Bool.or_eq_true, List.isEmpty_iff] at h
  obtain ⟨⟨h1, h2⟩, h3, h4⟩ := h
  exact ⟨h1, fun e => h2.resolve_left (by rw [e]; simp), h3, fun e => h4.resolve_left (by rw [e]; simp)⟩
theorem may_parts {u : U} (h : mayU u = true) : TailOk u ∧ ((webI u.sch ≠ 0 ∧ WebOk u) ∨ (webI u.sch = 0 ∧ OpqOk u)) := by
  unfold mayU at h
  rw [Bool.and_eq_true] at h
  refine ⟨tail_ok h.1, ?_⟩
  by_cases hw : webI u.sch = 0
  · right
    rw [if_pos hw] at h
    have h' := h.2
    unfold mayOpq at h'
    simp only [Bool.and_eq_true, Bool.not_eq_true', decide_eq_true_eq, List.isEmpty_iff, Host.same_iff] at h'
    obtain ⟨a, b, ⟨c, d⟩, e, f, g, i, j⟩ := h'
    exact ⟨hw, a, b, has_of c, has_of d, e, f, g, i, j⟩
  · left
    rw [if_neg hw] at h
    have h' := h.2
    unfold mayWeb mayPort at h'
    simp only [Bool.and_eq_true, Bool.not_eq_true', decide_eq_true_eq, decide_eq_false_iff_not, List.isEmpty_iff] at h'
    obtain ⟨a, b, c, d, e, f, g, i⟩ := h'
    refine ⟨hw, ?_, a, b, c, d, e, f, g, i⟩
    rcases web_cases u.sch with ⟨h, _⟩ | ⟨h, _⟩ | h
    · exact .inl h
    · exact .inr h
    · exact absurd h hw
theorem sch_ok {u : U} (h : mayU u = true) : named u.sch = true ∧ Ascii.lower u.sch = u.sch ∧ (∀ c ∈ u.sch, 32 < c.toNat ∧ c.toNat < 127 ∧ c.toNat ≠ 35 ∧ c.toNat ≠ 63) := by
  rcases (may_parts h).2 with ⟨_, h⟩ | ⟨_, h⟩
  · rcases h.sch with e | e <;> rw [e] <;> decide +kernel
  · have := h.sch
    unfold opB at this
    simp only [Bool.or_eq_true, beq_iff_eq] at this
    rcases this with e | e | e <;> rw [e] <;> decide +kernel
theorem port_show {u : U} (h : WebOk u) (hp : u.port ≠ -1) : portT u = 58 :: Deci.showN u.port.toNat := by
  have := h.p1
  unfold portT
  rw [if_neg hp, Deci.showI_nonneg (by omega)]
theorem num_bytes (n : Nat) : ∀ c ∈ Deci.showN n, 48 ≤ c.toNat ∧ c.toNat ≤ 57 := fun c hc => Deci.digB_iff.1 (List.all_eq_true.1 (Deci.showN_all n) c hc)
theorem port_bytes {u : U} (h : WebOk u) : ∀ c ∈ portT u, 48 ≤ c.toNat ∧ c.toNat ≤ 58 := by
  intro c hc
  by_cases hp : u.port = -1
  · unfold portT at hc; rw [if_pos hp] at hc; exact absurd hc (by simp)
  · rw [port_show h hp, List.mem_cons] at hc
    rcases hc with rfl | hc
    · decide
    · have := num_bytes _ c hc; omega
theorem door_bytes {u : U} (h : WebOk u) : ∀ c ∈ doorT u, 32 < c.toNat ∧ c.toNat < 127 ∧ c.toNat ≠ 47 ∧ c.toNat ≠ 63 ∧ c.toNat ≠ 35 ∧ c.toNat ≠ 64 := by
  intro c hc
  rcases List.mem_append.1 (show c ∈ showH u.h ++ portT u from hc) with hc | hc
  · obtain ⟨a, b, d, e, f⟩ := (door_of u.h h.h).1 c hc
    exact ⟨a, host_low u.h h.h c hc, b, d, e, f⟩
  · have := port_bytes h c hc; omega
theorem user_bytes {u : U} (h : WebOk u) : ∀ c ∈ userT u, 32 < c.toNat ∧ c.toNat < 127 ∧ c.toNat ≠ 47 ∧ c.toNat ≠ 63 ∧ c.toNat ≠ 35 := by
  intro c hc
  have h1 := fun x hx => (bytes_at x).2.2.2 (ready_at h.usr x hx)
  have h2 := fun x hx => (bytes_at x).2.2.2 (ready_at h.pas x hx)
  unfold userT at hc
  split at hc
  · exact absurd hc (by simp)
  · rw [List.mem_append, List.mem_append] at hc
    rcases hc with hc | hc | hc
    · obtain ⟨a, b, d, e, f, g, i⟩ := h1 c hc
      exact ⟨a, b, f, e, d⟩
    · split at hc
      · exact absurd hc (by simp)
      · rcases List.mem_cons.1 hc with rfl | hc
        · decide
        · obtain ⟨a, b, d, e, f, g, i⟩ := h2 c hc
          exact ⟨a, b, f, e, d⟩
    · rw [List.mem_singleton] at hc; subst hc; decide
theorem path_bytes {u : U} (h : WebOk u) : ∀ c ∈ Path.show1 u.path, 32 < c.toNat ∧ c.toNat < 127 ∧ c.toNat ≠ 63 ∧ c.toNat ≠ 35 := by
  have ha := ((Path.mayP_iff _).1 h.path).1
  have hr : ∀ t ∈ u.path, Pct.readyB 3 t = true := fun t ht => ((Path.okT_iff t).1 (ha t ht)).1
  have := Path.show_all (fun c => !Pct.inB 3 c) (by rw [Path.free47]; rfl) u.path hr
  intro c hc
  have hc' := List.all_eq_true.1 this c hc
  obtain ⟨a, b, d, e⟩ := (bytes_at c).2.2.1 (by simpa using hc')
  exact ⟨a, b, e, d⟩
theorem mid_bytes {u : U} (h : mayU u = true) : ∀ c ∈ midT u, 32 < c.toNat ∧ c.toNat < 127 ∧ c.toNat ≠ 63 ∧ c.toNat ≠ 35 := by
  intro c hc
  unfold midT at hc
  rcases (may_parts h).2 with ⟨hw, k⟩ | ⟨hw, k⟩
  · rw [if_neg hw] at hc
    simp only [restT, List.mem_cons, List.mem_append] at hc
    rcases hc with rfl | rfl | hc | hc | hc
    · decide
    · decide
    · obtain ⟨a, b, d, e, f⟩ := user_bytes k c hc; exact ⟨a, b, e, f⟩
    · obtain ⟨a, b, d, e, f, g⟩ := door_bytes k c hc; exact ⟨a, b, e, f⟩
    · exact path_bytes k c hc
  · rw [if_pos hw] at hc
    obtain ⟨a, b⟩ := (bytes_at c).1 (ready_at k.opq c hc)
    refine ⟨a, b, fun e => k.n63 ?_, fun e => k.n35 ?_⟩
    · rw [show (63 : UInt8) = c from UInt8.toNat_inj.1 e.symm]; exact hc
    · rw [show (35 : UInt8) = c from UInt8.toNat_inj.1 e.symm]; exact hc
theorem q_bytes {u : U} (h : mayU u = true) : ∀ c ∈ qT u, 32 < c.toNat ∧ c.toNat < 127 ∧ c.toNat ≠ 35 := by
  intro c hc
  unfold qT at hc
  split at hc
  · rcases List.mem_cons.1 hc with rfl | hc
    · decide
    · exact (bytes_at c).2.1 (ready_at (may_parts h).1.qry c hc)
  · exact absurd hc (by simp)
theorem f_bytes {u : U} (h : mayU u = true) : ∀ c ∈ fT u, 32 < c.toNat ∧ c.toNat < 127 := by
  intro c hc
  unfold fT at hc
  split at hc
  · rcases List.mem_cons.1 hc with rfl | hc
    · decide
    · exact (bytes_at c).1 (ready_at (may_parts h).1.frg c hc)
  · exact absurd hc (by simp)
theorem text_bytes {u : U} (h : mayU u = true) : ∀ c ∈ textU u, 32 < c.toNat ∧ c.toNat < 127 := by
  intro c hc
  simp only [textU, List.mem_append, List.mem_cons] at hc
  rcases hc with hc | rfl | hc | hc | hc
  · exact ⟨((sch_ok h).2.2 c hc).1, ((sch_ok h).2.2 c hc).2.1⟩
  · decide
  · exact ⟨(mid_bytes h c hc).1, (mid_bytes h c hc).2.1⟩
  · exact ⟨(q_bytes h c hc).1, (q_bytes h c hc).2.1⟩
  · exact f_bytes h c hc

/-! ## what is shown is parsed -/
theorem tails_of (t q f : T) (hq hf : Bool) (h1 : (35 : UInt8) ∉ t) (h2 : (63 : UInt8) ∉ t) (h3 : (35 : UInt8) ∉ q) (q0 : hq = false → q = []) (f0 : hf = false → f = []) :
    let r := t ++ ((if hq then 63 :: q else []) ++ (if hf then 35 :: f else []))
    tA r = t ∧ tQ r = q ∧ tF r = f ∧ tHQ r = hq ∧ tHF r = hf := by
  intro r
  cases hq <;> cases hf
  · rw [q0 rfl, f0 rfl]
    have : r = t := by show t ++ ([] ++ []) = t; simp
    rw [this]
    exact tA_of t h1 h2
  · rw [q0 rfl]
    have : r = t ++ 35 :: f := rfl
    rw [this]
    unfold tA tQ tF tHQ tHF
    rw [bef_at _ _ h1, aft_at _ _ h1, bef_no _ h2, aft_no _ h2, has_no h2, has_yes (by simp)]
    exact ⟨rfl, rfl, rfl, rfl, rfl⟩
  · rw [f0 rfl]
    have : r = t ++ 63 :: q := by show t ++ (63 :: q ++ []) = _; simp
    rw [this]
    exact tail_ofq t q h1 h2 h3
  · have : r = t ++ 63 :: (q ++ 35 :: f) := rfl
    rw [this]
    exact tail_of t q f h1 h2 h3
theorem path_head {l : List T} (h : Path.mayP l = true) : ∃ r, Path.show1 l = 47 :: r := by
  have := ((Path.mayP_iff _).1 h).2
  cases l with
  | nil => exact absurd rfl this
  | cons a r => exact ⟨a ++ Path.show1 r, rfl⟩
theorem user_cut {u : U} (h : WebOk u) (d : T) (hd : (64 : UInt8) ∉ d) : place (userT u ++ d) = d ∧ user (userT u ++ d) = u.usr ∧ pass (userT u ++ d) = u.pas := by
  have h1 : (58 : UInt8) ∉ u.usr := no_of fun c hc => ((bytes_at c).2.2.2 (ready_at h.usr c hc)).2.2.2.2.2.1
  have h2 : (58 : UInt8) ∉ u.pas := no_of fun c hc => ((bytes_at c).2.2.2 (ready_at h.pas c hc)).2.2.2.2.2.1
  unfold userT
  generalize u.usr = a at h1
  generalize u.pas = b at h2
  cases b with
  | nil =>
    cases a with
    | nil => exact place_no d hd
    | cons x r =>
      obtain ⟨p1, p2, p3⟩ := place_at (x :: r) d hd
      rw [bef_no _ h1] at p2
      rw [aft_no _ h1] at p3
      have e : ((if ((x :: r : T).isEmpty && ([] : T).isEmpty) = true then [] else (x :: r) ++ ((if ([] : T).isEmpty = true then [] else 58 :: []) ++ [64])) ++ d : T) = (x :: r) ++ 64 :: d := by simp
      rw [e]
      exact ⟨p1, p2, p3⟩
  | cons y s =>
    obtain ⟨p1, p2, p3⟩ := place_at (a ++ 58 :: (y :: s)) d hd
    rw [bef_at _ _ h1] at p2
    rw [aft_at _ _ h1] at p3
    have e : ((if (a.isEmpty && (y :: s : T).isEmpty) = true then [] else a ++ ((if (y :: s : T).isEmpty = true then [] else 58 :: (y :: s)) ++ [64])) ++ d : T) = (a ++ 58 :: (y :: s)) ++ 64 :: d := by simp
    rw [e]
    exact ⟨p1, p2, p3⟩
theorem door_cut {u : U} (h : WebOk u) : hname (doorT u) = showH u.h ∧ portB (digs (doorT u)) = true ∧ portI u.sch (digs (doorT u)) = u.port := by
  obtain ⟨d1, d2, d3, d4⟩ := door_of u.h h.h
  unfold doorT
  by_cases hp : u.port = -1
  · have : portT u = [] := by unfold portT; rw [if_pos hp]
    rw [this, List.append_nil, d2, d3, hp]
    exact ⟨rfl, rfl, rfl⟩
  · rw [port_show h hp, (d4 _).1, (d4 _).2]
    have hp1 := h.p1
    have hp2 := h.p2
    have hp3 := h.p3
    have hn : Deci.showN u.port.toNat ≠ [] := Deci.showN_ne _
    have hne : (Deci.showN u.port.toNat).isEmpty = false := by
      cases e : Deci.showN u.port.toNat with
      | nil => exact absurd e hn
      | cons a r => rfl
    refine ⟨rfl, ?_, ?_⟩
    · unfold portB Deci.readB
      rw [hne, Deci.showN_plain, Deci.valN_showN]
      simp; omega
    · unfold portI
      rw [hne, Deci.valN_showN, if_neg (by simp), if_neg (by omega)]
      omega
theorem web_text {u : U} (h : WebOk u) (h8 : u.h.p.length = 8) : webB (47 :: 47 :: restT u) = true ∧ webU u.sch (47 :: 47 :: restT u) = ⟨u.sch, u.usr, u.pas, u.h, u.port, u.path, [], [], [], false, false⟩ := by
  obtain ⟨r, hr⟩ := path_head h.path
  have n47 : (47 : UInt8) ∉ userT u ++ doorT u := by
    rw [List.mem_append, not_or]
    exact ⟨no_of fun c hc => (user_bytes h c hc).2.2.1, no_of fun c hc => (door_bytes h c hc).2.2.1⟩
  have n64 : (64 : UInt8) ∉ doorT u := no_of fun c hc => (door_bytes h c hc).2.2.2.2.2
  obtain ⟨a1, a2⟩ := auth_at (userT u ++ doorT u) r n47
  have e : restT u = (userT u ++ doorT u) ++ 47 :: r := by unfold restT; rw [hr, List.append_assoc]
  rw [← e] at a1 a2
  obtain ⟨p1, p2, p3⟩ := user_cut h (doorT u) n64
  obtain ⟨q1, q2, q3⟩ := door_cut h
  obtain ⟨k1, k2, k3, k4⟩ := Host.show_back u.h h8 h.h
  refine ⟨?_, ?_⟩
  · rw [web_pre, a1, p1, q1, q2, k1]; rfl
  · unfold webU
    rw [a1, a2, p1, p2, p3, q1, q3, k2, Pct.encode_ready 4 _ h.usr, Pct.encode_ready 4 _ h.pas, ← hr, Path.parse_show _ h.path]
theorem par_text {u : U} (h : mayU u = true) (h8 : u.h.p.length = 8) : okU (textU u) = true ∧ parU (textU u) = u := by
  have hc : Ascii.clean (textU u) = textU u := clean_same _ fun c hc => (text_bytes h c hc).1
  obtain ⟨s1, s2, s3⟩ := sch_ok h
  obtain ⟨t1, t2, t3⟩ := sch_of u.sch (midT u ++ (qT u ++ fT u)) s1
  rw [s2] at t2
  obtain ⟨tk, hw⟩ := may_parts h
  have n35 : (35 : UInt8) ∉ midT u := no_of fun c hc => (mid_bytes h c hc).2.2.2
  have n63 : (63 : UInt8) ∉ midT u := no_of fun c hc => (mid_bytes h c hc).2.2.1
  have nq : (35 : UInt8) ∉ u.qry := no_of fun c hc => ((bytes_at c).2.1 (ready_at tk.qry c hc)).2.2
  obtain ⟨v1, v2, v3, v4, v5⟩ := tails_of (midT u) u.qry u.frg u.hq u.hf n35 n63 nq tk.hq tk.hf
  have hT : (midT u ++ ((if u.hq then 63 :: u.qry else []) ++ (if u.hf then 35 :: u.frg else [])) : T) = midT u ++ (qT u ++ fT u) := rfl
  simp only [hT] at v1 v2 v3 v4 v5
  have eT : ∀ x : U, x.sch = u.sch → x.usr = u.usr → x.pas = u.pas → x.h = u.h → x.port = u.port → x.path = u.path → x.opq = u.opq → tailU x (midT u ++ (qT u ++ fT u)) = u := by
    intro x e1 e2 e3 e4 e5 e6 e7
    unfold tailU
    rw [v2, v3, v4, v5, Pct.encode_ready 2 _ tk.qry, Pct.encode_ready 1 _ tk.frg, e1, e2, e3, e4, e5, e6, e7]
  unfold okU parU
  rw [hc]
  have eS : textU u = u.sch ++ 58 :: (midT u ++ (qT u ++ fT u)) := rfl
  rw [eS]
  rcases hw with ⟨hw, k⟩ | ⟨hw, k⟩
  · have em : midT u = 47 :: 47 :: restT u := by unfold midT; rw [if_neg hw]
    obtain ⟨b1, b2⟩ := web_text k h8
    have ho : okS (u.sch ++ 58 :: (midT u ++ (qT u ++ fT u))) = true := by
      unfold okS
      rw [t1, t2, t3, v1, em, b1, decide_eq_false hw]; rfl
    refine ⟨ho, ?_⟩
    unfold parS aheadU
    rw [if_pos ho, t2, t3, v1, if_neg hw, em, b2, ← em]
    exact eT _ rfl rfl rfl rfl rfl rfl k.opq.symm
  · have em : midT u = u.opq := by unfold midT; rw [if_pos hw]
    have ho : okS (u.sch ++ 58 :: (midT u ++ (qT u ++ fT u))) = true := by
      unfold okS
      rw [t1, t2, k.sch]; simp
    refine ⟨ho, ?_⟩
    unfold parS aheadU
    rw [if_pos ho, t2, t3, v1, if_pos hw]
    exact eT _ rfl k.usr.symm k.pas.symm k.h.symm k.port.symm k.path.symm (by show Pct.encode 1 (midT u) = _; rw [em, Pct.encode_ready 1 _ k.opq])
theorem text_ne (u : U) : textU u ≠ [] := by unfold textU; simp
theorem show_ne (u : U) : (showU u ≠ []) ↔ mayU u = true := by
  unfold showU
  cases h : mayU u
  · simp
  · simp [text_ne]
theorem par_show {u : U} (h : mayU u = true) (h8 : u.h.p.length = 8) : okU (showU u) = true ∧ parU (showU u) = u := by
  have : showU u = textU u := by unfold showU; rw [if_pos h]
  rw [this]; exact par_text h h8
theorem show_inj {u v : U} (h : mayU u = true) (h8 : u.h.p.length = 8) (k : mayU v = true) (k8 : v.h.p.length = 8) (e : showU u = showU v) : u = v := by
  rw [← (par_show h h8).2, e, (par_show k k8).2]

/-! ## without a fragment, without a user -/
theorem bare_may {u : U} (h : mayU u = true) : mayU (bareU u) = true := by
  have : tailB (bareU u) = true := by
    unfold mayU tailB at h
    simp only [Bool.and_eq_true] at h
    unfold tailB bareU
    rw [h.1.1.1, h.1.1.2]; rfl
  unfold mayU at h ⊢
  rw [Bool.and_eq_true] at h
  rw [this, Bool.true_and]
  exact h.2
theorem open_may {u : U} (h : mayU u = true) : mayU (openU u) = true := by
  have h1 := bare_may h
  unfold mayU at h1 ⊢
  rw [Bool.and_eq_true] at h1 ⊢
  refine ⟨h1.1, ?_⟩
  have h2 := h1.2
  have hs : (openU u).sch = (bareU u).sch := rfl
  rw [hs]
  split
  · rename_i hw
    rw [if_pos hw] at h2
    unfold mayOpq at h2 ⊢
    simp only [Bool.and_eq_true] at h2 ⊢
    exact ⟨h2.1, h2.2.1, h2.2.2.1, h2.2.2.2.1, h2.2.2.2.2.1, rfl, rfl, h2.2.2.2.2.2.2.2⟩
  · rename_i hw
    rw [if_neg hw] at h2
    unfold mayWeb mayPort at h2 ⊢
    simp only [Bool.and_eq_true] at h2 ⊢
    exact ⟨h2.1, rfl, rfl, h2.2.2.2⟩
theorem open_open (u : U) : openU (openU u) = openU u := rfl
theorem open_bare (u : U) : openU (bareU u) = openU u := rfl
theorem show_bare (u : U) (h : mayU u = true) : showU u = showU (bareU u) ++ fT u := by
  unfold showU
  rw [if_pos h, if_pos (bare_may h)]
  show textU u = (u.sch ++ 58 :: (midT u ++ (qT u ++ []))) ++ fT u
  unfold textU
  simp
theorem open_bytes {u : U} (h : mayU u = true) : ∀ c ∈ showU (openU u), 32 < c.toNat ∧ c.toNat < 127 ∧ c.toNat ≠ 35 := by
  have ho := open_may h
  intro c hc
  unfold showU at hc
  rw [if_pos ho] at hc
  have hb := text_bytes ho c hc
  refine ⟨hb.1, hb.2, ?_⟩
  simp only [textU, List.mem_append, List.mem_cons] at hc
  rcases hc with hc | rfl | hc | hc | hc
  · exact ((sch_ok ho).2.2 c hc).2.2.1
  · decide
  · exact (mid_bytes ho c hc).2.2.2
  · exact (q_bytes ho c hc).2.2
  · exact absurd hc (by show c ∉ ([] : T); simp)
theorem open_begins {u : U} (h : mayU u = true) (hw : webI u.sch ≠ 0) (h8 : u.h.p.length = 8) : ∃ r, showU (openU u) = u.sch ++ 58 :: 47 :: 47 :: (doorU u ++ r) ∧ doorU u = doorT u ∧ doorU u ≠ [] := by
  have hd : doorU u = doorT u := by unfold doorU; rw [h, decide_eq_false hw]; rfl
  have k : WebOk u := by
    rcases (may_parts h).2 with ⟨_, k⟩ | ⟨e, _⟩
    · exact k
    · exact absurd e hw
  refine ⟨Path.show1 u.path ++ (qT u ++ []), ?_, hd, ?_⟩
  · unfold showU
    rw [if_pos (open_may h), hd]
    show u.sch ++ 58 :: ((if webI u.sch = 0 then u.opq else 47 :: 47 :: ([] ++ (doorT u ++ Path.show1 u.path))) ++ (qT u ++ [])) = _
    rw [if_neg hw]
    simp
  · rw [hd]
    unfold doorT
    have := (Host.show_back u.h h8 k.h).2.2.1
    intro e
    exact this (List.append_eq_nil_iff.1 e).1
/-- Doors. -/
theorem door_inj {u v : U} (h : mayU u = true) (k : mayU v = true) (hw : webI u.sch ≠ 0) (kw : webI v.sch ≠ 0) (h8 : u.h.p.length = 8) (k8 : v.h.p.length = 8) :
    (doorU u = doorU v) ↔ (u.h = v.h ∧ u.port = v.port) := by
  have a : WebOk u := by
    rcases (may_parts h).2 with ⟨_, k⟩ | ⟨e, _⟩
    · exact k
    · exact absurd e hw
  have b : WebOk v := by
    rcases (may_parts k).2 with ⟨_, k⟩ | ⟨e, _⟩
    · exact k
    · exact absurd e kw
  have ea : doorU u = doorT u := by unfold doorU; rw [h, decide_eq_false hw]; rfl
  have eb : doorU v = doorT v := by unfold doorU; rw [k, decide_eq_false kw]; rfl
  rw [ea, eb]
  constructor
  · intro e
    have e1 : showH u.h = showH v.h := by rw [← (door_cut a).1, e, (door_cut b).1]
    refine ⟨by rw [← (Host.show_back u.h h8 a.h).2.1, e1, (Host.show_back v.h k8 b.h).2.1], ?_⟩
    have e2 : portT u = portT v := by
      unfold doorT at e
      rw [e1] at e
      exact List.append_cancel_left e
    by_cases hp : u.port = -1
    · by_cases hq : v.port = -1
      · rw [hp, hq]
      · rw [port_show b hq] at e2
        unfold portT at e2
        rw [if_pos hp] at e2
        cases e2
    · by_cases hq : v.port = -1
      · rw [port_show a hp] at e2
        unfold portT at e2
        rw [if_pos hq] at e2
        cases e2
      · rw [port_show a hp, port_show b hq] at e2
        have := Deci.showN_inj (List.cons.inj e2).2
        have h1 := a.p1
        have h2 := b.p1
        omega
  · rintro ⟨e1, e2⟩
    unfold doorT portT
    rw [e1, e2]
end Go.Proofs.YtkjkcgbmfglihaaGreatDoor.Show

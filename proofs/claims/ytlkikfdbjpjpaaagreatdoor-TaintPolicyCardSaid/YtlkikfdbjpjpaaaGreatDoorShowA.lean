/-
  What package show answers, as plain functions of lists, and what follows of them.
  A builder that a method value writes into, and the closure that puts texts just if they are there.
  show's copy of an address: its own memory.
  show's Bare and Open.
  show's Door.
-/
import Derived.Shelf.Strings.BuilderK
import Derived.Shelf.Strings.BuilderF
import Derived.Test.YtlkikfdbjpjpaaaGreatDoorUrl
namespace Go.Proofs.YtlkikfdbjpjpaaaGreatDoor.Show
set_option linter.unusedSimpArgs false
set_option linter.unusedVariables false
set_option maxRecDepth 100000


open Url

open Host (H parH okH none0 mayH showH domB)

open Six (zero8)


def userT (u : U) : T := if u.usr.isEmpty && u.pas.isEmpty then [] else u.usr ++ ((if u.pas.isEmpty then [] else 58 :: u.pas) ++ [64])

def portT (u : U) : T := if u.port = -1 then [] else 58 :: Deci.showI u.port

def doorT (u : U) : T := showH u.h ++ portT u

def qT (u : U) : T := if u.hq then 63 :: u.qry else []

def fT (u : U) : T := if u.hf then 35 :: u.frg else []

def restT (u : U) : T := userT u ++ (doorT u ++ Path.show1 u.path)

def midT (u : U) : T := if webI u.sch = 0 then u.opq else 47 :: 47 :: restT u

def textU (u : U) : T := u.sch ++ 58 :: (midT u ++ (qT u ++ fT u))

def showU (u : U) : T := if mayU u then textU u else []

def doorU (u : U) : T := if mayU u && !decide (webI u.sch = 0) then doorT u else []

def bareU (u : U) : U := { u with frg := [], hf := false }

def openU (u : U) : U := { u with usr := [], pas := [], frg := [], hf := false }

/-! ## what may be -/

theorem bytes_all : ∀ n : Fin 256,
    (Pct.inB 1 (UInt8.ofNat n.val) = false → 32 < n.val ∧ n.val < 127) ∧ (Pct.inB 2 (UInt8.ofNat n.val) = false → 32 < n.val ∧ n.val < 127 ∧ n.val ≠ 35) ∧
    (Pct.inB 3 (UInt8.ofNat n.val) = false → 32 < n.val ∧ n.val < 127 ∧ n.val ≠ 35 ∧ n.val ≠ 63) ∧
    (Pct.inB 4 (UInt8.ofNat n.val) = false → 32 < n.val ∧ n.val < 127 ∧ n.val ≠ 35 ∧ n.val ≠ 63 ∧ n.val ≠ 47 ∧ n.val ≠ 58 ∧ n.val ≠ 64) := by decide +kernel

theorem bytes_at (c : UInt8) : (Pct.inB 1 c = false → 32 < c.toNat ∧ c.toNat < 127) ∧ (Pct.inB 2 c = false → 32 < c.toNat ∧ c.toNat < 127 ∧ c.toNat ≠ 35) ∧
    (Pct.inB 3 c = false → 32 < c.toNat ∧ c.toNat < 127 ∧ c.toNat ≠ 35 ∧ c.toNat ≠ 63) ∧
    (Pct.inB 4 c = false → 32 < c.toNat ∧ c.toNat < 127 ∧ c.toNat ≠ 35 ∧ c.toNat ≠ 63 ∧ c.toNat ≠ 47 ∧ c.toNat ≠ 58 ∧ c.toNat ≠ 64) := by
  have := bytes_all ⟨c.toNat, c.toNat_lt⟩
  simp only [UInt8.ofNat_toNat] at this
  exact this

theorem ready_at {set : Int} {l : T} (h : Pct.readyB set l = true) : ∀ c ∈ l, Pct.inB set c = false := fun c hc => by
  have := List.all_eq_true.1 h c hc
  simpa using this

theorem no_of {l : T} {d : UInt8} (h : ∀ c ∈ l, c.toNat ≠ d.toNat) : d ∉ l := fun hm => h d hm rfl

/-- What a host's text has. -/
theorem host_low (h : H) (hm : mayH h = true) : ∀ c ∈ showH h, c.toNat < 127 := by
  rcases Host.may_ways h hm with ⟨h0, h3, e⟩ | ⟨n, hn, h0, e⟩ | ⟨h0, h3, e⟩
  · rw [e]
    obtain ⟨d1, d2, d3, d4⟩ := (Host.dom_iff _).1 h3
    exact fun c hc => (Host.byte_not c (Host.parts_all _ d4 c hc)).2.1
  · rw [e]
    intro c hc
    rcases Host.show4_bytes n c hc with h | h
    · omega
    · rw [h]; decide
  · rw [e]
    intro c hc
    simp only [List.mem_cons, List.mem_append, List.not_mem_nil, or_false] at hc
    rcases hc with rfl | hc | rfl
    · decide
    · exact (okC_at c (six_mem h.p h3 c hc)).2.1
    · decide

/-- What may be, of the web. -/
structure WebOk (u : U) : Prop where
  sch : u.sch = http ∨ u.sch = https
  h : mayH u.h = true
  usr : Pct.readyB 4 u.usr = true
  pas : Pct.readyB 4 u.pas = true
  path : Path.mayP u.path = true
  opq : u.opq = []
  p1 : -1 ≤ u.port
  p2 : u.port ≤ 65535
  p3 : u.port ≠ webI u.sch

/-- What may be, opaque. -/
structure OpqOk (u : U) : Prop where
  sch : opB u.sch = true
  opq : Pct.readyB 1 u.opq = true
  n63 : (63 : UInt8) ∉ u.opq
  n35 : (35 : UInt8) ∉ u.opq
  port : u.port = -1
  h : u.h = none0
  usr : u.usr = []
  pas : u.pas = []
  path : u.path = []

structure TailOk (u : U) : Prop where
  qry : Pct.readyB 2 u.qry = true
  hq : u.hq = false → u.qry = []
  frg : Pct.readyB 1 u.frg = true
  hf : u.hf = false → u.frg = []

theorem empty_iff (l : T) : l.isEmpty = true ↔ l = [] := List.isEmpty_iff

theorem has_of {c : UInt8} {l : T} (h : l.contains c = false) : c ∉ l := fun hm => by rw [has_yes hm] at h; cases h

theorem tail_ok {u : U} (h : tailB u = true) : TailOk u := by
  unfold tailB at h
  simp only [Bool.and_eq_true, Bool.or_eq_true, List.isEmpty_iff] at h
  obtain ⟨⟨h1, h2⟩, h3, h4⟩ := h
  exact ⟨h1, fun e => h2.resolve_left (by rw [e]; simp), h3, fun e => h4.resolve_left (by rw [e]; simp)⟩

theorem may_parts {u : U} (h : mayU u = true) : TailOk u ∧ ((webI u.sch ≠ 0 ∧ WebOk u) ∨ (webI u.sch = 0 ∧ OpqOk u)) := by
  unfold mayU at h
  rw [Bool.and_eq_true] at h
  refine ⟨tail_ok h.1, ?_⟩
  by_cases hw : webI u.sch = 0
  · right
    rw [if_pos hw] at h
    have h' := h.2
    unfold mayOpq at h'
    simp only [Bool.and_eq_true, Bool.not_eq_true', decide_eq_true_eq, List.isEmpty_iff, Host.same_iff] at h'
    obtain ⟨a, b, ⟨c, d⟩, e, f, g, i, j⟩ := h'
    exact ⟨hw, a, b, has_of c, has_of d, e, f, g, i, j⟩
  · left
    rw [if_neg hw] at h
    have h' := h.2
    unfold mayWeb mayPort at h'
    simp only [Bool.and_eq_true, Bool.not_eq_true', decide_eq_true_eq, decide_eq_false_iff_not, List.isEmpty_iff] at h'
    obtain ⟨a, b, c, d, e, f, g, i⟩ := h'
    refine ⟨hw, ?_, a, b, c, d, e, f, g, i⟩
    rcases web_cases u.sch with ⟨h, _⟩ | ⟨h, _⟩ | h
    · exact .inl h
    · exact .inr h
    · exact absurd h hw

theorem sch_ok {u : U} (h : mayU u = true) : named u.sch = true ∧ Ascii.lower u.sch = u.sch ∧ (∀ c ∈ u.sch, 32 < c.toNat ∧ c.toNat < 127 ∧ c.toNat ≠ 35 ∧ c.toNat ≠ 63) := by
  rcases (may_parts h).2 with ⟨_, h⟩ | ⟨_, h⟩
  · rcases h.sch with e | e <;> rw [e] <;> decide +kernel
  · have := h.sch
    unfold opB at this
    simp only [Bool.or_eq_true, beq_iff_eq] at this
    rcases this with e | e | e <;> rw [e] <;> decide +kernel

theorem port_show {u : U} (h : WebOk u) (hp : u.port ≠ -1) : portT u = 58 :: Deci.showN u.port.toNat := by
  have := h.p1
  unfold portT
  rw [if_neg hp, Deci.showI_nonneg (by omega)]

theorem num_bytes (n : Nat) : ∀ c ∈ Deci.showN n, 48 ≤ c.toNat ∧ c.toNat ≤ 57 := fun c hc => Deci.digB_iff.1 (List.all_eq_true.1 (Deci.showN_all n) c hc)

theorem port_bytes {u : U} (h : WebOk u) : ∀ c ∈ portT u, 48 ≤ c.toNat ∧ c.toNat ≤ 58 := by
  intro c hc
  by_cases hp : u.port = -1
  · unfold portT at hc; rw [if_pos hp] at hc; exact absurd hc (by simp)
  · rw [port_show h hp, List.mem_cons] at hc
    rcases hc with rfl | hc
    · decide
    · have := num_bytes _ c hc; omega

theorem door_bytes {u : U} (h : WebOk u) : ∀ c ∈ doorT u, 32 < c.toNat ∧ c.toNat < 127 ∧ c.toNat ≠ 47 ∧ c.toNat ≠ 63 ∧ c.toNat ≠ 35 ∧ c.toNat ≠ 64 := by
  intro c hc
  rcases List.mem_append.1 (show c ∈ showH u.h ++ portT u from hc) with hc | hc
  · obtain ⟨a, b, d, e, f⟩ := (door_of u.h h.h).1 c hc
    exact ⟨a, host_low u.h h.h c hc, b, d, e, f⟩
  · have := port_bytes h c hc; omega

theorem user_bytes {u : U} (h : WebOk u) : ∀ c ∈ userT u, 32 < c.toNat ∧ c.toNat < 127 ∧ c.toNat ≠ 47 ∧ c.toNat ≠ 63 ∧ c.toNat ≠ 35 := by
  intro c hc
  have h1 := fun x hx => (bytes_at x).2.2.2 (ready_at h.usr x hx)
  have h2 := fun x hx => (bytes_at x).2.2.2 (ready_at h.pas x hx)
  unfold userT at hc
  split at hc
  · exact absurd hc (by simp)
  · rw [List.mem_append, List.mem_append] at hc
    rcases hc with hc | hc | hc
    · obtain ⟨a, b, d, e, f, g, i⟩ := h1 c hc
      exact ⟨a, b, f, e, d⟩
    · split at hc
      · exact absurd hc (by simp)
      · rcases List.mem_cons.1 hc with rfl | hc
        · decide
        · obtain ⟨a, b, d, e, f, g, i⟩ := h2 c hc
          exact ⟨a, b, f, e, d⟩
    · rw [List.mem_singleton] at hc; subst hc; decide

theorem path_bytes {u : U} (h : WebOk u) : ∀ c ∈ Path.show1 u.path, 32 < c.toNat ∧ c.toNat < 127 ∧ c.toNat ≠ 63 ∧ c.toNat ≠ 35 := by
  have ha := ((Path.mayP_iff _).1 h.path).1
  have hr : ∀ t ∈ u.path, Pct.readyB 3 t = true := fun t ht => ((Path.okT_iff t).1 (ha t ht)).1
  have := Path.show_all (fun c => !Pct.inB 3 c) (by rw [Path.free47]; rfl) u.path hr
  intro c hc
  have hc' := List.all_eq_true.1 this c hc
  obtain ⟨a, b, d, e⟩ := (bytes_at c).2.2.1 (by simpa using hc')
  exact ⟨a, b, e, d⟩

theorem mid_bytes {u : U} (h : mayU u = true) : ∀ c ∈ midT u, 32 < c.toNat ∧ c.toNat < 127 ∧ c.toNat ≠ 63 ∧ c.toNat ≠ 35 := by
  intro c hc
  unfold midT at hc
  rcases (may_parts h).2 with ⟨hw, k⟩ | ⟨hw, k⟩
  · rw [if_neg hw] at hc
    simp only [restT, List.mem_cons, List.mem_append] at hc
    rcases hc with rfl | rfl | hc | hc | hc
    · decide
    · decide
    · obtain ⟨a, b, d, e, f⟩ := user_bytes k c hc; exact ⟨a, b, e, f⟩
    · obtain ⟨a, b, d, e, f, g⟩ := door_bytes k c hc; exact ⟨a, b, e, f⟩
    · exact path_bytes k c hc
  · rw [if_pos hw] at hc
    obtain ⟨a, b⟩ := (bytes_at c).1 (ready_at k.opq c hc)
    refine ⟨a, b, fun e => k.n63 ?_, fun e => k.n35 ?_⟩
    · rw [show (63 : UInt8) = c from UInt8.toNat_inj.1 e.symm]; exact hc
    · rw [show (35 : UInt8) = c from UInt8.toNat_inj.1 e.symm]; exact hc

theorem q_bytes {u : U} (h : mayU u = true) : ∀ c ∈ qT u, 32 < c.toNat ∧ c.toNat < 127 ∧ c.toNat ≠ 35 := by
  intro c hc
  unfold qT at hc
  split at hc
  · rcases List.mem_cons.1 hc with rfl | hc
    · decide
    · exact (bytes_at c).2.1 (ready_at (may_parts h).1.qry c hc)
  · exact absurd hc (by simp)

theorem f_bytes {u : U} (h : mayU u = true) : ∀ c ∈ fT u, 32 < c.toNat ∧ c.toNat < 127 := by
  intro c hc
  unfold fT at hc
  split at hc
  · rcases List.mem_cons.1 hc with rfl | hc
    · decide
    · exact (bytes_at c).1 (ready_at (may_parts h).1.frg c hc)
  · exact absurd hc (by simp)

theorem text_bytes {u : U} (h : mayU u = true) : ∀ c ∈ textU u, 32 < c.toNat ∧ c.toNat < 127 := by
  intro c hc
  simp only [textU, List.mem_append, List.mem_cons] at hc
  rcases hc with hc | rfl | hc | hc | hc
  · exact ⟨((sch_ok h).2.2 c hc).1, ((sch_ok h).2.2 c hc).2.1⟩
  · decide
  · exact ⟨(mid_bytes h c hc).1, (mid_bytes h c hc).2.1⟩
  · exact ⟨(q_bytes h c hc).1, (q_bytes h c hc).2.1⟩
  · exact f_bytes h c hc

/-! ## what is shown is parsed -/

theorem tails_of (t q f : T) (hq hf : Bool) (h1 : (35 : UInt8) ∉ t) (h2 : (63 : UInt8) ∉ t) (h3 : (35 : UInt8) ∉ q) (q0 : hq = false → q = []) (f0 : hf = false → f = []) :
    let r := t ++ ((if hq then 63 :: q else []) ++ (if hf then 35 :: f else []))
    tA r = t ∧ tQ r = q ∧ tF r = f ∧ tHQ r = hq ∧ tHF r = hf := by
  intro r
  cases hq <;> cases hf
  · rw [q0 rfl, f0 rfl]
    have : r = t := by show t ++ ([] ++ []) = t; simp
    rw [this]
    exact tA_of t h1 h2
  · rw [q0 rfl]
    have : r = t ++ 35 :: f := rfl
    rw [this]
    unfold tA tQ tF tHQ tHF
    rw [bef_at _ _ h1, aft_at _ _ h1, bef_no _ h2, aft_no _ h2, has_no h2, has_yes (by simp)]
    exact ⟨rfl, rfl, rfl, rfl, rfl⟩
  · rw [f0 rfl]
    have : r = t ++ 63 :: q := by show t ++ (63 :: q ++ []) = _; simp
    rw [this]
    exact tail_ofq t q h1 h2 h3
  · have : r = t ++ 63 :: (q ++ 35 :: f) := rfl
    rw [this]
    exact tail_of t q f h1 h2 h3

theorem path_head {l : List T} (h : Path.mayP l = true) : ∃ r, Path.show1 l = 47 :: r := by
  have := ((Path.mayP_iff _).1 h).2
  cases l with
  | nil => exact absurd rfl this
  | cons a r => exact ⟨a ++ Path.show1 r, rfl⟩

theorem user_cut {u : U} (h : WebOk u) (d : T) (hd : (64 : UInt8) ∉ d) : place (userT u ++ d) = d ∧ user (userT u ++ d) = u.usr ∧ pass (userT u ++ d) = u.pas := by
  have h1 : (58 : UInt8) ∉ u.usr := no_of fun c hc => ((bytes_at c).2.2.2 (ready_at h.usr c hc)).2.2.2.2.2.1
  have h2 : (58 : UInt8) ∉ u.pas := no_of fun c hc => ((bytes_at c).2.2.2 (ready_at h.pas c hc)).2.2.2.2.2.1
  unfold userT
  generalize u.usr = a at h1
  generalize u.pas = b at h2
  cases b with
  | nil =>
    cases a with
    | nil => exact place_no d hd
    | cons x r =>
      obtain ⟨p1, p2, p3⟩ := place_at (x :: r) d hd
      rw [bef_no _ h1] at p2
      rw [aft_no _ h1] at p3
      have e : ((if ((x :: r : T).isEmpty && ([] : T).isEmpty) = true then [] else (x :: r) ++ ((if ([] : T).isEmpty = true then [] else 58 :: []) ++ [64])) ++ d : T) = (x :: r) ++ 64 :: d := by simp
      rw [e]
      exact ⟨p1, p2, p3⟩
  | cons y s =>
    obtain ⟨p1, p2, p3⟩ := place_at (a ++ 58 :: (y :: s)) d hd
    rw [bef_at _ _ h1] at p2
    rw [aft_at _ _ h1] at p3
    have e : ((if (a.isEmpty && (y :: s : T).isEmpty) = true then [] else a ++ ((if (y :: s : T).isEmpty = true then [] else 58 :: (y :: s)) ++ [64])) ++ d : T) = (a ++ 58 :: (y :: s)) ++ 64 :: d := by simp
    rw [e]
    exact ⟨p1, p2, p3⟩

theorem door_cut {u : U} (h : WebOk u) : hname (doorT u) = showH u.h ∧ portB (digs (doorT u)) = true ∧ portI u.sch (digs (doorT u)) = u.port := by
  obtain ⟨d1, d2, d3, d4⟩ := door_of u.h h.h
  unfold doorT
  by_cases hp : u.port = -1
  · have : portT u = [] := by unfold portT; rw [if_pos hp]
    rw [this, List.append_nil, d2, d3, hp]
    exact ⟨rfl, rfl, rfl⟩
  · rw [port_show h hp, (d4 _).1, (d4 _).2]
    have hp1 := h.p1
    have hp2 := h.p2
    have hp3 := h.p3
    have hn : Deci.showN u.port.toNat ≠ [] := Deci.showN_ne _
    have hne : (Deci.showN u.port.toNat).isEmpty = false := by
      cases e : Deci.showN u.port.toNat with
      | nil => exact absurd e hn
      | cons a r => rfl
    refine ⟨rfl, ?_, ?_⟩
    · unfold portB Deci.readB
      rw [hne, Deci.showN_plain, Deci.valN_showN]
      simp; omega
    · unfold portI
      rw [hne, Deci.valN_showN, if_neg (by simp), if_neg (by omega)]
      omega

theorem web_text {u : U} (h : WebOk u) (h8 : u.h.p.length = 8) : webB (47 :: 47 :: restT u) = true ∧ webU u.sch (47 :: 47 :: restT u) = ⟨u.sch, u.usr, u.pas, u.h, u.port, u.path, [], [], [], false, false⟩ := by
  obtain ⟨r, hr⟩ := path_head h.path
  have n47 : (47 : UInt8) ∉ userT u ++ doorT u := by
    rw [List.mem_append, not_or]
    exact ⟨no_of fun c hc => (user_bytes h c hc).2.2.1, no_of fun c hc => (door_bytes h c hc).2.2.1⟩
  have n64 : (64 : UInt8) ∉ doorT u := no_of fun c hc => (door_bytes h c hc).2.2.2.2.2
  obtain ⟨a1, a2⟩ := auth_at (userT u ++ doorT u) r n47
  have e : restT u = (userT u ++ doorT u) ++ 47 :: r := by unfold restT; rw [hr, List.append_assoc]
  rw [← e] at a1 a2
  obtain ⟨p1, p2, p3⟩ := user_cut h (doorT u) n64
  obtain ⟨q1, q2, q3⟩ := door_cut h
  obtain ⟨k1, k2, k3, k4⟩ := Host.show_back u.h h8 h.h
  refine ⟨?_, ?_⟩
  · rw [web_pre, a1, p1, q1, q2, k1]; rfl
  · unfold webU
    rw [a1, a2, p1, p2, p3, q1, q3, k2, Pct.encode_ready 4 _ h.usr, Pct.encode_ready 4 _ h.pas, ← hr, Path.parse_show _ h.path]

theorem par_text {u : U} (h : mayU u = true) (h8 : u.h.p.length = 8) : okU (textU u) = true ∧ parU (textU u) = u := by
  have hc : Ascii.clean (textU u) = textU u := clean_same _ fun c hc => (text_bytes h c hc).1
  obtain ⟨s1, s2, s3⟩ := sch_ok h
  obtain ⟨t1, t2, t3⟩ := sch_of u.sch (midT u ++ (qT u ++ fT u)) s1
  rw [s2] at t2
  obtain ⟨tk, hw⟩ := may_parts h
  have n35 : (35 : UInt8) ∉ midT u := no_of fun c hc => (mid_bytes h c hc).2.2.2
  have n63 : (63 : UInt8) ∉ midT u := no_of fun c hc => (mid_bytes h c hc).2.2.1
  have nq : (35 : UInt8) ∉ u.qry := no_of fun c hc => ((bytes_at c).2.1 (ready_at tk.qry c hc)).2.2
  obtain ⟨v1, v2, v3, v4, v5⟩ := tails_of (midT u) u.qry u.frg u.hq u.hf n35 n63 nq tk.hq tk.hf
  have hT : (midT u ++ ((if u.hq then 63 :: u.qry else []) ++ (if u.hf then 35 :: u.frg else [])) : T) = midT u ++ (qT u ++ fT u) := rfl
  simp only [hT] at v1 v2 v3 v4 v5
  have eT : ∀ x : U, x.sch = u.sch → x.usr = u.usr → x.pas = u.pas → x.h = u.h → x.port = u.port → x.path = u.path → x.opq = u.opq → tailU x (midT u ++ (qT u ++ fT u)) = u := by
    intro x e1 e2 e3 e4 e5 e6 e7
    unfold tailU
    rw [v2, v3, v4, v5, Pct.encode_ready 2 _ tk.qry, Pct.encode_ready 1 _ tk.frg, e1, e2, e3, e4, e5, e6, e7]
  unfold okU parU
  rw [hc]
  have eS : textU u = u.sch ++ 58 :: (midT u ++ (qT u ++ fT u)) := rfl
  rw [eS]
  rcases hw with ⟨hw, k⟩ | ⟨hw, k⟩
  · have em : midT u = 47 :: 47 :: restT u := by unfold midT; rw [if_neg hw]
    obtain ⟨b1, b2⟩ := web_text k h8
    have ho : okS (u.sch ++ 58 :: (midT u ++ (qT u ++ fT u))) = true := by
      unfold okS
      rw [t1, t2, t3, v1, em, b1, decide_eq_false hw]; rfl
    refine ⟨ho, ?_⟩
    unfold parS aheadU
    rw [if_pos ho, t2, t3, v1, if_neg hw, em, b2, ← em]
    exact eT _ rfl rfl rfl rfl rfl rfl k.opq.symm
  · have em : midT u = u.opq := by unfold midT; rw [if_pos hw]
    have ho : okS (u.sch ++ 58 :: (midT u ++ (qT u ++ fT u))) = true := by
      unfold okS
      rw [t1, t2, k.sch]; simp
    refine ⟨ho, ?_⟩
    unfold parS aheadU
    rw [if_pos ho, t2, t3, v1, if_pos hw]
    exact eT _ rfl k.usr.symm k.pas.symm k.h.symm k.port.symm k.path.symm (by show Pct.encode 1 (midT u) = _; rw [em, Pct.encode_ready 1 _ k.opq])

theorem text_ne (u : U) : textU u ≠ [] := by unfold textU; simp

theorem show_ne (u : U) : (showU u ≠ []) ↔ mayU u = true := by
  unfold showU
  cases h : mayU u
  · simp
  · simp [text_ne]

theorem par_show {u : U} (h : mayU u = true) (h8 : u.h.p.length = 8) : okU (showU u) = true ∧ parU (showU u) = u := by
  have : showU u = textU u := by unfold showU; rw [if_pos h]
  rw [this]; exact par_text h h8

theorem show_inj {u v : U} (h : mayU u = true) (h8 : u.h.p.length = 8) (k : mayU v = true) (k8 : v.h.p.length = 8) (e : showU u = showU v) : u = v := by
  rw [← (par_show h h8).2, e, (par_show k k8).2]

/-! ## without a fragment, without a user -/

theorem bare_may {u : U} (h : mayU u = true) : mayU (bareU u) = true := by
  have : tailB (bareU u) = true := by
    unfold mayU tailB at h
    simp only [Bool.and_eq_true] at h
    unfold tailB bareU
    rw [h.1.1.1, h.1.1.2]; rfl
  unfold mayU at h ⊢
  rw [Bool.and_eq_true] at h
  rw [this, Bool.true_and]
  exact h.2

theorem open_may {u : U} (h : mayU u = true) : mayU (openU u) = true := by
  have h1 := bare_may h
  unfold mayU at h1 ⊢
  rw [Bool.and_eq_true] at h1 ⊢
  refine ⟨h1.1, ?_⟩
  have h2 := h1.2
  have hs : (openU u).sch = (bareU u).sch := rfl
  rw [hs]
  split
  · rename_i hw
    rw [if_pos hw] at h2
    unfold mayOpq at h2 ⊢
    simp only [Bool.and_eq_true] at h2 ⊢
    exact ⟨h2.1, h2.2.1, h2.2.2.1, h2.2.2.2.1, h2.2.2.2.2.1, rfl, rfl, h2.2.2.2.2.2.2.2⟩
  · rename_i hw
    rw [if_neg hw] at h2
    unfold mayWeb mayPort at h2 ⊢
    simp only [Bool.and_eq_true] at h2 ⊢
    exact ⟨h2.1, rfl, rfl, h2.2.2.2⟩

theorem open_open (u : U) : openU (openU u) = openU u := rfl

theorem open_bare (u : U) : openU (bareU u) = openU u := rfl

theorem show_bare (u : U) (h : mayU u = true) : showU u = showU (bareU u) ++ fT u := by
  unfold showU
  rw [if_pos h, if_pos (bare_may h)]
  show textU u = (u.sch ++ 58 :: (midT u ++ (qT u ++ []))) ++ fT u
  unfold textU
  simp

theorem open_bytes {u : U} (h : mayU u = true) : ∀ c ∈ showU (openU u), 32 < c.toNat ∧ c.toNat < 127 ∧ c.toNat ≠ 35 := by
  have ho := open_may h
  intro c hc
  unfold showU at hc
  rw [if_pos ho] at hc
  have hb := text_bytes ho c hc
  refine ⟨hb.1, hb.2, ?_⟩
  simp only [textU, List.mem_append, List.mem_cons] at hc
  rcases hc with hc | rfl | hc | hc | hc
  · exact ((sch_ok ho).2.2 c hc).2.2.1
  · decide
  · exact (mid_bytes ho c hc).2.2.2
  · exact (q_bytes ho c hc).2.2
  · exact absurd hc (by show c ∉ ([] : T); simp)

theorem open_begins {u : U} (h : mayU u = true) (hw : webI u.sch ≠ 0) (h8 : u.h.p.length = 8) : ∃ r, showU (openU u) = u.sch ++ 58 :: 47 :: 47 :: (doorU u ++ r) ∧ doorU u = doorT u ∧ doorU u ≠ [] := by
  have hd : doorU u = doorT u := by unfold doorU; rw [h, decide_eq_false hw]; rfl
  have k : WebOk u := by
    rcases (may_parts h).2 with ⟨_, k⟩ | ⟨e, _⟩
    · exact k
    · exact absurd e hw
  refine ⟨Path.show1 u.path ++ (qT u ++ []), ?_, hd, ?_⟩
  · unfold showU
    rw [if_pos (open_may h), hd]
    show u.sch ++ 58 :: ((if webI u.sch = 0 then u.opq else 47 :: 47 :: ([] ++ (doorT u ++ Path.show1 u.path))) ++ (qT u ++ [])) = _
    rw [if_neg hw]
    simp
  · rw [hd]
    unfold doorT
    have := (Host.show_back u.h h8 k.h).2.2.1
    intro e
    exact this (List.append_eq_nil_iff.1 e).1

/-- Doors. -/
theorem door_inj {u v : U} (h : mayU u = true) (k : mayU v = true) (hw : webI u.sch ≠ 0) (kw : webI v.sch ≠ 0) (h8 : u.h.p.length = 8) (k8 : v.h.p.length = 8) :
    (doorU u = doorU v) ↔ (u.h = v.h ∧ u.port = v.port) := by
  have a : WebOk u := by
    rcases (may_parts h).2 with ⟨_, k⟩ | ⟨e, _⟩
    · exact k
    · exact absurd e hw
  have b : WebOk v := by
    rcases (may_parts k).2 with ⟨_, k⟩ | ⟨e, _⟩
    · exact k
    · exact absurd e kw
  have ea : doorU u = doorT u := by unfold doorU; rw [h, decide_eq_false hw]; rfl
  have eb : doorU v = doorT v := by unfold doorU; rw [k, decide_eq_false kw]; rfl
  rw [ea, eb]
  constructor
  · intro e
    have e1 : showH u.h = showH v.h := by rw [← (door_cut a).1, e, (door_cut b).1]
    refine ⟨by rw [← (Host.show_back u.h h8 a.h).2.1, e1, (Host.show_back v.h k8 b.h).2.1], ?_⟩
    have e2 : portT u = portT v := by
      unfold doorT at e
      rw [e1] at e
      exact List.append_cancel_left e
    by_cases hp : u.port = -1
    · by_cases hq : v.port = -1
      · rw [hp, hq]
      · rw [port_show b hq] at e2
        unfold portT at e2
        rw [if_pos hp] at e2
        cases e2
    · by_cases hq : v.port = -1
      · rw [port_show a hp] at e2
        unfold portT at e2
        rw [if_pos hq] at e2
        cases e2
      · rw [port_show a hp, port_show b hq] at e2
        have := Deci.showN_inj (List.cons.inj e2).2
        have h1 := a.p1
        have h2 := b.p1
        omega
  · rintro ⟨e1, e2⟩
    unfold doorT portT
    rw [e1, e2]



open Go.RowKit Go.Shelf

open Path (Strs)

set_option maxRecDepth 100000

/-- The builder's WriteString with the frame that reaches above the builder. -/
theorem write_k (B b : Nat) (bs : List Value) (s : ByteArray) (w : World) (h : Lib.IsBuilderF 88 5 B b bs w) (hlen : bs.length + s.size ≤ 140737488355328) (hBw : B ≤ w.heap.size) :
    Calls Tryz.prog 88 #[.pointer (some ⟨b, 0, none⟩), .string s] w fun e w' => e = .returned (.tuple #[.int .i64 s.size, .nilIface]) ∧ (Lib.BuilderAtF 88 5 B b (.pointer (some ⟨b, 0, none⟩)) (bs ++ Lib.strCells s) w' ∧ Below B w w' ∧ Lib.OthersKept 5 (some b) w w') :=
  Any.Builder_WriteString_k { Tryz.lays155 with } Tryz.Builder_Extra_155 B b bs s w h hlen hBw

/-- The builder's String with the frame that reaches above the builder. -/
theorem string_f (B b : Nat) (l : List UInt8) (w : World) (h : Lib.IsBuilderF 88 5 B b (Lib.byteCells l) w) (hBw : B ≤ w.heap.size) :
    Calls Tryz.prog 92 #[.pointer (some ⟨b, 0, none⟩)] w fun e w' => e = .returned (.string ⟨l.toArray⟩) ∧ (Lib.IsBuilderF 88 5 B b (Lib.byteCells l) w' ∧ Below B w w') :=
  Any.Builder_String_any_f Tryz.lays169 Tryz.Builder_Extra_169 B b l w h hBw

/-- The method value of a builder. -/
def putV (b : Nat) : Value := .func (.func 88) #[.pointer (some ⟨b, 0, none⟩)] #[]

theorem bld_later {t e : TypeId} {B b : Nat} {p : Value} {bs : List Value} {w w' : World} (h : Lib.BuilderAtF t e B b p bs w) (hB : Below w.heap.size w w') : Lib.BuilderAtF t e B b p bs w' := by
  obtain ⟨h1, v, hb, hown, hne⟩ := h
  refine ⟨h1, v, (hB.block b (Array.getElem?_eq_some_iff.1 hb).1).trans hb, ⟨hown.1, ?_⟩, hne⟩
  rcases hown.2 with hn | ⟨g, cap, cur, fz, rfl, hb2, hgg, rest⟩
  · exact .inl hn
  · exact .inr ⟨g, cap, cur, fz, rfl, hb2, (hB.block g (Array.getElem?_eq_some_iff.1 hgg).1).trans hgg, rest⟩

theorem isb_later {t e : TypeId} {B b : Nat} {bs : List Value} {w w' : World} (h : Lib.IsBuilderF t e B b bs w) (hB : Below w.heap.size w w') : Lib.IsBuilderF t e B b bs w' :=
  h.elim (fun x => .inl (bld_later x hB)) (fun x => .inr (bld_later x hB))

theorem isb_at {t e : TypeId} {B b : Nat} {bs : List Value} {w : World} (h : Lib.IsBuilderF t e B b bs w) : ∃ c, w.heap[b]? = some (.cells c t (0, 0)) := by
  rcases h with ⟨_, v, hb, _⟩ | ⟨_, v, hb, _⟩ <;> exact ⟨_, hb⟩

/-- What is told so far: 'g' is the address's block, 'b' the builder's, 'p' the box of the method value. -/
structure Out (w0 : World) (g b p : Nat) (u : U) (pv : Value) (l : T) (W : World) : Prop where
  bel : Below w0.heap.size w0 W
  url : UrlAt W g u pv
  bld : Lib.IsBuilderF 88 5 w0.heap.size b (Lib.byteCells l) W
  box : W.heap[p]? = some (.cells #[putV b] 89 (0, 0))
section
variable {w0 W W' : World} {g b p : Nat} {u : U} {pv : Value} {l : T}

theorem Out.later (h : Out w0 g b p u pv l W) (hB : Below W.heap.size W W') : Out w0 g b p u pv l W' :=
  ⟨Ascii.below2 h.bel hB, h.url.later hB, isb_later h.bld hB, (hB.block p (Array.getElem?_eq_some_iff.1 h.box).1).trans h.box⟩

theorem Out.wrote (h : Out w0 g b p u pv l W) {s : T} (k : Lib.BuilderAtF 88 5 w0.heap.size b (.pointer (some ⟨b, 0, none⟩)) (Lib.byteCells l ++ Lib.strCells (tb s)) W') (hB : Below w0.heap.size W W') (ho : Lib.OthersKept 5 (some b) W W') : Out w0 g b p u pv (l ++ s) W' := by
  obtain ⟨c, hc⟩ := isb_at h.bld
  refine ⟨h.bel.trans hB, ho g _ h.url ?_ (fun c fz e => by cases e), ?_, ho p _ h.box ?_ (fun c fz e => by cases e)⟩
  · intro e
    cases e
    have := h.url
    unfold UrlAt at this
    rw [hc] at this
    cases this
  · have e : Lib.byteCells (l ++ s) = Lib.byteCells l ++ Lib.strCells (tb s) := by simp [Lib.byteCells, Lib.strCells, tb]
    rw [e]; exact .inr k
  · intro e
    cases e
    have := h.box
    rw [hc] at this
    cases this

theorem put_out (h : Out w0 g b p u pv l W) (s : T) (hs : l.length + s.length ≤ 140737488355328) :
    Calls Tryz.prog 88 #[.pointer (some ⟨b, 0, none⟩), .string (tb s)] W fun e W' => e = .returned (.tuple #[.int .i64 s.length, .nilIface]) ∧ Out w0 g b p u pv (l ++ s) W' ∧ Lib.OthersKept 5 (some b) W W' := by
  refine (write_k w0.heap.size b (Lib.byteCells l) (tb s) W h.bld (by rw [Lib.byteCells_length, tb_size]; exact hs) h.bel.size).mono ?_
  rintro e W' ⟨rfl, h1, h2, h3⟩
  exact ⟨by rw [tb_size], h.wrote h1 h2 h3, h3⟩

theorem Out.ne (h : Out w0 g b p u pv l W) {q : Nat} {c : Array Value} {fz : Nat × Nat} (hq : W.heap[q]? = some (.cells c 9 fz)) : some q ≠ some b := by
  obtain ⟨x, hc⟩ := isb_at h.bld
  intro e
  cases e
  rw [hc] at hq
  cases hq
end

theorem flat_take (ts : List T) (k : Nat) (h : k < ts.length) : (ts.take (k + 1)).flatten = (ts.take k).flatten ++ ts[k] := by
  rw [List.take_succ_eq_append_getElem h, List.flatten_append]; simp

theorem sum_take (ts : List T) (k : Nat) : (ts.take k).flatten.length ≤ ts.flatten.length := by
  conv => rhs; rw [← List.take_append_drop k ts, List.flatten_append, List.length_append]
  omega

set_option maxHeartbeats 4000000 in
/-- The closure: texts are put just if they are there. -/
theorem putIf_yes {w0 W : World} {g b p : Nat} {u : U} {pv : Value} {l : T} (ts : List T) (hts : ts.length ≤ 1000) (q n : Nat) (hn : ts.length = n) (h : Out w0 g b p u pv l W)
    (hq : W.heap[q]? = some (.cells (ts.map Path.tx).toArray 9 (0, 0))) (hlen : l.length + ts.flatten.length ≤ 140737488355328) :
    Calls Tryz.prog 114 #[.bool true, .slice (some ⟨q, 0, none⟩) n n, .pointer (some ⟨p, 0, none⟩)] W fun e W' => e = .returned (.tuple #[]) ∧ Out w0 g b p u pv (l ++ ts.flatten) W' := by
  subst hn
  have HO := Lib.hid h
  have HQ := Lib.hid hq
  have HL := Lib.hid hlen
  clear h hq hlen
  go_enter Tryz.func114, Tryz.ntmps114
  go_wp2
  go_loopw [11] (fun i wr => ∃ k : Nat, k ≤ ts.length ∧ i = .int .i64 k ∧ Hid (Out w0 g b p u pv (l ++ (ts.take k).flatten) wr) ∧ Hid (wr.heap[q]? = some (.cells (ts.map Path.tx).toArray 9 (0, 0)))) (fun i _ => ts.length - (intOf i).toNat)
  case atStart => exact ⟨0, Nat.zero_le _, rfl, by rw [List.take_zero, List.flatten_nil, List.append_nil]; exact HO, HQ⟩
  case round =>
    obtain ⟨k, hk, rfl, HO, HQ⟩ := hrel
    by_cases hlt : k < ts.length
    · have gc : wr.cell? ⟨q, k, none⟩ = some (Path.tx ts[k]) := by
        rw [cell_of_row wr q k _ 9 (0, 0) HQ.out]
        simp [hlt]
      have gp : wr.cell? ⟨p, 0, none⟩ = some (putV b) := by rw [cell_of_row wr p 0 _ 89 (0, 0) HO.out.box]; rfl
      unfold Path.tx at gc
      have h1 := sum_take ts (k + 1)
      have h2 := HL.out
      have h3 := flat_take ts k hlt
      have CP := Lib.hid (put_out HO.out ts[k] (by rw [List.length_append]; rw [h3, List.length_append] at h1; omega))
      rw [List.append_assoc, ← h3] at CP
      unfold putV at gp
      generalize ts[k] = t at gc CP
      have HN := Lib.hid (HO.out.ne HQ.out)
      clear h1 h2 h3 HO
      go_wp2_with fail
      refine (CP.out).mono ?_
      rintro e w1 ⟨rfl, hO, hK⟩
      have HQ1 := Lib.hid (hK q _ HQ.out HN.out (fun c fz e => by cases e))
      have HO1 := Lib.hid hO
      clear hO hK HQ CP
      go_wp2
      go_roundw
      case rel => exact ⟨k + 1, by omega, by go_num, HO1, HQ1⟩
      case measure => simp [intOf]; omega
    · obtain rfl : k = ts.length := by omega
      rw [List.take_of_length_le (Nat.le_refl _)] at HO
      go_wp2
      go_end0
      exact ⟨rfl, HO.out⟩

theorem putIf_no (v : Value) (p : Nat) (W : World) : Calls Tryz.prog 114 #[.bool false, v, .pointer (some ⟨p, 0, none⟩)] W fun e W' => e = .returned (.tuple #[]) ∧ W = W' := by
  go_enter Tryz.func114, Tryz.ntmps114
  go_wp2
  exact bodyPost_ret (results_none (fn := Tryz.f114) rfl _ _ _) rfl ⟨rfl, rfl⟩

theorem putIf_out {w0 W : World} {g b p : Nat} {u : U} {pv : Value} {l : T} (c : Bool) (ts : List T) (hts : ts.length ≤ 1000) (q n : Nat) (hn : ts.length = n) (h : Out w0 g b p u pv l W)
    (hq : W.heap[q]? = some (.cells (ts.map Path.tx).toArray 9 (0, 0))) (hlen : l.length + ts.flatten.length ≤ 140737488355328) :
    Calls Tryz.prog 114 #[.bool c, .slice (some ⟨q, 0, none⟩) n n, .pointer (some ⟨p, 0, none⟩)] W fun e W' => e = .returned (.tuple #[]) ∧ Out w0 g b p u pv (l ++ if c then ts.flatten else []) W' := by
  cases c
  · refine (putIf_no _ p W).mono ?_
    rintro e W' ⟨rfl, rfl⟩
    exact ⟨rfl, by rw [if_neg (by simp), List.append_nil]; exact h⟩
  · exact putIf_yes ts hts q n hn h hq hlen

theorem ifThere_any (b : Nat) (w : World) : Calls Tryz.prog 89 #[.func (.func 88) #[.pointer (some ⟨b, 0, none⟩)] #[]] w fun e w' => e = .returned (.func (.func 114) #[] #[.pointer (some ⟨w.heap.size, 0, none⟩)]) ∧ w' = w.alloc (.cells #[putV b] 89) := by
  go_enter Tryz.func89, Tryz.ntmps89
  go_wp2
  go_ret
  exact ⟨rfl, rfl⟩

theorem ofWeb_any (u : U) (pv : Value) (h8 : u.h.p.length = 8) (b : Bool) (hb : (!decide (webI u.sch = 0)) = b) (w : World) :
    Calls Tryz.prog 87 #[.agg (cU u pv)] w fun e w' => e = .returned (.bool b) ∧ Below w.heap.size w w' := by
  have HB0 := Lib.hid (show Below w.heap.size w (w.alloc (.cells (cU u pv) 27)) from (Below.refl _ w).alloc (Nat.le_refl _) _)
  have c0 := (UrlAt.new w u pv).cell 0
  rw [(cU_at u pv h8).1] at c0
  have WW := Lib.hid (fun v => web_any (tb u.sch) (webI u.sch) rfl v)
  generalize webI u.sch = z at WW hb
  generalize tb u.sch = s at WW c0
  generalize cU u pv = C at c0 HB0 ⊢
  clear h8
  have q3 : ((z != 0) : Bool) = b := by rw [← hb]; by_cases h : z = 0 <;> simp [h]
  clear hb
  go_enter Tryz.func87, Tryz.ntmps87
  go_wp2_with fail
  refine (WW.out _).mono ?_
  rintro e u1 ⟨rfl, rfl⟩
  go_wp2
  go_ret
  exact ⟨rfl, HB0.out⟩

theorem out_new {w V : World} {g : Nat} {u : U} {pv : Value} (hB : Below w.heap.size w V) (hU : UrlAt V g u pv) :
    Out w g V.heap.size (V.heap.size + 1) u pv [] ((V.alloc (.cells #[.pointer none, .slice none 0 0] 88)).alloc (.cells #[putV V.heap.size] 89)) := by
  have hs : (V.alloc (.cells #[.pointer none, .slice none 0 0] 88)).heap.size = V.heap.size + 1 := Array.size_push _
  have b1 := (Below.refl V.heap.size V).alloc (Nat.le_refl _) (.cells #[.pointer none, .slice none 0 0] 88)
  have b2 := b1.alloc (by omega) (.cells #[putV V.heap.size] 89)
  refine ⟨Ascii.below2 hB b2, hU.later b2, .inl ?_, ?_⟩
  · have h0 : Lib.BuilderAtF 88 5 w.heap.size V.heap.size (.pointer none) (Lib.byteCells []) (V.alloc (.cells #[.pointer none, .slice none 0 0] 88)) :=
      ⟨hB.size, .slice none 0 0, heap_alloc_new V _, ⟨rfl, .inl ⟨rfl, rfl⟩⟩, by simp [Value.ownBlock]⟩
    exact Lib.BuilderAtF.alloc h0 _
  · rw [← hs]; exact heap_alloc_new _ _



open Host (none0)

set_option maxRecDepth 100000

/-- What is written where it stands already changes nothing. -/
theorem set_same {w : World} {g o : Nat} {v : Value} (h : w.cell? ⟨g, o, none⟩ = some v) : w.setCell ⟨g, o, none⟩ v = w := by
  have e : (w.setCell ⟨g, o, none⟩ v).heap = w.heap := by
    unfold World.cell? at h
    unfold World.setCell
    apply Array.ext_getElem?
    intro i
    simp only [Array.getElem?_modify]
    split
    · rename_i hi
      subst hi
      cases hg : w.heap[g]? with
      | none => rfl
      | some ob =>
        rw [hg] at h
        cases ob with
        | cells cs t fr =>
          simp at h
          simp
          apply Array.ext_getElem?
          intro k
          rw [Array.getElem?_setIfInBounds]
          split
          · rename_i hk
            subst hk
            have : o < cs.size := (Array.getElem?_eq_some_iff.1 h).1
            rw [if_pos this, h]
          · rfl
        | _ => rfl
    · rfl
  have e2 : w.setCell ⟨g, o, none⟩ v = { w with heap := (w.setCell ⟨g, o, none⟩ v).heap } := rfl
  rw [e2, e]

/-- The pointers to an address's texts. -/
def offs : List Nat := [0, 1, 2, 4, 16, 17, 18]

def ptrs (g : Nat) : Array Value := (offs.map fun o => Value.pointer (some ⟨g, o, none⟩)).toArray

theorem text_cell (u : U) (pv : Value) (hf : Fit u) (k : Nat) (hk : k < 7) : ∃ o s, offs[k]? = some o ∧ (cU u pv)[o]? = some (.string s) ∧ s.size ≤ 1000000 := by
  have c := cU_at u pv hf.h8
  match k, hk with
  | 0, _ => exact ⟨0, _, rfl, c.1, hf.sch⟩
  | 1, _ => exact ⟨1, _, rfl, c.2.1, hf.usr⟩
  | 2, _ => exact ⟨2, _, rfl, c.2.2.1, hf.pas⟩
  | 3, _ => exact ⟨4, _, rfl, c.2.2.2.1, by have := hf.hs; omega⟩
  | 4, _ => exact ⟨16, _, rfl, c.2.2.2.2.2.2.1, hf.opq⟩
  | 5, _ => exact ⟨17, _, rfl, c.2.2.2.2.2.2.2.1, hf.qry⟩
  | 6, _ => exact ⟨18, _, rfl, c.2.2.2.2.2.2.2.2.1, hf.frg⟩

theorem row_frozen {W : World} {g : Nat} {cs : Array Value} {t : TypeId} (h : W.heap[g]? = some (.cells cs t (0, 0))) (o : Nat) : W.frozen? ⟨g, o, none⟩ = false := Lib.frozen_of_heap h o



set_option maxRecDepth 100000

theorem at_usr {w : World} {g : Nat} {u : U} {pv : Value} (a : UrlAt w g u pv) (h8 : u.h.p.length = 8) (x : T) : UrlAt (w.setCell ⟨g, 1, none⟩ (.string (tb x))) g { u with usr := x } pv := by
  have := heap_set a 1 (.string (tb x))
  unfold UrlAt
  rw [this]
  obtain ⟨sch, usr, pas, ⟨k, s, n, p⟩, port, path, opq, qry, frg, hq, hf⟩ := u
  obtain ⟨a, b, c, d, e, f, g, i, rfl⟩ := eight h8
  rfl

theorem at_pas {w : World} {g : Nat} {u : U} {pv : Value} (a : UrlAt w g u pv) (h8 : u.h.p.length = 8) (x : T) : UrlAt (w.setCell ⟨g, 2, none⟩ (.string (tb x))) g { u with pas := x } pv := by
  have := heap_set a 2 (.string (tb x))
  unfold UrlAt
  rw [this]
  obtain ⟨sch, usr, pas, ⟨k, s, n, p⟩, port, path, opq, qry, frg, hq, hf⟩ := u
  obtain ⟨a, b, c, d, e, f, g, i, rfl⟩ := eight h8
  rfl



open Host (none0 showH)

set_option maxRecDepth 100000

theorem host_len (u : U) (hf : Fit u) : (showH u.h).length ≤ 100 := by
  cases hm : Host.mayH u.h
  · unfold Host.showH; rw [hm]; exact Nat.zero_le _
  · exact (Host.show_back u.h hf.h8 hm).2.2.2

theorem port_len (u : U) (h : u.port ≤ 9223372036854775807) (h0 : -9223372036854775808 ≤ u.port) : (Deci.showI u.port).length ≤ 20 := (Deci.showI_len u.port h0 h).1

set_option maxHeartbeats 16000000 in
theorem door_any' (u : U) (pv : Value) (hf : Fit u) (x : ByteArray) (hx : tb (doorU u) = x) (m : Int) (w : World) (hm : Six.At m w) (hs : Strs w pv u.path) (hk : u.h.k = 3 → Six.Known) :
    Calls Tryz.prog 61 #[.agg (cU u pv)] w fun e w' => e = .returned (.string x) ∧ Below w.heap.size w w' := by
  have H8 := hf.h8
  have HB0 := Lib.hid (show Below w.heap.size w (w.alloc (.cells (cU u pv) 27)) from (Below.refl _ w).alloc (Nat.le_refl _) _)
  have HU := Lib.hid (UrlAt.new w u pv)
  have HM := Lib.hid (hm.later HB0.out)
  have HS := Lib.hid (hs.later HB0.out)
  obtain ⟨b, hb⟩ : ∃ b, mayU u = b := ⟨_, rfl⟩
  obtain ⟨c, hc⟩ : ∃ c, (!decide (webI u.sch = 0)) = c := ⟨_, rfl⟩
  have CM := Lib.hid (fun v hm hs => may_any u pv hf b hb m v hm hs)
  have CW := Lib.hid (fun v => ofWeb_any u pv H8 c hc v)
  unfold doorU at hx
  rw [hb, hc] at hx
  have HD := Lib.hid (show b = true → c = true → -1 ≤ u.port ∧ u.port ≤ 65535 from fun h1 h2 => by
    rcases (may_parts (hb.trans h1)).2 with ⟨_, k⟩ | ⟨e, _⟩
    · exact ⟨k.p1, k.p2⟩
    · rw [e] at hc; rw [← hc] at h2; cases h2)
  clear hb hc hm hs
  cases b
  · subst hx
    go_enter Tryz.func61, Tryz.ntmps61
    go_wp2_with ((with_reducible refine wp_load27 (o := ⟨some 6, .load 27 (.tmp 1), _, _, _, _⟩) ?_ (.tmp 1) ?_ w.heap.size ?_ u pv H8 HU.out ?_); (· rfl); (· rfl); (· rfl); simp only [Act.put, List.setIfInBounds_toArray, List.set_cons_zero, List.set_cons_succ])
    generalize w.alloc (.cells (cU u pv) 27) = W at HB0 HU HM HS ⊢
    refine (CM.out _ HM.out HS.out).mono ?_
    rintro e u1 ⟨rfl, hB1⟩
    go_wp2
    go_ret
    exact ⟨rfl, Ascii.below2 HB0.out hB1⟩
  cases c
  · subst hx
    go_enter Tryz.func61, Tryz.ntmps61
    go_wp2_with ((with_reducible refine wp_load27 (o := ⟨some 6, .load 27 (.tmp 1), _, _, _, _⟩) ?_ (.tmp 1) ?_ w.heap.size ?_ u pv H8 HU.out ?_); (· rfl); (· rfl); (· rfl); simp only [Act.put, List.setIfInBounds_toArray, List.set_cons_zero, List.set_cons_succ])
    generalize w.alloc (.cells (cU u pv) 27) = W at HB0 HU HM HS ⊢
    refine (CM.out _ HM.out HS.out).mono ?_
    rintro e u1 ⟨rfl, hB1⟩
    have hU1 := HU.out.later hB1
    go_wp2_with ((with_reducible refine wp_load27 (o := ⟨some 10, .load 27 (.tmp 1), _, _, _, _⟩) ?_ (.tmp 1) ?_ w.heap.size ?_ u pv H8 hU1 ?_); (· rfl); (· rfl); (· rfl); simp only [Act.put, List.setIfInBounds_toArray, List.set_cons_zero, List.set_cons_succ])
    refine (CW.out _).mono ?_
    rintro e u2 ⟨rfl, hB2⟩
    go_wp2
    go_ret
    exact ⟨rfl, Ascii.below3 HB0.out hB1 hB2⟩
  · obtain ⟨hp1, hp2⟩ := HD.out rfl rfl
    rw [Bool.and_self, if_pos rfl] at hx
    have HH := Lib.hid (host_len u hf)
    have HPL := Lib.hid (port_len u (by omega) (by omega))
    obtain ⟨hh, hhe⟩ : ∃ hh, showH u.h = hh := ⟨_, rfl⟩
    have CH := Lib.hid (fun v hv => Host.show_in' u.h H8 (by have := hf.hs; omega) (tb hh) (by rw [hhe]; rfl) m v hv hk)
    obtain ⟨pp, hpp⟩ : ∃ pp, Deci.showI u.port = pp := ⟨_, rfl⟩
    have CP := Lib.hid (fun v => Deci.show_calls u.port (by omega) (by omega) v)
    rw [hpp] at CP HPL
    rw [hhe] at HH
    unfold doorT portT at hx
    rw [hhe, hpp] at hx
    have HX := Lib.hid hx
    clear HD hhe hpp hx
    go_enter Tryz.func61, Tryz.ntmps61
    go_wp2_with ((with_reducible refine wp_load27 (o := ⟨some 6, .load 27 (.tmp 1), _, _, _, _⟩) ?_ (.tmp 1) ?_ w.heap.size ?_ u pv H8 HU.out ?_); (· rfl); (· rfl); (· rfl); simp only [Act.put, List.setIfInBounds_toArray, List.set_cons_zero, List.set_cons_succ])
    generalize w.alloc (.cells (cU u pv) 27) = W at HB0 HU HM HS ⊢
    refine (CM.out _ HM.out HS.out).mono ?_
    rintro e u1 ⟨rfl, hB1⟩
    have hU1 := HU.out.later hB1
    go_wp2_with ((with_reducible refine wp_load27 (o := ⟨some 10, .load 27 (.tmp 1), _, _, _, _⟩) ?_ (.tmp 1) ?_ w.heap.size ?_ u pv H8 hU1 ?_); (· rfl); (· rfl); (· rfl); simp only [Act.put, List.setIfInBounds_toArray, List.set_cons_zero, List.set_cons_succ])
    refine (CW.out _).mono ?_
    rintro e u2 ⟨rfl, hB2⟩
    have HB2 := Lib.hid (Ascii.below3 HB0.out hB1 hB2)
    have HU2 := Lib.hid (hU1.later hB2)
    have HM2 := Lib.hid ((HM.out.later hB1).later hB2)
    clear hU1 hB1 hB2 CM CW HM HS HU HB0
    go_wp2_with fail
    refine (ifThere_any _ _).mono ?_
    rintro e u3 ⟨rfl, rfl⟩
    have HO := Lib.hid (out_new HB2.out HU2.out)
    have HM3 := Lib.hid (HM2.out.later (((Below.refl u2.heap.size u2).alloc (Nat.le_refl _) (.cells #[.pointer none, .slice none 0 0] 88)).alloc (by have : (u2.alloc (.cells #[.pointer none, .slice none 0 0] 88)).heap.size = u2.heap.size + 1 := Array.size_push _; omega) (.cells #[putV u2.heap.size] 89)))
    rw [show (u2.alloc (.cells #[.pointer none, .slice none 0 0] 88)).heap.size = u2.heap.size + 1 from Array.size_push _]
    generalize (u2.alloc (.cells #[.pointer none, .slice none 0 0] 88)).alloc (.cells #[putV u2.heap.size] 89) = u3 at HO HM3 ⊢
    generalize u2.heap.size = gb at HO ⊢
    clear HB2 HU2 HM2
    have hUl := HO.out.url
    go_wp2_with ((with_reducible refine wp_load24u (o := ⟨some 19, .load 24 (.tmp 18), _, _, _, _⟩) ?_ (.tmp 18) ?_ w.heap.size ?_ u pv H8 hUl ?_); (· rfl); (· rfl); (· rfl); simp only [Act.put, List.setIfInBounds_toArray, List.set_cons_zero, List.set_cons_succ])
    clear hUl
    refine (CH.out _ HM3.out).mono ?_
    rintro e u4 ⟨rfl, hB4⟩
    have HO4 := Lib.hid (HO.out.later hB4)
    clear hB4 HO CH HM3
    go_wp2_with fail
    refine (put_out HO4.out hh (by have := HH.out; simp; omega)).mono ?_
    rintro e u5 ⟨rfl, hO5, _⟩
    rw [List.nil_append] at hO5
    have HO5 := Lib.hid hO5
    clear hO5 HO4
    go_wp2_with fail
    have hS : UrlAt u5.drew w.heap.size u pv := HO5.out.url
    have c14 := (cU_at u pv H8).2.2.2.2.1
    refine wp_region_held_drew (S := fun W => UrlAt W w.heap.size u pv) (by kernel_rfl) hS (fun _ => ?_)
    refine wpAnyH_take (i := 0) (oi := ⟨some 22, .move (.tmp 5), _, _, _, _⟩) (v := .func (.func 114) #[] #[.pointer (some ⟨gb + 1, 0, none⟩)]) rfl (by kernel_rfl) (by kernel_rfl) (by kernel_rfl) (fun _ _ _ h => h) (Or.inl ⟨by rfl, ?_⟩) (by assumption) ?_
    · (intro v hv; go_simp)
    simp only [Act.put, List.setIfInBounds_toArray, List.set_cons_zero, List.set_cons_succ]
    refine wpAnyH_take (i := 1) (oi := ⟨some 23, .fieldAddr 27 (.tmp 1) 4, _, _, _, _⟩) (v := .pointer (some ⟨w.heap.size, 14, none⟩)) rfl (by kernel_rfl) (by kernel_rfl) (by kernel_rfl) (fun _ _ _ h => h) (Or.inl ⟨by rfl, ?_⟩) (by assumption) ?_
    · (intro v hv; go_simp)
    simp only [Act.put, List.setIfInBounds_toArray, List.set_cons_zero, List.set_cons_succ]
    refine wpAnyH_take (i := 2) (oi := ⟨some 24, .load 3 (.tmp 23), _, _, _, _⟩) (v := .int .i64 u.port) rfl (by kernel_rfl) (by kernel_rfl) (by kernel_rfl) (fun _ _ _ h => h) (Or.inl ⟨by rfl, ?_⟩) (by assumption) ?_
    · (exact fun v hv => run_load_of 3 (.tmp 23) ⟨w.heap.size, 14, none⟩ rfl (.int .i64 u.port) (load3 ((hv.cell 14).trans c14)))
    simp only [Act.put, List.setIfInBounds_toArray, List.set_cons_zero, List.set_cons_succ]
    refine wpAnyH_take (i := 3) (oi := ⟨some 25, .binOp .neq 3 (.tmp 24) (.const (.int .i64 (-1)))  3, _, _, _, _⟩) (v := .bool (u.port != -1)) rfl (by kernel_rfl) (by kernel_rfl) (by kernel_rfl) (fun _ _ _ h => h) (Or.inl ⟨by rfl, ?_⟩) (by assumption) ?_
    · (intro v hv; go_simp)
    simp only [Act.put, List.setIfInBounds_toArray, List.set_cons_zero, List.set_cons_succ]
    refine wpAnyH_take (i := 4) (oi := ⟨some 26, .fieldAddr 27 (.tmp 1) 4, _, _, _, _⟩) (v := .pointer (some ⟨w.heap.size, 14, none⟩)) rfl (by kernel_rfl) (by kernel_rfl) (by kernel_rfl) (fun _ _ _ h => h) (Or.inl ⟨by rfl, ?_⟩) (by assumption) ?_
    · (intro v hv; go_simp)
    simp only [Act.put, List.setIfInBounds_toArray, List.set_cons_zero, List.set_cons_succ]
    refine wpAnyH_take (i := 5) (oi := ⟨some 27, .load 3 (.tmp 26), _, _, _, _⟩) (v := .int .i64 u.port) rfl (by kernel_rfl) (by kernel_rfl) (by kernel_rfl) (fun _ _ _ h => h) (Or.inl ⟨by rfl, ?_⟩) (by assumption) ?_
    · (exact fun v hv => run_load_of 3 (.tmp 26) ⟨w.heap.size, 14, none⟩ rfl (.int .i64 u.port) (load3 ((hv.cell 14).trans c14)))
    simp only [Act.put, List.setIfInBounds_toArray, List.set_cons_zero, List.set_cons_succ]
    refine wpAnyH_ready (rs := [6]) (by kernel_rfl) (by simp) ?_
    refine AllReadyH.cons (o := ⟨some 28, .call ⟨.value (.func 91), #[.tmp 27], _⟩, _, _, _, _⟩) rfl (fun K hK => ?_) AllReadyH.nil
    go_simp
    go_at_call 91
    refine (CP.out _).mono ?_
    rintro e u6 ⟨rfl, hB6⟩
    have HO6 := Lib.hid ((show Out w w.heap.size gb (gb + 1) u pv hh u5.drew from HO5.out.later (Below.refl _ _).drew).later hB6)
    refine hK.out _ _ HO6.out.url (fun hS => ?_)
    clear hK hB6
    refine wpAnyH_ready (rs := [7]) (by kernel_rfl) (by simp) ?_
    refine AllReadyH.cons (o := ⟨some 29, .buildSlice 25 2 _, _, _, _, _⟩) rfl (fun K hK => ?_) AllReadyH.nil
    go_simp
    refine hK.out _ _ (HO6.out.url.past _) (fun hS => ?_)
    clear hK
    refine wpAnyH_ready (rs := [8]) (by kernel_rfl) (by simp) ?_
    refine AllReadyH.cons (o := ⟨some 30, .call ⟨.value (.tmp 22), #[.tmp 25, .tmp 29], _⟩, _, _, _, _⟩) rfl (fun K hK => ?_) AllReadyH.nil
    go_simp
    go_at_call 114
    refine (putIf_out (u.port != -1) [[58], pp] (by simp) u6.heap.size 2 rfl (HO6.out.later ((Below.refl u6.heap.size u6).alloc (Nat.le_refl _) _)) (heap_alloc_new u6 _) (by have := HH.out; have := HPL.out; simp; omega)).mono ?_
    rintro e u7 ⟨rfl, hO7⟩
    refine hK.out _ _ hO7.url (fun hS => ?_)
    clear hK
    have HT : (⟨(hh ++ if (u.port != -1) = true then [[58], pp].flatten else []).toArray⟩ : ByteArray) = x := by
      rw [← HX.out]
      by_cases hp : u.port = -1
      · rw [hp]; rfl
      · rw [if_neg hp, if_pos (by simpa using hp)]; simp [tb]
    generalize (hh ++ if (u.port != -1) = true then [[58], pp].flatten else []) = L at hO7 HT
    have HO7 := Lib.hid hO7
    clear hO7 HO6 HO5
    refine wpAnyH_done (by kernel_rfl) ?_ _
    go_wp2_with fail
    refine (string_f w.heap.size gb L u7 HO7.out.bld HO7.out.bel.size).mono ?_
    rintro e u8 ⟨rfl, _, hB8⟩
    go_wp2
    go_ret
    exact ⟨rfl, HO7.out.bel.trans hB8⟩

theorem door_any (u : U) (pv : Value) (hf : Fit u) (x : ByteArray) (hx : tb (doorU u) = x) (m : Int) (w : World) (hm : Six.At m w) (hs : Strs w pv u.path) :
    Calls Tryz.prog 61 #[.agg (cU u pv)] w fun e w' => e = .returned (.string x) ∧ Below w.heap.size w w' := door_any' u pv hf x hx m w hm hs (fun _ => Six.known) 

end Go.Proofs.YtlkikfdbjpjpaaaGreatDoor.Show

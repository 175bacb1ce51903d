/-
  What package url answers, as plain functions of lists, and what follows of them.
  What follows for addresses that are put together of parts: the laws of the stage, on lists.
  url's small functions: Scheme, Web, Tail, the parts of an authority, a port.
  url's Scheme, Tail, users, cutPort, port.
  Addresses as values, and on the heap.
  An address of the web out of what stands ahead of its query.
  url's Parse: what goes wrong ends it by a panic, which a deferred function recovers.
-/
import Derived.WalkLawsBesides
import Derived.Deep.RegionHeld
import Derived.Tactics2
import Derived.Defers
import Derived.Recover
import Derived.Laws.Pointers
import Derived.Test.YtlkikfdbjpjpaaaGreatDoorPath
import Derived.Test.YtlkikfdbjpjpaaaGreatDoorHost
import Derived.Test.YtlkikfdbjpjpaaaGreatDoorUCut
namespace Go.Proofs.YtlkikfdbjpjpaaaGreatDoor.Url
set_option linter.unusedSimpArgs false
set_option linter.unusedVariables false
set_option maxRecDepth 100000


open Host (H parH okH none0 mayH showH domB brkB inner)

open Six (zero8)


def nameB (c : UInt8) : Bool := Ascii.alphaB (c.toNat : Int) || (Ascii.digitB (c.toNat : Int) || (decide ((c.toNat : Int) = 43) || (decide ((c.toNat : Int) = 45) || decide ((c.toNat : Int) = 46))))

def headB : T → Bool
  | [] => false
  | c :: _ => Ascii.alphaB (c.toNat : Int)

def named (l : T) : Bool := l.all nameB && headB l

def schB (l : T) : Bool := l.contains 58 && named (bef 58 l)

def schS (l : T) : T := if schB l then Ascii.lower (bef 58 l) else []

def schR (l : T) : T := if schB l then aft 58 l else []

def tA (l : T) : T := bef 63 (bef 35 l)

def tQ (l : T) : T := aft 63 (bef 35 l)

def tF (l : T) : T := aft 35 l

def tHQ (l : T) : Bool := (bef 35 l).contains 63

def tHF (l : T) : Bool := l.contains 35

def http : T := [104, 116, 116, 112]

def https : T := [104, 116, 116, 112, 115]

def about : T := [97, 98, 111, 117, 116]

def data : T := [100, 97, 116, 97]

def blob : T := [98, 108, 111, 98]

def webI (l : T) : Int := if l = http then 80 else if l = https then 443 else 0

def opB (l : T) : Bool := (l == about) || ((l == data) || (l == blob))

def place (l : T) : T := laft 64 l

def user (l : T) : T := bef 58 (lbef 64 l)

def pass (l : T) : T := aft 58 (lbef 64 l)

def inside (p : T) : Nat := if Lib.hasPrefix p [91] && p.contains 93 then (bef 93 p).length else 0

def hname (p : T) : T := p.take (inside p) ++ bef 58 (p.drop (inside p))

def digs (p : T) : T := aft 58 (p.drop (inside p))

def portB (d : T) : Bool := d.isEmpty || Deci.readB d 65535

def portI (sc d : T) : Int := if d.isEmpty then -1 else if (Deci.valN d : Int) = webI sc then -1 else (Deci.valN d : Int)

def auth (t : T) : T := bef 47 (t.drop 2)

def segT (t : T) : T := aft 47 (t.drop 2)

def webB (t : T) : Bool := Lib.hasPrefix t [47, 47] && (okH (hname (place (auth t))) && portB (digs (place (auth t))))

structure U where
  sch : T
  usr : T
  pas : T
  h : H
  port : Int
  path : List T
  opq : T
  qry : T
  frg : T
  hq : Bool
  hf : Bool

def none1 : U := ⟨[], [], [], none0, 0, [], [], [], [], false, false⟩

def okS (s : T) : Bool := schB s && ((!decide (webI (schS s) = 0) && webB (tA (schR s))) || opB (schS s))

def webU (sc t : T) : U := ⟨sc, Pct.encode 4 (user (auth t)), Pct.encode 4 (pass (auth t)), parH (hname (place (auth t))), portI sc (digs (place (auth t))), Path.parse (47 :: segT t), [], [], [], false, false⟩

def opqU (sc t : T) : U := ⟨sc, [], [], none0, -1, [], Pct.encode 1 t, [], [], false, false⟩

def aheadU (sc t : T) : U := if webI sc = 0 then opqU sc t else webU sc t

def tailU (u : U) (r : T) : U := { u with qry := Pct.encode 2 (tQ r), frg := Pct.encode 1 (tF r), hq := tHQ r, hf := tHF r }

def parS (s : T) : U := if okS s then tailU (aheadU (schS s) (tA (schR s))) (schR s) else none1

def okU (raw : T) : Bool := okS (Ascii.clean raw)

def parU (raw : T) : U := parS (Ascii.clean raw)

def tailB (u : U) : Bool := (Pct.readyB 2 u.qry && (u.hq || u.qry.isEmpty)) && (Pct.readyB 1 u.frg && (u.hf || u.frg.isEmpty))

def mayPort (u : U) : Bool := decide (-1 ≤ u.port) && (decide (u.port ≤ 65535) && !decide (u.port = webI u.sch))

def mayWeb (u : U) : Bool := mayH u.h && (Pct.readyB 4 u.usr && (Pct.readyB 4 u.pas && (Path.mayP u.path && (u.opq.isEmpty && mayPort u))))

def mayOpq (u : U) : Bool := Pct.readyB 1 u.opq && ((!u.opq.contains 63 && !u.opq.contains 35) && (decide (u.port = -1) && (Host.sameH u.h none0 && (u.usr.isEmpty && (u.pas.isEmpty && u.path.isEmpty)))))

def mayU (u : U) : Bool := tailB u && (if webI u.sch = 0 then opB u.sch && mayOpq u else mayWeb u)

def sameU (u v : U) : Bool := u.sch == v.sch && (u.usr == v.usr && (u.pas == v.pas && (Host.sameH u.h v.h && (u.port == v.port && (u.path == v.path && (u.opq == v.opq && (u.qry == v.qry && (u.hq == v.hq && (u.frg == v.frg && u.hf == v.hf)))))))))

theorem same_iff (u v : U) : sameU u v = true ↔ u = v := by
  unfold sameU
  simp only [Bool.and_eq_true, beq_iff_eq, Host.same_iff]
  cases u; cases v
  simp only [U.mk.injEq]
  constructor
  · rintro ⟨h1, h2, h3, h4, h5, h6, h7, h8, h9, h10, h11⟩; exact ⟨h1, h2, h3, h4, h5, h6, h7, h8, h10, h9, h11⟩
  · rintro ⟨h1, h2, h3, h4, h5, h6, h7, h8, h9, h10, h11⟩; exact ⟨h1, h2, h3, h4, h5, h6, h7, h8, h10, h9, h11⟩

/-! ## schemes -/

theorem web_op (l : T) (h : opB l = true) : webI l = 0 := by
  unfold opB at h
  simp only [Bool.or_eq_true, beq_iff_eq] at h
  rcases h with rfl | rfl | rfl <;> decide

theorem web_cases (l : T) : (l = http ∧ webI l = 80) ∨ (l = https ∧ webI l = 443) ∨ webI l = 0 := by
  unfold webI
  by_cases h : l = http
  · exact .inl ⟨h, by rw [if_pos h]⟩
  · by_cases h2 : l = https
    · exact .inr (.inl ⟨h2, by rw [if_neg h, if_pos h2]⟩)
    · exact .inr (.inr (by rw [if_neg h, if_neg h2]))

theorem name_all : ∀ n : Fin 256, nameB (UInt8.ofNat n.val) = true → (32 < n.val ∧ n.val < 127 ∧ n.val ≠ 58 ∧ n.val ≠ 35 ∧ n.val ≠ 63 ∧ nameB (Ascii.lowB (UInt8.ofNat n.val)) = true ∧ (let m := (Ascii.lowB (UInt8.ofNat n.val)).toNat; (97 ≤ m ∧ m ≤ 122) ∨ (48 ≤ m ∧ m ≤ 57) ∨ m = 43 ∨ m = 45 ∨ m = 46)) := by decide +kernel

theorem name_at (c : UInt8) (h : nameB c = true) : 32 < c.toNat ∧ c.toNat < 127 ∧ c.toNat ≠ 58 ∧ c.toNat ≠ 35 ∧ c.toNat ≠ 63 ∧ nameB (Ascii.lowB c) = true ∧ (let m := (Ascii.lowB c).toNat; (97 ≤ m ∧ m ≤ 122) ∨ (48 ≤ m ∧ m ≤ 57) ∨ m = 43 ∨ m = 45 ∨ m = 46) := by
  have := name_all ⟨c.toNat, c.toNat_lt⟩
  simp only [UInt8.ofNat_toNat] at this
  exact this h

theorem head_all : ∀ n : Fin 256, Ascii.alphaB ((UInt8.ofNat n.val).toNat : Int) = true → (Ascii.alphaB ((Ascii.lowB (UInt8.ofNat n.val)).toNat : Int) = true ∧ 97 ≤ (Ascii.lowB (UInt8.ofNat n.val)).toNat ∧ (Ascii.lowB (UInt8.ofNat n.val)).toNat ≤ 122) := by decide +kernel

theorem head_at (c : UInt8) (h : Ascii.alphaB (c.toNat : Int) = true) : Ascii.alphaB ((Ascii.lowB c).toNat : Int) = true ∧ 97 ≤ (Ascii.lowB c).toNat ∧ (Ascii.lowB c).toNat ≤ 122 := by
  have := head_all ⟨c.toNat, c.toNat_lt⟩
  simp only [UInt8.ofNat_toNat] at this
  exact this h

theorem named_iff (l : T) : named l = true ↔ (∀ c ∈ l, nameB c = true) ∧ headB l = true := by unfold named; rw [Bool.and_eq_true, List.all_eq_true]

theorem named_low (l : T) (h : named l = true) : named (Ascii.lower l) = true := by
  rw [named_iff] at h ⊢
  refine ⟨fun c hc => ?_, ?_⟩
  · obtain ⟨x, hx, rfl⟩ := List.mem_map.1 (show c ∈ l.map Ascii.lowB from hc)
    exact (name_at x (h.1 x hx)).2.2.2.2.2.1
  · cases l with
    | nil => exact absurd h.2 (by simp [headB])
    | cons c r => exact (head_at c h.2).1

theorem named_no {l : T} (h : named l = true) : (58 : UInt8) ∉ l ∧ (35 : UInt8) ∉ l ∧ (63 : UInt8) ∉ l := by
  rw [named_iff] at h
  refine ⟨fun hm => ?_, fun hm => ?_, fun hm => ?_⟩
  · exact (name_at _ (h.1 _ hm)).2.2.1 rfl
  · exact (name_at _ (h.1 _ hm)).2.2.2.1 rfl
  · exact (name_at _ (h.1 _ hm)).2.2.2.2.1 rfl

theorem sch_parts {l : T} (h : schB l = true) : l = bef 58 l ++ 58 :: aft 58 l ∧ named (bef 58 l) = true ∧ schS l = Ascii.lower (bef 58 l) ∧ schR l = aft 58 l := by
  have h' := h
  unfold schB at h'
  rw [Bool.and_eq_true] at h'
  exact ⟨whole _ _ ((has_iff _ _).1 h'.1), h'.2, by unfold schS; rw [if_pos h], by unfold schR; rw [if_pos h]⟩

theorem sch_of (n r : T) (h : named n = true) : schB (n ++ 58 :: r) = true ∧ schS (n ++ 58 :: r) = Ascii.lower n ∧ schR (n ++ 58 :: r) = r := by
  have h0 := (named_no h).1
  have h1 : schB (n ++ 58 :: r) = true := by
    unfold schB
    rw [bef_at _ _ h0, h, has_yes (by simp)]; rfl
  exact ⟨h1, by unfold schS; rw [if_pos h1, bef_at _ _ h0], by unfold schR; rw [if_pos h1, aft_at _ _ h0]⟩

theorem sch_again {l : T} (h : schB l = true) : schB (schS l ++ 58 :: schR l) = true ∧ schS (schS l ++ 58 :: schR l) = schS l ∧ schR (schS l ++ 58 :: schR l) = schR l := by
  obtain ⟨h1, h2, h3, h4⟩ := sch_parts h
  have := sch_of (Ascii.lower (bef 58 l)) (schR l) (named_low _ h2)
  rw [h3]
  exact ⟨this.1, by rw [this.2.1, Ascii.lower_lower], this.2.2⟩

/-! ## the tail -/

theorem tail_no (l : T) : (35 : UInt8) ∉ tA l ∧ (63 : UInt8) ∉ tA l := ⟨fun h => bef_not 35 l (bef_sub _ _ _ h), bef_not _ _⟩

theorem tA_of (t : T) (h1 : (35 : UInt8) ∉ t) (h2 : (63 : UInt8) ∉ t) : tA t = t ∧ tQ t = [] ∧ tF t = [] ∧ tHQ t = false ∧ tHF t = false := by
  unfold tA tQ tF tHQ tHF
  rw [bef_no _ h1, bef_no _ h2, aft_no _ h2, aft_no _ h1, has_no h2, has_no h1]
  exact ⟨rfl, rfl, rfl, rfl, rfl⟩

theorem tail_of (t q f : T) (h1 : (35 : UInt8) ∉ t) (h2 : (63 : UInt8) ∉ t) (hq : (35 : UInt8) ∉ q) :
    tA (t ++ 63 :: (q ++ 35 :: f)) = t ∧ tQ (t ++ 63 :: (q ++ 35 :: f)) = q ∧ tF (t ++ 63 :: (q ++ 35 :: f)) = f ∧ tHQ (t ++ 63 :: (q ++ 35 :: f)) = true ∧ tHF (t ++ 63 :: (q ++ 35 :: f)) = true := by
  have e : t ++ 63 :: (q ++ 35 :: f) = (t ++ 63 :: q) ++ 35 :: f := by simp
  have hm : (35 : UInt8) ∉ t ++ 63 :: q := by simp [h1, hq]
  unfold tA tQ tF tHQ tHF
  rw [e, bef_at _ _ hm, aft_at _ _ hm, bef_at _ _ h2, aft_at _ _ h2, has_yes (by simp), has_yes (by simp)]
  exact ⟨rfl, rfl, rfl, rfl, rfl⟩

theorem tail_ofq (t q : T) (h1 : (35 : UInt8) ∉ t) (h2 : (63 : UInt8) ∉ t) (hq : (35 : UInt8) ∉ q) :
    tA (t ++ 63 :: q) = t ∧ tQ (t ++ 63 :: q) = q ∧ tF (t ++ 63 :: q) = [] ∧ tHQ (t ++ 63 :: q) = true ∧ tHF (t ++ 63 :: q) = false := by
  have hm : (35 : UInt8) ∉ t ++ 63 :: q := by simp [h1, hq]
  unfold tA tQ tF tHQ tHF
  rw [bef_no _ hm, aft_no _ hm, bef_at _ _ h2, aft_at _ _ h2, has_yes (by simp), has_no hm]
  exact ⟨rfl, rfl, rfl, rfl, rfl⟩

/-! ## what is parsed may be -/

theorem enc_free (set : Int) (d : UInt8) (hd : ∀ n : Fin 16, Pct.hexC n.val ≠ d) (h37 : d ≠ 37) (l : T) (h : d ∉ l) : d ∉ Pct.encode set l := by
  induction l with
  | nil => simp [Pct.encode]
  | cons c r ih =>
    simp only [List.mem_cons, not_or] at h
    rw [Pct.encode_cons, List.mem_append, not_or]
    refine ⟨?_, ih h.2⟩
    unfold Pct.enc1
    split
    · simp only [List.mem_cons, List.not_mem_nil, or_false, not_or]
      exact ⟨h37, fun e => hd ⟨c.toNat / 16, (Pct.div16 c).1⟩ e.symm, fun e => hd ⟨c.toNat % 16, (Pct.div16 c).2⟩ e.symm⟩
    · simpa using h.1

theorem hex35 : ∀ n : Fin 16, Pct.hexC n.val ≠ 35 := by decide +kernel

theorem hex63 : ∀ n : Fin 16, Pct.hexC n.val ≠ 63 := by decide +kernel

theorem enc_nil (set : Int) : Pct.encode set [] = [] := rfl

theorem tail_may (u : U) (r : T) : tailB (tailU u r) = true := by
  unfold tailB tailU
  simp only [Pct.ready_encode, Bool.true_and, Bool.and_eq_true, Bool.or_eq_true]
  refine ⟨?_, ?_⟩
  · cases h : tHQ r
    · right
      unfold tHQ at h
      have : (63 : UInt8) ∉ bef 35 r := fun hm => by rw [has_yes hm] at h; cases h
      unfold tQ; rw [aft_no _ this]; rfl
    · exact .inl rfl
  · cases h : tHF r
    · right
      unfold tHF at h
      have : (35 : UInt8) ∉ r := fun hm => by rw [has_yes hm] at h; cases h
      unfold tF; rw [aft_no _ this]; rfl
    · exact .inl rfl

theorem port_may (sc d : T) (h : portB d = true) (hw : webI sc ≠ 0) : -1 ≤ portI sc d ∧ portI sc d ≤ 65535 ∧ portI sc d ≠ webI sc := by
  have hneg : (-1 : Int) ≠ webI sc := by rcases web_cases sc with ⟨_, h⟩ | ⟨_, h⟩ | h <;> rw [h] <;> decide
  unfold portI
  split
  · exact ⟨by omega, by omega, hneg⟩
  · rename_i hd
    split
    · exact ⟨by omega, by omega, hneg⟩
    · rename_i hn
      unfold portB at h
      rw [Bool.or_eq_true] at h
      rcases h with h | h
      · exact absurd h hd
      · unfold Deci.readB at h
        rw [Bool.and_eq_true, decide_eq_true_eq] at h
        exact ⟨by omega, h.2, hn⟩

theorem webU_may (sc t : T) (r : T) (hw : webI sc ≠ 0) (h : webB t = true) : mayU (tailU (webU sc t) r) = true := by
  unfold webB at h
  simp only [Bool.and_eq_true] at h
  obtain ⟨h0, h1, h2⟩ := h
  obtain ⟨p1, p2, p3⟩ := port_may sc _ h2 hw
  unfold mayU
  rw [tail_may, if_neg (by exact hw)]
  unfold mayWeb mayPort tailU webU
  simp only [Host.par_may _ h1, Pct.ready_encode, Path.parse_may, p1, p2, p3, decide_true, decide_false, Bool.true_and, Bool.not_false, Bool.and_self, List.isEmpty_nil]

theorem opqU_may (sc t : T) (r : T) (ho : opB sc = true) (h1 : (35 : UInt8) ∉ t) (h2 : (63 : UInt8) ∉ t) : mayU (tailU (opqU sc t) r) = true := by
  unfold mayU
  rw [tail_may, if_pos (by exact web_op sc ho)]
  unfold mayOpq tailU opqU
  simp only [ho, Pct.ready_encode, has_no (enc_free 1 63 hex63 (by decide) t h2), has_no (enc_free 1 35 hex35 (by decide) t h1), Host.same_refl, decide_true, Bool.true_and, Bool.not_false, Bool.and_self, List.isEmpty_nil]

theorem okS_ways {s : T} (h : okS s = true) : schB s = true ∧ ((webI (schS s) ≠ 0 ∧ webB (tA (schR s)) = true ∧ parS s = tailU (webU (schS s) (tA (schR s))) (schR s)) ∨
    (webI (schS s) = 0 ∧ opB (schS s) = true ∧ parS s = tailU (opqU (schS s) (tA (schR s))) (schR s))) := by
  have h' := h
  unfold okS at h'
  simp only [Bool.and_eq_true, Bool.or_eq_true, Bool.not_eq_true', decide_eq_false_iff_not] at h'
  refine ⟨h'.1, ?_⟩
  unfold parS aheadU
  rw [if_pos h]
  rcases h'.2 with ⟨h1, h2⟩ | h1
  · exact .inl ⟨h1, h2, by rw [if_neg h1]⟩
  · have := web_op _ h1
    exact .inr ⟨this, h1, by rw [if_pos this]⟩

theorem par_may (s : T) (h : okS s = true) : mayU (parS s) = true := by
  obtain ⟨h0, ⟨h1, h2, h3⟩ | ⟨h1, h2, h3⟩⟩ := okS_ways h
  · rw [h3]; exact webU_may _ _ _ h1 h2
  · rw [h3]; exact opqU_may _ _ _ h2 (tail_no _).1 (tail_no _).2

theorem par_web (s : T) (h : okS s = true) : decide (webI (parS s).sch > 0) = mayH (parS s).h := by
  obtain ⟨h0, ⟨h1, h2, h3⟩ | ⟨h1, h2, h3⟩⟩ := okS_ways h
  · rw [h3]
    unfold webB at h2
    simp only [Bool.and_eq_true] at h2
    have : mayH (tailU (webU (schS s) (tA (schR s))) (schR s)).h = true := Host.par_may _ h2.2.1
    rw [this]
    have hs : (tailU (webU (schS s) (tA (schR s))) (schR s)).sch = schS s := rfl
    rw [hs]
    rcases web_cases (schS s) with ⟨_, h⟩ | ⟨_, h⟩ | h
    · rw [h]; rfl
    · rw [h]; rfl
    · exact absurd h h1
  · rw [h3]
    have hs : (tailU (opqU (schS s) (tA (schR s))) (schR s)).sch = schS s := rfl
    have hh : (tailU (opqU (schS s) (tA (schR s))) (schR s)).h = none0 := rfl
    rw [hs, hh, h1]
    decide +kernel

theorem par_none (s : T) (h : okS s = false) : parS s = none1 := by unfold parS; rw [h]; rfl




/-! ## a host's text -/
theorem join_mem (ts : List T) (c : UInt8) (h : c ∈ Six.joinC ts) : c = 58 ∨ ∃ t ∈ ts, c ∈ t := by
  induction ts with
  | nil => exact absurd h (by simp [Six.joinC])
  | cons a r ih =>
    cases r with
    | nil => exact .inr ⟨a, by simp, by simpa [Six.joinC] using h⟩
    | cons b r =>
      have h' : c ∈ a ++ 58 :: Six.joinC (b :: r) := by simpa [Six.joinC] using h
      rw [List.mem_append, List.mem_cons] at h'
      rcases h' with h' | h' | h'
      · exact .inr ⟨a, by simp, h'⟩
      · exact .inl h'
      · rcases ih h' with h'' | ⟨t, ht, hc⟩
        · exact .inl h''
        · exact .inr ⟨t, by simp only [List.mem_cons] at ht ⊢; exact .inr ht, hc⟩

theorem okC_all : ∀ n : Fin 256, (Six.okC (UInt8.ofNat n.val) = true ∨ UInt8.ofNat n.val = 58) → (32 < n.val ∧ n.val < 127 ∧ n.val ≠ 47 ∧ n.val ≠ 63 ∧ n.val ≠ 35 ∧ n.val ≠ 64 ∧ n.val ≠ 91 ∧ n.val ≠ 93) := by decide +kernel

theorem okC_at (c : UInt8) (h : Six.okC c = true ∨ c = 58) : 32 < c.toNat ∧ c.toNat < 127 ∧ c.toNat ≠ 47 ∧ c.toNat ≠ 63 ∧ c.toNat ≠ 35 ∧ c.toNat ≠ 64 ∧ c.toNat ≠ 91 ∧ c.toNat ≠ 93 := by
  have := okC_all ⟨c.toNat, c.toNat_lt⟩
  simp only [UInt8.ofNat_toNat] at this
  exact this h

theorem six_mem (p : List Int) (hm : Six.mayP p = true) (c : UInt8) (h : c ∈ Six.showS p) : Six.okC c = true ∨ c = 58 := by
  have hok := Six.texts_okP p hm
  have hk : ∀ ts : List T, (∀ t ∈ ts, t ∈ Six.texts p) → c ∈ Six.joinC ts → Six.okC c = true ∨ c = 58 := by
    intro ts hts hc
    rcases join_mem ts c hc with h1 | ⟨t, ht, h1⟩
    · exact .inr h1
    · have := List.all_eq_true.1 hok t (hts t ht)
      exact .inl (List.all_eq_true.1 ((Six.okP_iff t).1 this).2.2 c h1)
  unfold Six.showS at h
  rw [if_pos hm] at h
  unfold Six.showIn at h
  split at h
  · exact hk _ (fun t ht => ht) h
  · unfold Six.gapped at h
    rw [List.mem_append, List.mem_cons, List.mem_cons] at h
    rcases h with h | h | h | h
    · exact hk _ (fun t ht => List.mem_of_mem_take ht) h
    · exact .inr h
    · exact .inr h
    · exact hk _ (fun t ht => List.mem_of_mem_drop ht) h

/-- What a host's text has: nothing that ends an authority, and no colon but within brackets. -/
theorem door_of (h : H) (hm : mayH h = true) : (∀ c ∈ showH h, 32 < c.toNat ∧ c.toNat ≠ 47 ∧ c.toNat ≠ 63 ∧ c.toNat ≠ 35 ∧ c.toNat ≠ 64) ∧ hname (showH h) = showH h ∧ digs (showH h) = [] ∧
    ∀ d : T, hname (showH h ++ 58 :: d) = showH h ∧ digs (showH h ++ 58 :: d) = d := by
  have plain : ∀ l : T, (∀ c ∈ l, c.toNat ≠ 58 ∧ c.toNat ≠ 91) → (∀ x : T, inside (l ++ 58 :: x) = 0) ∧ inside l = 0 ∧ (58 : UInt8) ∉ l := by
    intro l hl
    have h1 : ∀ y : T, (∀ c, y.head? = some c → c ≠ 91) → Lib.hasPrefix y [91] = false := by
      intro y hy
      cases y with
      | nil => rfl
      | cons a r => simp [Lib.hasPrefix, List.isPrefixOf]; exact fun e => hy a rfl e.symm
    refine ⟨fun x => ?_, ?_, fun hc => (hl _ hc).1 rfl⟩
    · unfold inside
      rw [h1, Bool.false_and]; · rfl
      intro c hc
      cases l with
      | nil => simp at hc; subst hc; decide
      | cons a r => simp at hc; subst hc; exact fun e => (hl a (by simp)).2 (by rw [e]; rfl)
    · unfold inside
      rw [h1, Bool.false_and]; · rfl
      intro c hc
      cases l with
      | nil => simp at hc
      | cons a r => simp at hc; subst hc; exact fun e => (hl a (by simp)).2 (by rw [e]; rfl)
  have fin : ∀ l : T, (∀ c ∈ l, c.toNat ≠ 58 ∧ c.toNat ≠ 91) → hname l = l ∧ digs l = [] ∧ ∀ d : T, hname (l ++ 58 :: d) = l ∧ digs (l ++ 58 :: d) = d := by
    intro l hl
    obtain ⟨h1, h2, h3⟩ := plain l hl
    unfold hname digs
    rw [h2]
    refine ⟨by simp [bef_no l h3], by simp [aft_no l h3], fun d => ?_⟩
    rw [h1 d]
    exact ⟨by simp [bef_at l d h3], by simp [aft_at l d h3]⟩
  rcases Host.may_ways h hm with ⟨h0, h3, e⟩ | ⟨n, hn, h0, e⟩ | ⟨h0, h3, e⟩
  · rw [e]
    obtain ⟨d1, d2, d3, d4⟩ := (Host.dom_iff _).1 h3
    have hb : ∀ c ∈ h.s.data.toList, _ := fun c hc => Host.byte_not c (Host.parts_all _ d4 c hc)
    exact ⟨fun c hc => ⟨(hb c hc).1, (hb c hc).2.2.1, (hb c hc).2.2.2.1, (hb c hc).2.2.2.2.1, (hb c hc).2.2.2.2.2.1⟩, fin _ (fun c hc => ⟨(hb c hc).2.2.2.2.2.2.2.1, (hb c hc).2.2.2.2.2.2.2.2.1⟩)⟩
  · rw [e]
    have hb : ∀ c ∈ Four.show4 n, (48 ≤ c.toNat ∧ c.toNat ≤ 57) ∨ c.toNat = 46 := fun c hc => (Host.show4_bytes n c hc).imp id (fun e => by rw [e]; rfl)
    exact ⟨fun c hc => by have := hb c hc; omega, fin _ (fun c hc => by have := hb c hc; omega)⟩
  · rw [e]
    have hb : ∀ c ∈ Six.showS h.p, _ := fun c hc => okC_at c (six_mem h.p h3 c hc)
    have n93 : (93 : UInt8) ∉ (91 :: Six.showS h.p : T) := by
      simp only [List.mem_cons, not_or]
      exact ⟨by decide, fun hc => (hb _ hc).2.2.2.2.2.2.2 rfl⟩
    have ins : ∀ x : T, inside (91 :: (Six.showS h.p ++ [93]) ++ x) = (91 :: Six.showS h.p : T).length := by
      intro x
      have e1 : (91 :: (Six.showS h.p ++ [93]) ++ x : T) = (91 :: Six.showS h.p) ++ 93 :: x := by simp
      unfold inside
      rw [e1, bef_at _ _ n93, has_yes (by simp)]
      rw [if_pos]
      simp [Lib.hasPrefix, List.isPrefixOf]
    have e0 : ∀ x : T, (91 :: (Six.showS h.p ++ [93]) ++ x : T) = (91 :: Six.showS h.p) ++ ([93] ++ x) := by intro x; simp
    refine ⟨fun c hc => ?_, ?_, ?_, fun d => ?_⟩
    · simp only [List.mem_cons, List.mem_append, List.not_mem_nil, or_false] at hc
      rcases hc with rfl | hc | rfl
      · decide
      · exact ⟨(hb c hc).1, (hb c hc).2.2.1, (hb c hc).2.2.2.1, (hb c hc).2.2.2.2.1, (hb c hc).2.2.2.2.2.1⟩
      · decide
    · have := ins []
      have e1 := e0 []
      rw [List.append_nil] at this e1
      unfold hname
      rw [this, e1, List.take_left, List.drop_left]
      rfl
    · have := ins []
      have e1 := e0 []
      rw [List.append_nil] at this e1
      unfold digs
      rw [this, e1, List.drop_left]
      rfl
    · unfold hname digs
      rw [ins (58 :: d), e0, List.take_left, List.drop_left]
      exact ⟨by rw [bef_at [93] d (by decide)]; simp, aft_at [93] d (by decide)⟩

/-! ## addresses put together -/

theorem http_named : named http = true ∧ Ascii.lower http = http ∧ webI http = 80 := by decide +kernel

theorem https_named : named https = true ∧ Ascii.lower https = https ∧ webI https = 443 := by decide +kernel

def sl : T := [58, 47, 47]

theorem auth_at (a r : T) (ha : (47 : UInt8) ∉ a) : auth (47 :: 47 :: (a ++ 47 :: r)) = a ∧ segT (47 :: 47 :: (a ++ 47 :: r)) = r := by
  unfold auth segT
  exact ⟨bef_at a r ha, aft_at a r ha⟩

theorem auth_end (a : T) (ha : (47 : UInt8) ∉ a) : auth (47 :: 47 :: a) = a ∧ segT (47 :: 47 :: a) = [] := by
  unfold auth segT
  exact ⟨bef_no a ha, aft_no a ha⟩

theorem web_pre (x : T) : webB (47 :: 47 :: x) = (okH (hname (place (auth (47 :: 47 :: x)))) && portB (digs (place (auth (47 :: 47 :: x))))) := by
  unfold webB
  rw [show Lib.hasPrefix (47 :: 47 :: x) [47, 47] = true by simp [Lib.hasPrefix, List.isPrefixOf], Bool.true_and]

theorem place_no (a : T) (h : (64 : UInt8) ∉ a) : place a = a ∧ user a = [] ∧ pass a = [] := by
  unfold place user pass
  rw [laft_no a h, lbef_no a h]
  exact ⟨rfl, rfl, rfl⟩

theorem place_at (a r : T) (h : (64 : UInt8) ∉ r) : place (a ++ 64 :: r) = r ∧ user (a ++ 64 :: r) = bef 58 a ∧ pass (a ++ 64 :: r) = aft 58 a := by
  unfold place user pass
  rw [laft_at a r h, lbef_at a r h]
  exact ⟨rfl, rfl, rfl⟩

/-- An address of the web out of its text, cleaned already: 'n' its scheme, 'x' what stands behind the slashes. -/
theorem par_at (n x : T) (hn : named n = true) (hl : Ascii.lower n = n) (hw : webI n ≠ 0) (r : T) (hr : r = 47 :: 47 :: x) :
    okS (n ++ 58 :: r) = webB (tA r) ∧ (webB (tA r) = true → parS (n ++ 58 :: r) = tailU (webU n (tA r)) r) := by
  obtain ⟨h1, h2, h3⟩ := sch_of n r hn
  rw [hl] at h2
  have ho : okS (n ++ 58 :: r) = webB (tA r) := by
    unfold okS
    rw [h1, h2, h3, decide_eq_false hw]
    have : opB n = false := by
      cases h : opB n
      · rfl
      · exact absurd (web_op n h) hw
    rw [this]
    simp
  refine ⟨ho, fun hb => ?_⟩
  unfold parS aheadU
  rw [ho, if_pos hb, h2, h3, if_neg hw]

theorem text_high (a b : T) (ha : ∀ c ∈ a, 32 < c.toNat) (hb : ∀ c ∈ b, 32 < c.toNat) : ∀ c ∈ a ++ b, 32 < c.toNat := fun c hc => (List.mem_append.1 hc).elim (ha c) (hb c)

/-- P9.2, P8.2: a host's text, a path, a query. -/
theorem parts_law (h : H) (h8 : h.p.length = 8) (hm : mayH h = true) (s q : T) (hs : ∀ c ∈ s, 32 < c.toNat ∧ c.toNat ≠ 63 ∧ c.toNat ≠ 35) (hq : ∀ c ∈ q, 32 < c.toNat ∧ c.toNat ≠ 35) :
    okU (http ++ 58 :: 47 :: 47 :: (showH h ++ 47 :: (s ++ 63 :: q))) = true ∧
    parU (http ++ 58 :: 47 :: 47 :: (showH h ++ 47 :: (s ++ 63 :: q))) = ⟨http, [], [], h, -1, Path.parse (47 :: s), [], Pct.encode 2 q, [], true, false⟩ := by
  obtain ⟨d1, d2, d3, d4⟩ := door_of h hm
  have hc : Ascii.clean (http ++ 58 :: 47 :: 47 :: (showH h ++ 47 :: (s ++ 63 :: q))) = http ++ 58 :: 47 :: 47 :: (showH h ++ 47 :: (s ++ 63 :: q)) := by
    refine clean_same _ (fun c hc => ?_)
    simp only [List.mem_append, List.mem_cons] at hc
    rcases hc with hc | rfl | rfl | rfl | hc | rfl | hc | rfl | hc
    · exact (by decide : ∀ c ∈ http, 32 < c.toNat) c hc
    · decide
    · decide
    · decide
    · exact (d1 c hc).1
    · decide
    · exact (hs c hc).1
    · decide
    · exact (hq c hc).1
  unfold okU parU
  rw [hc]
  have e1 : (47 :: 47 :: (showH h ++ 47 :: (s ++ 63 :: q)) : T) = (47 :: 47 :: (showH h ++ 47 :: s)) ++ 63 :: q := by simp
  have n35 : (35 : UInt8) ∉ (47 :: 47 :: (showH h ++ 47 :: s) : T) := by
    simp only [List.mem_cons, List.mem_append, not_or]
    exact ⟨by decide, by decide, fun hc => (d1 _ hc).2.2.2.1 rfl, by decide, fun hc => (hs _ hc).2.2 rfl⟩
  have n63 : (63 : UInt8) ∉ (47 :: 47 :: (showH h ++ 47 :: s) : T) := by
    simp only [List.mem_cons, List.mem_append, not_or]
    exact ⟨by decide, by decide, fun hc => (d1 _ hc).2.2.1 rfl, by decide, fun hc => (hs _ hc).2.1 rfl⟩
  have n35q : (35 : UInt8) ∉ q := fun hc => (hq _ hc).2 rfl
  obtain ⟨t1, t2, t3, t4, t5⟩ := tail_ofq _ q n35 n63 n35q
  obtain ⟨a1, a2⟩ := auth_at (showH h) s (fun hc => (d1 _ hc).2.1 rfl)
  obtain ⟨p1, p2, p3⟩ := place_no (showH h) (fun hc => (d1 _ hc).2.2.2.2 rfl)
  obtain ⟨k1, k2, k3, k4⟩ := Host.show_back h h8 hm
  have hb : webB (tA (47 :: 47 :: (showH h ++ 47 :: (s ++ 63 :: q)))) = true := by
    rw [e1, t1, web_pre, a1, p1, d2, d3, k1]; rfl
  obtain ⟨o1, o2⟩ := par_at http _ http_named.1 http_named.2.1 (by decide) _ (rfl : (47 :: 47 :: (showH h ++ 47 :: (s ++ 63 :: q)) : T) = _)
  refine ⟨o1.trans hb, (o2 hb).trans ?_⟩
  unfold tailU webU
  rw [e1, t1, t2, t3, t4, t5, a1, a2, p1, p2, p3, d2, d3, k2]
  rfl

/-- P9.2: a port behind a host's text. -/
theorem port_law (h : H) (h8 : h.p.length = 8) (hm : mayH h = true) (n : T) (hn : n = http ∨ n = https) (d : T) (hd : ∀ c ∈ d, Deci.digB c = true) :
    okU (n ++ 58 :: 47 :: 47 :: (showH h ++ 58 :: d)) = decide (Deci.valN d ≤ 65535) ∧
    (Deci.valN d ≤ 65535 → (parU (n ++ 58 :: 47 :: 47 :: (showH h ++ 58 :: d))).h = h ∧ (parU (n ++ 58 :: 47 :: 47 :: (showH h ++ 58 :: d))).port = portI n d) := by
  obtain ⟨d1, d2, d3, d4⟩ := door_of h hm
  have dg : ∀ c ∈ d, 48 ≤ c.toNat ∧ c.toNat ≤ 57 := fun c hc => Host.digs_at c (hd c hc)
  have hN : named n = true ∧ Ascii.lower n = n ∧ webI n ≠ 0 ∧ ∀ c ∈ n, 32 < c.toNat := by
    rcases hn with rfl | rfl <;> decide +kernel
  have hc : Ascii.clean (n ++ 58 :: 47 :: 47 :: (showH h ++ 58 :: d)) = n ++ 58 :: 47 :: 47 :: (showH h ++ 58 :: d) := by
    refine clean_same _ (fun c hc => ?_)
    simp only [List.mem_append, List.mem_cons] at hc
    rcases hc with hc | rfl | rfl | rfl | hc | rfl | hc
    · exact hN.2.2.2 c hc
    · decide
    · decide
    · decide
    · exact (d1 c hc).1
    · decide
    · have := dg c hc; omega
  unfold okU parU
  rw [hc]
  have hx : ∀ x : UInt8, (x = 35 ∨ x = 63 ∨ x = 47 ∨ x = 64) → x ∉ (showH h ++ 58 :: d : T) := by
    intro x hx hm
    simp only [List.mem_append, List.mem_cons] at hm
    rcases hm with hm | rfl | hm
    · have := d1 _ hm
      rcases hx with rfl | rfl | rfl | rfl
      · exact this.2.2.2.1 rfl
      · exact this.2.2.1 rfl
      · exact this.2.1 rfl
      · exact this.2.2.2.2 rfl
    · revert hx; decide
    · have := dg _ hm
      rcases hx with rfl | rfl | rfl | rfl <;> revert this <;> decide
  obtain ⟨t1, t2, t3, t4, t5⟩ := tA_of (47 :: 47 :: (showH h ++ 58 :: d)) (by simpa using hx 35 (.inl rfl)) (by simpa using hx 63 (.inr (.inl rfl)))
  obtain ⟨a1, a2⟩ := auth_end (showH h ++ 58 :: d) (hx 47 (.inr (.inr (.inl rfl))))
  obtain ⟨p1, p2, p3⟩ := place_no (showH h ++ 58 :: d) (hx 64 (.inr (.inr (.inr rfl))))
  obtain ⟨k1, k2, k3, k4⟩ := Host.show_back h h8 hm
  have hP : portB d = decide (Deci.valN d ≤ 65535) := by
    unfold portB Deci.readB Deci.plainB
    cases d with
    | nil => simp [Deci.valN, Deci.valF]
    | cons a r =>
      have : (a :: r : T).all Deci.digB = true := List.all_eq_true.2 hd
      rw [this]
      simp
      constructor <;> intro h <;> omega
  have hb : webB (tA (47 :: 47 :: (showH h ++ 58 :: d))) = decide (Deci.valN d ≤ 65535) := by
    rw [t1, web_pre, a1, p1, (d4 d).1, (d4 d).2, k1, hP]; rfl
  obtain ⟨o1, o2⟩ := par_at n _ hN.1 hN.2.1 hN.2.2.1 _ (rfl : (47 :: 47 :: (showH h ++ 58 :: d) : T) = _)
  refine ⟨o1.trans hb, fun hle => ?_⟩
  rw [o2 (by rw [hb]; simpa using hle)]
  unfold tailU webU
  rw [t1, a1, p1, (d4 d).1, (d4 d).2, k2]
  exact ⟨rfl, rfl⟩

/-- P9.2: the user, the password. -/
def aorg : T := [97, 46, 111, 114, 103]

theorem aorg_dom : domB aorg = true := by decide +kernel

def aH : H := ⟨1, ⟨aorg.toArray⟩, 0, zero8⟩

theorem aorg_ok : okH aorg = true ∧ parH aorg = aH := Host.ok_dom aorg aorg_dom

theorem aorg_may : mayH aH = true := by
  have : aH.s.data.toList = aorg := rfl
  unfold aH
  rw [Host.may1]
  exact aorg_dom

theorem aorg_show : showH aH = aorg := by
  rcases Host.may_ways aH aorg_may with ⟨h0, h3, e⟩ | ⟨n, hn, h0, e⟩ | ⟨h0, h3, e⟩
  · rw [e]; rfl
  · exact absurd (congrArg Host.H.k h0) (show ¬ (1 : Int) = 2 by decide)
  · exact absurd (congrArg Host.H.k h0) (show ¬ (1 : Int) = 3 by decide)

theorem user_at (y : T) (hy : ∀ c ∈ y, 32 < c.toNat ∧ c.toNat ≠ 47 ∧ c.toNat ≠ 63 ∧ c.toNat ≠ 35) :
    okU (https ++ 58 :: 47 :: 47 :: (y ++ 64 :: (aorg ++ [47, 120]))) = true ∧
    parU (https ++ 58 :: 47 :: 47 :: (y ++ 64 :: (aorg ++ [47, 120]))) = ⟨https, Pct.encode 4 (bef 58 y), Pct.encode 4 (aft 58 y), aH, -1, Path.parse [47, 120], [], [], [], false, false⟩ := by
  have hc : Ascii.clean (https ++ 58 :: 47 :: 47 :: (y ++ 64 :: (aorg ++ [47, 120]))) = https ++ 58 :: 47 :: 47 :: (y ++ 64 :: (aorg ++ [47, 120])) := by
    refine clean_same _ (fun c hc => ?_)
    simp only [List.mem_append, List.mem_cons] at hc
    rcases hc with hc | rfl | rfl | rfl | hc | rfl | hc | hc
    · exact (by decide : ∀ c ∈ https, 32 < c.toNat) c hc
    · decide
    · decide
    · decide
    · exact (hy c hc).1
    · decide
    · exact (by decide : ∀ c ∈ aorg, 32 < c.toNat) c hc
    · exact (by decide : ∀ c ∈ ([47, 120] : T), 32 < c.toNat) c (by simpa using hc)
  unfold okU parU
  rw [hc]
  have e1 : (y ++ 64 :: (aorg ++ [47, 120]) : T) = (y ++ 64 :: aorg) ++ 47 :: [120] := by simp
  have nA : ∀ x : UInt8, (x = 35 ∨ x = 63) → x ∉ (47 :: 47 :: (y ++ 64 :: (aorg ++ [47, 120])) : T) := by
    intro x hx
    simp only [List.mem_cons, List.mem_append, not_or]
    rcases hx with rfl | rfl
    · exact ⟨by decide, by decide, fun hc => (hy _ hc).2.2.2 rfl, by decide, by decide, by decide, by decide, by simp⟩
    · exact ⟨by decide, by decide, fun hc => (hy _ hc).2.2.1 rfl, by decide, by decide, by decide, by decide, by simp⟩
  obtain ⟨t1, t2, t3, t4, t5⟩ := tA_of _ (nA 35 (.inl rfl)) (nA 63 (.inr rfl))
  have n47 : (47 : UInt8) ∉ (y ++ 64 :: aorg : T) := by
    simp only [List.mem_cons, List.mem_append, not_or]
    exact ⟨fun hc => (hy _ hc).2.1 rfl, by decide, by decide⟩
  obtain ⟨a1, a2⟩ := auth_at (y ++ 64 :: aorg) [120] n47
  rw [← e1] at a1 a2
  obtain ⟨p1, p2, p3⟩ := place_at y aorg (by decide)
  have nm : hname aorg = aorg ∧ digs aorg = [] := by decide +kernel
  have hb : webB (tA (47 :: 47 :: (y ++ 64 :: (aorg ++ [47, 120])))) = true := by
    rw [t1, web_pre, a1, p1, nm.1, nm.2, aorg_ok.1]; rfl
  obtain ⟨o1, o2⟩ := par_at https _ https_named.1 https_named.2.1 (by decide) _ (rfl : (47 :: 47 :: (y ++ 64 :: (aorg ++ [47, 120])) : T) = _)
  refine ⟨o1.trans hb, (o2 hb).trans ?_⟩
  unfold tailU webU
  rw [t1, t2, t3, t4, t5, a1, a2, p1, p2, p3, nm.1, nm.2, aorg_ok.2]
  rfl

/-- P9.1, P9.2: a query and a fragment behind an address. -/
def bare (u : U) : U := { u with qry := [], frg := [], hq := false, hf := false }

theorem end_at (A B : T) (c : UInt8) (hc : Ascii.lowish c = false) : ∃ B', Ascii.dropEnd (A ++ c :: B) = A ++ c :: B' := by
  unfold Ascii.dropEnd
  rw [rev_at, List.dropWhile_append]
  split
  · rw [List.dropWhile_cons_of_neg (by simp [hc])]
    exact ⟨[], by simp⟩
  · exact ⟨(B.reverse.dropWhile Ascii.lowish).reverse, by simp⟩

theorem behind_clean (q f : T) (hq : (35 : UInt8) ∉ q) : ∃ q' f', Ascii.clean (63 :: 120 :: (q ++ 35 :: 120 :: f)) = 63 :: (q' ++ 35 :: f') ∧ (35 : UInt8) ∉ q' := by
  rw [clean_stays]
  have e1 : Ascii.stays (63 :: 120 :: (q ++ 35 :: 120 :: f)) = 63 :: 120 :: (Ascii.stays q ++ 35 :: 120 :: Ascii.stays f) := by
    rw [show (63 :: 120 :: (q ++ 35 :: 120 :: f) : T) = [63, 120] ++ (q ++ ([35, 120] ++ f)) by simp, stays_app, stays_app, stays_app]; rfl
  rw [e1]
  unfold Ascii.trim
  rw [List.dropWhile_cons_of_neg (by decide)]
  obtain ⟨B', hB⟩ := end_at (63 :: 120 :: Ascii.stays q) (120 :: Ascii.stays f) 35 (by decide)
  refine ⟨120 :: Ascii.stays q, B', ?_, ?_⟩
  · simpa using hB
  · simp only [List.mem_cons, not_or]
    exact ⟨by decide, fun hm => hq ((List.mem_filter.1 (show (35 : UInt8) ∈ q.filter _ from hm)).1)⟩

theorem clean_sub (l : T) : ∀ c ∈ Ascii.clean l, c ∈ l := by
  intro c hc
  have h1 : c ∈ Ascii.trim l := (List.mem_filter.1 (show c ∈ (Ascii.trim l).filter _ from hc)).1
  have h2 : c ∈ l.dropWhile Ascii.lowish := (Ascii.dropEnd_prefix _).subset h1
  exact (List.dropWhile_suffix _).subset h2

theorem tail_law (t q f : T) (h1 : (35 : UInt8) ∉ t) (h2 : (63 : UInt8) ∉ t) (ht : t = [] ∨ ∃ r c, t = r ++ [c] ∧ Ascii.lowish c = false) (hq : (35 : UInt8) ∉ q) :
    okU (t ++ 63 :: 120 :: (q ++ 35 :: 120 :: f)) = okU t ∧ (okU t = true → bare (parU (t ++ 63 :: 120 :: (q ++ 35 :: 120 :: f))) = parU t) := by
  obtain ⟨q', f', hx, hq'⟩ := behind_clean q f hq
  have hcl := clean_ahead t (63 :: 120 :: (q ++ 35 :: 120 :: f)) ht ⟨63, _, rfl, by decide⟩
  rw [hx] at hcl
  unfold okU parU
  rw [hcl]
  have c1 : (35 : UInt8) ∉ Ascii.clean t := fun h => h1 (clean_sub t _ h)
  have c2 : (63 : UInt8) ∉ Ascii.clean t := fun h => h2 (clean_sub t _ h)
  generalize Ascii.clean t = s at c1 c2
  by_cases h58 : (58 : UInt8) ∈ s
  · have eb : bef 58 (s ++ 63 :: (q' ++ 35 :: f')) = bef 58 s := bef_in _ _ h58
    have ea : aft 58 (s ++ 63 :: (q' ++ 35 :: f')) = aft 58 s ++ 63 :: (q' ++ 35 :: f') := aft_in _ _ h58
    have eB : schB (s ++ 63 :: (q' ++ 35 :: f')) = schB s := by
      unfold schB; rw [eb, has_yes h58, has_yes (by simp [h58])]
    cases hB : schB s
    · have hno : okS s = false := by unfold okS; rw [hB]; rfl
      have hno' : okS (s ++ 63 :: (q' ++ 35 :: f')) = false := by unfold okS; rw [eB, hB]; rfl
      rw [hno, hno']
      exact ⟨rfl, fun h => absurd h (by simp)⟩
    · have eS : schS (s ++ 63 :: (q' ++ 35 :: f')) = schS s := by unfold schS; rw [eB, eb]
      have eR : schR (s ++ 63 :: (q' ++ 35 :: f')) = schR s ++ 63 :: (q' ++ 35 :: f') := by unfold schR; rw [eB, hB, if_pos rfl, if_pos rfl, ea]
      have r1 : (35 : UInt8) ∉ schR s := by unfold schR; rw [hB, if_pos rfl]; exact fun h => c1 (aft_sub _ _ _ h)
      have r2 : (63 : UInt8) ∉ schR s := by unfold schR; rw [hB, if_pos rfl]; exact fun h => c2 (aft_sub _ _ _ h)
      obtain ⟨t1, t2, t3, t4, t5⟩ := tA_of _ r1 r2
      obtain ⟨v1, v2, v3, v4, v5⟩ := tail_of _ q' f' r1 r2 hq'
      have eO : okS (s ++ 63 :: (q' ++ 35 :: f')) = okS s := by unfold okS; rw [eB, eS, eR, v1, t1]
      refine ⟨eO, fun ho => ?_⟩
      unfold parS
      rw [eO, if_pos ho, if_pos ho, eS, eR, v1]
      unfold bare tailU
      rw [t1, t2, t3, t4, t5]
      rfl
  · have hB : schB s = false := by unfold schB; rw [has_no h58]; rfl
    have hB' : schB (s ++ 63 :: (q' ++ 35 :: f')) = false := by
      unfold schB
      rw [bef_app _ _ h58, bef_miss _ (by decide)]
      cases hn : named (s ++ 63 :: bef 58 (q' ++ 35 :: f'))
      · rw [Bool.and_false]
      · exact absurd (by simp : (63 : UInt8) ∈ s ++ 63 :: bef 58 (q' ++ 35 :: f')) (named_no hn).2.2
    have hno : okS s = false := by unfold okS; rw [hB]; rfl
    have hno' : okS (s ++ 63 :: (q' ++ 35 :: f')) = false := by unfold okS; rw [hB']; rfl
    rw [hno, hno']
    exact ⟨rfl, fun h => absurd h (by simp)⟩



open Go.RowKit Go.Shelf


def tb (l : T) : ByteArray := ⟨l.toArray⟩

theorem tb_list (l : T) : (tb l).data.toList = l := rfl

theorem tb_size (l : T) : (tb l).size = l.length := rfl

theorem tb_of (s : ByteArray) : tb s.data.toList = s := by cases s; simp [tb]

theorem size_list (s : ByteArray) : s.data.toList.length = s.size := rfl

theorem below_drew {B : Nat} {a w : World} (h : Below B a w) (n : Nat) : Below B a (w.drewN n) := ⟨h.os, h.tape, h.output, h.size, h.block⟩

theorem cut_any (c : UInt8) (s : ByteArray) (hs : s.size ≤ 1000000) (x y : ByteArray) (b : Bool) (hx : tb (bef c s.data.toList) = x) (hy : tb (aft c s.data.toList) = y) (hb : s.data.toList.contains c = b) (m : Int) (w : World) (hm : Six.At m w) :
    Calls Tryz.prog 93 #[.string s, .string ⟨#[c]⟩] w fun e w' => e = .returned (.tuple #[.string x, .string y, .bool b]) ∧ Below w.heap.size w w' := by
  subst hx; subst hy; subst hb
  refine (Tryz.strings_Cut s ⟨#[c]⟩ m w (by omega) hm.max).mono fun e w' h => ?_
  obtain ⟨h1, n, rfl⟩ := h
  rw [show (⟨#[c]⟩ : ByteArray).data.toList = [c] from rfl, cut_is] at h1
  exact ⟨h1, below_drew (Below.refl _ _) n⟩

/-! ### schemes -/

theorem web_any (s : ByteArray) (z : Int) (hz : webI s.data.toList = z) (w : World) : Calls Tryz.prog 39 #[.string s] w fun e w' => e = .returned (.int .i64 z) ∧ w = w' := by
  subst hz
  unfold webI
  by_cases h1 : s.data.toList = http
  · have q1 : (s.toList == [104, 116, 116, 112]) = true := by rw [Path.tl, h1]; rfl
    rw [if_pos h1]
    clear h1
    go_enter Tryz.func39, Tryz.ntmps39
    go_wp2
    go_ret
    exact ⟨rfl, rfl⟩
  · have q1 : (s.toList == [104, 116, 116, 112]) = false := by rw [Path.tl]; exact beq_eq_false_iff_ne.2 h1
    rw [if_neg h1]
    clear h1
    by_cases h2 : s.data.toList = https
    · have q2 : (s.toList == [104, 116, 116, 112, 115]) = true := by rw [Path.tl, h2]; rfl
      rw [if_pos h2]
      clear h2
      go_enter Tryz.func39, Tryz.ntmps39
      go_wp2
      go_ret
      exact ⟨rfl, rfl⟩
    · have q2 : (s.toList == [104, 116, 116, 112, 115]) = false := by rw [Path.tl]; exact beq_eq_false_iff_ne.2 h2
      rw [if_neg h2]
      clear h2
      go_enter Tryz.func39, Tryz.ntmps39
      go_wp2
      go_ret
      exact ⟨rfl, rfl⟩

theorem isWeb_any (s : ByteArray) (b : Bool) (hb : (!decide (webI s.data.toList = 0)) = b) (w : World) : Calls Tryz.prog 54 #[.string s] w fun e w' => e = .returned (.bool b) ∧ w = w' := by
  subst hb
  obtain ⟨z, hz⟩ : ∃ z, webI s.data.toList = z := ⟨_, rfl⟩
  rw [hz]
  go_enter Tryz.func54, Tryz.ntmps54
  go_wp2_with fail
  refine (web_any s z hz _).mono ?_
  rintro e w' ⟨rfl, rfl⟩
  go_wp2
  go_ret
  exact ⟨by by_cases h : z = 0 <;> simp [h], rfl⟩

theorem opq_any (s : ByteArray) (b : Bool) (hb : opB s.data.toList = b) (w : World) : Calls Tryz.prog 56 #[.string s] w fun e w' => e = .returned (.bool b) ∧ w = w' := by
  subst hb
  unfold opB about data blob
  rw [← Path.tl]
  cases q1 : (s.toList == [97, 98, 111, 117, 116])
  · cases q2 : (s.toList == [100, 97, 116, 97])
    · cases q3 : (s.toList == [98, 108, 111, 98])
      · go_enter Tryz.func56, Tryz.ntmps56
        go_wp2
        go_ret
        exact ⟨rfl, rfl⟩
      · go_enter Tryz.func56, Tryz.ntmps56
        go_wp2
        go_ret
        exact ⟨rfl, rfl⟩
    · go_enter Tryz.func56, Tryz.ntmps56
      go_wp2
      go_ret
      exact ⟨rfl, rfl⟩
  · go_enter Tryz.func56, Tryz.ntmps56
    go_wp2
    go_ret
    exact ⟨rfl, rfl⟩

/-- What need ends a call with. -/
def gone : Ending := .panicked [{ v := .iface 57 (.agg #[]), recovered := false }]

theorem need_yes (w : World) : Calls Tryz.prog 64 #[.bool true] w fun e w' => e = .returned (.tuple #[]) ∧ w = w' := by
  go_enter Tryz.func64, Tryz.ntmps64
  go_wp2
  go_end0
  exact ⟨rfl, rfl⟩

theorem need_no (w : World) : Calls Tryz.prog 64 #[.bool false] w fun e w' => e = gone ∧ w = w' := by
  go_enter Tryz.func64, Tryz.ntmps64
  go_wp2
  exact ⟨rfl, rfl, rfl⟩

theorem byte6 (c : UInt8) : (nameB c = true ∧ ((Ascii.alphaB (c.toNat : Int) = true) ∨ (Ascii.alphaB (c.toNat : Int) = false ∧ Ascii.digitB (c.toNat : Int) = true) ∨ (Ascii.alphaB (c.toNat : Int) = false ∧ Ascii.digitB (c.toNat : Int) = false ∧ ((c.toNat : Int) != 43) = false) ∨
    (Ascii.alphaB (c.toNat : Int) = false ∧ Ascii.digitB (c.toNat : Int) = false ∧ ((c.toNat : Int) != 43) = true ∧ ((c.toNat : Int) != 45) = false) ∨
    (Ascii.alphaB (c.toNat : Int) = false ∧ Ascii.digitB (c.toNat : Int) = false ∧ ((c.toNat : Int) != 43) = true ∧ ((c.toNat : Int) != 45) = true ∧ ((c.toNat : Int) != 46) = false))) ∨
    (nameB c = false ∧ Ascii.alphaB (c.toNat : Int) = false ∧ Ascii.digitB (c.toNat : Int) = false ∧ ((c.toNat : Int) != 43) = true ∧ ((c.toNat : Int) != 45) = true ∧ ((c.toNat : Int) != 46) = true) := by
  unfold nameB
  have hd : ∀ z k : Int, decide (z = k) = !(z != k) := by intro z k; by_cases h : z = k <;> simp [h]
  rw [hd _ 43, hd _ 45, hd _ 46]
  cases Ascii.alphaB (c.toNat : Int) <;> cases Ascii.digitB (c.toNat : Int) <;> cases ((c.toNat : Int) != 43) <;> cases ((c.toNat : Int) != 45) <;> cases ((c.toNat : Int) != 46) <;> simp

set_option maxRecDepth 100000 in
set_option maxHeartbeats 2000000 in
theorem named_any (s : ByteArray) (hs : s.size ≤ 1000000) (b : Bool) (hb : named s.data.toList = b) (w : World) : Calls Tryz.prog 94 #[.string s] w fun e w' => e = .returned (.bool b) ∧ w = w' := by
  have HB := Lib.hid hb
  have HSZ := Lib.hid (show s.data.toList.length = s.size from rfl)
  clear hb
  go_enter Tryz.func94, Tryz.ntmps94
  go_wp2
  go_loop [7] (fun i => ∃ k : Nat, k ≤ s.size ∧ i = .int .i64 k ∧ Hid ((s.data.toList.take k).all nameB = true)) (fun i => s.size - (intOf i).toNat)
  case atStart => exact ⟨0, Nat.zero_le _, rfl, Lib.hid rfl⟩
  case round =>
    obtain ⟨k, hk, rfl, HA⟩ := hrel
    by_cases hlt : k < s.size
    · have t1 : (k : Int) < s.size := by omega
      have hts : s.data.toList.take (k + 1) = s.data.toList.take k ++ [s[k]] := Ascii.take_snoc s k hlt
      have hmem : s[k] ∈ s.data.toList := by
        have : s.data.toList[k]'hlt = s[k] := rfl
        rw [← this]; exact List.getElem_mem _
      rcases byte6 s[k] with ⟨hn, hh⟩ | ⟨hn, h1, h2, h3, h4, h5⟩
      · have HN := Lib.hid (show (s.data.toList.take (k + 1)).all nameB = true by rw [hts, List.all_append, HA.out]; simp [hn])
        clear hts hmem hn HA
        rcases hh with h1 | ⟨h1, h2⟩ | ⟨h1, h2, h3⟩ | ⟨h1, h2, h3, h4⟩ | ⟨h1, h2, h3, h4, h5⟩
        all_goals
          go_wp2_with (first | (go_at_call 120; refine (Ascii.alpha_any _ _).mono ?_; rintro e w' ⟨rfl, rfl⟩) | (go_at_call 121; refine (Ascii.digit_any _ _).mono ?_; rintro e w' ⟨rfl, rfl⟩))
          go_round
          case rel => exact ⟨k + 1, by omega, by go_num, HN⟩
          case measure => simp [intOf]; omega
      · have HF := Lib.hid (show b = false by
          rw [← HB.out]
          unfold named
          have : s.data.toList.all nameB = false := by
            cases e : s.data.toList.all nameB
            · rfl
            · rw [List.all_eq_true.1 e _ hmem] at hn; cases hn
          rw [this]; rfl)
        clear hts hmem hn HA
        go_wp2_with (first | (go_at_call 120; refine (Ascii.alpha_any _ _).mono ?_; rintro e w' ⟨rfl, rfl⟩) | (go_at_call 121; refine (Ascii.digit_any _ _).mono ?_; rintro e w' ⟨rfl, rfl⟩))
        go_ret
        exact ⟨congrArg (fun x => Ending.returned (Value.bool x)) HF.out.symm, rfl⟩
    · obtain rfl : k = s.size := by omega
      have hall : s.data.toList.all nameB = true := by
        have h := HA.out
        rwa [← HSZ.out, List.take_length] at h
      clear HA
      by_cases h0 : s.size = 0
      · have q0 : s.toList = [] := by rw [Path.tl]; exact List.length_eq_zero_iff.1 (by rw [HSZ.out]; exact h0)
        have HF := Lib.hid (show b = false by
          rw [← HB.out]
          unfold named
          rw [← Path.tl, q0]; rfl)
        have q1 : s.toList.isEmpty = true := by rw [q0]; rfl
        clear hall HB q0
        go_wp2
        go_ret
        exact ⟨congrArg (fun x => Ending.returned (Value.bool x)) HF.out.symm, rfl⟩
      · have hpos : 0 < s.size := by omega
        have HF := Lib.hid (show Ascii.alphaB (s[0].toNat : Int) = b by
          rw [← HB.out]
          unfold named
          rw [hall]
          have e : s.data.toList = s[0] :: s.data.toList.drop 1 := by
            rw [List.drop_one]
            have hne : s.data.toList ≠ [] := fun e => h0 (by rw [← HSZ.out, e]; rfl)
            have := List.cons_head_tail hne
            rw [← this]
            congr 1
            rw [List.head_eq_getElem]; rfl
          conv => rhs; rw [e]
          rfl)
        have q1 : s.toList.isEmpty = false := by
          rw [Path.tl]
          cases h : s.data.toList with
          | nil => rw [← HSZ.out, h] at hpos; exact absurd hpos (by simp)
          | cons a r => rfl
        clear hall HB
        go_wp2_with (go_at_call 120; refine (Ascii.alpha_any _ _).mono ?_; rintro e w' ⟨rfl, rfl⟩)
        go_ret
        exact ⟨congrArg (fun x => Ending.returned (Value.bool x)) HF.out, rfl⟩



set_option maxRecDepth 100000

theorem results_tmp5 {fn : Func} {t1 t2 t3 t4 t5 : Tmp} (h : fn.results = #[.tmp t1, .tmp t2, .tmp t3, .tmp t4, .tmp t5]) (tmps : Array Value) (P : Program) (w : World) :
    (results fn tmps).run P w = .ok (.tuple #[tmps.getD t1 undef, tmps.getD t2 undef, tmps.getD t3 undef, tmps.getD t4 undef, tmps.getD t5 undef]) w := by
  simp [results, h]

theorem size_tb {l : T} {x : ByteArray} (h : tb l = x) : x.size = l.length := by rw [← h]; rfl

theorem list_tb {l : T} {x : ByteArray} (h : tb l = x) : x.data.toList = l := by rw [← h]; rfl

theorem lower_at (s : ByteArray) (hs : s.size ≤ 1000000) (x : ByteArray) (hx : tb (Ascii.lower s.data.toList) = x) (w : World) : Calls Tryz.prog 95 #[.string s] w fun e w' => e = .returned (.string x) ∧ Below w.heap.size w w' := by
  subst hx
  exact Ascii.lower_calls s (by unfold maxLen; omega) (by omega) w

theorem scheme_any (s : ByteArray) (hs : s.size ≤ 1000000) (x y : ByteArray) (b : Bool) (hx : tb (schS s.data.toList) = x) (hy : tb (schR s.data.toList) = y) (hb : schB s.data.toList = b) (m : Int) (w : World) (hm : Six.At m w) :
    Calls Tryz.prog 63 #[.string s] w fun e w' => e = .returned (.tuple #[.string x, .string y, .bool b]) ∧ Below w.heap.size w w' := by
  subst hx; subst hy; subst hb
  obtain ⟨p, hp⟩ : ∃ p, tb (bef 58 s.data.toList) = p := ⟨_, rfl⟩
  obtain ⟨q, hq⟩ : ∃ q, tb (aft 58 s.data.toList) = q := ⟨_, rfl⟩
  have hp1 : p.size ≤ 1000000 := by have := bef_len 58 s.data.toList; rw [size_list] at this; rw [size_tb hp]; omega
  have hq1 : q.size ≤ 1000000 := by have := aft_len 58 s.data.toList; rw [size_list] at this; rw [size_tb hq]; omega
  unfold schS schR schB
  rw [← list_tb hp, ← list_tb hq]
  have hcut : ∀ c, s.data.toList.contains 58 = c → ∀ u, Six.At m u → Calls Tryz.prog 93 #[.string s, .string ⟨#[58]⟩] u fun e w' => e = .returned (.tuple #[.string p, .string q, .bool c]) ∧ Below u.heap.size u w' := fun c hc u hu => cut_any 58 s hs p q c hp hq hc m u hu
  generalize s.data.toList.contains 58 = c at hcut ⊢
  have HC := Lib.hid (hcut c rfl)
  clear hcut hp hq hs
  cases c
  · go_enter Tryz.func63, Tryz.ntmps63
    go_wp2_with fail
    refine (HC.out _ hm).mono ?_
    rintro e u1 ⟨rfl, hB1⟩
    go_wp2
    exact bodyPost_ret (results_tmp3 rfl _ _ _) rfl ⟨rfl, hB1⟩
  · obtain ⟨n, hn⟩ : ∃ n, named p.data.toList = n := ⟨_, rfl⟩
    have HN := Lib.hid (named_any p hp1 n hn)
    rw [hn]
    have HL := Lib.hid (lower_at p hp1 _ rfl)
    obtain ⟨L, hL⟩ : ∃ L, tb (Ascii.lower p.data.toList) = L := ⟨_, rfl⟩
    rw [hL] at HL
    have HK := Lib.hid (Host.clone_any q hq1)
    have HT := Lib.hid (show tb q.data.toList = q from tb_of q)
    have HLL := Lib.hid hL
    clear hn hp1 hq1 hL
    cases n
    · go_enter Tryz.func63, Tryz.ntmps63
      go_wp2_with fail
      refine (HC.out _ hm).mono ?_
      rintro e u1 ⟨rfl, hB1⟩
      go_wp2_with fail
      refine (HN.out _).mono ?_
      rintro e u2 ⟨rfl, rfl⟩
      go_wp2
      exact bodyPost_ret (results_tmp3 rfl _ _ _) rfl ⟨rfl, hB1⟩
    · go_enter Tryz.func63, Tryz.ntmps63
      go_wp2_with fail
      refine (HC.out _ hm).mono ?_
      rintro e u1 ⟨rfl, hB1⟩
      go_wp2_with fail
      refine (HN.out _).mono ?_
      rintro e u2 ⟨rfl, rfl⟩
      go_wp2_with fail
      refine (HL.out _).mono ?_
      rintro e u2 ⟨rfl, hB2⟩
      go_wp2_with fail
      refine (HK.out _).mono ?_
      rintro e u3 ⟨rfl, hB3⟩
      go_wp2
      exact bodyPost_ret (results_tmp3 rfl _ _ _) rfl ⟨by rw [HLL.out, HT.out]; rfl, Ascii.below3 hB1 hB2 hB3⟩

theorem tail_any (s : ByteArray) (hs : s.size ≤ 1000000) (x y z : ByteArray) (b c : Bool) (hx : tb (tA s.data.toList) = x) (hy : tb (tQ s.data.toList) = y) (hz : tb (tF s.data.toList) = z) (hb : tHQ s.data.toList = b) (hc : tHF s.data.toList = c)
    (m : Int) (w : World) (hm : Six.At m w) :
    Calls Tryz.prog 65 #[.string s] w fun e w' => e = .returned (.tuple #[.string x, .string y, .string z, .bool b, .bool c]) ∧ Below w.heap.size w w' := by
  obtain ⟨p, hp⟩ : ∃ p, tb (bef 35 s.data.toList) = p := ⟨_, rfl⟩
  have hp1 : p.size ≤ 1000000 := by have := bef_len 35 s.data.toList; rw [size_list] at this; rw [size_tb hp]; omega
  unfold tA tQ tF tHQ tHF at *
  rw [← list_tb hp] at hx hy hb
  have hx1 : x.size ≤ 1000000 := by have := bef_len 63 p.data.toList; rw [size_list] at this; rw [size_tb hx]; omega
  have hy1 : y.size ≤ 1000000 := by have := aft_len 63 p.data.toList; rw [size_list] at this; rw [size_tb hy]; omega
  have hz1 : z.size ≤ 1000000 := by have := aft_len 35 s.data.toList; rw [size_list] at this; rw [size_tb hz]; omega
  have C1 := Lib.hid (fun u hu => cut_any 35 s hs p z c hp hz hc m u hu)
  have C2 := Lib.hid (fun u hu => cut_any 63 p hp1 x y b hx hy hb m u hu)
  have K1 := Lib.hid (Host.clone_any x hx1)
  have K2 := Lib.hid (Host.clone_any y hy1)
  have K3 := Lib.hid (Host.clone_any z hz1)
  clear hp hx hy hz hb hc hp1 hx1 hy1 hz1 hs
  go_enter Tryz.func65, Tryz.ntmps65
  go_wp2_with fail
  refine (C1.out _ hm).mono ?_
  rintro e u1 ⟨rfl, hB1⟩
  go_wp2_with fail
  refine (C2.out _ (hm.later hB1)).mono ?_
  rintro e u2 ⟨rfl, hB2⟩
  go_wp2_with fail
  refine (K1.out _).mono ?_
  rintro e u3 ⟨rfl, hB3⟩
  go_wp2_with fail
  refine (K2.out _).mono ?_
  rintro e u4 ⟨rfl, hB4⟩
  go_wp2_with fail
  refine (K3.out _).mono ?_
  rintro e u5 ⟨rfl, hB5⟩
  go_wp2
  exact bodyPost_ret (results_tmp5 rfl _ _ _) rfl ⟨rfl, Ascii.below2 (Ascii.below4 hB1 hB2 hB3 hB4) hB5⟩

/-! ### an authority -/

theorem piece_to (s : ByteArray) (k : Nat) (hk : k ≤ s.size) : s.extract 0 k = tb (s.data.toList.take k) := by
  apply ByteArray.ext
  apply Array.toList_inj.1
  show _ = s.data.toList.take k
  rw [Ascii.extract_list]; simp

theorem piece_from (s : ByteArray) (k : Nat) (hk : k ≤ s.size) : s.extract k s.size = tb (s.data.toList.drop k) := by
  apply ByteArray.ext
  apply Array.toList_inj.1
  show _ = s.data.toList.drop k
  rw [Ascii.extract_list, ← size_list, List.take_length]

theorem users_any (s : ByteArray) (hs : s.size ≤ 1000000) (x y z : ByteArray) (hx : tb (user s.data.toList) = x) (hy : tb (pass s.data.toList) = y) (hz : tb (place s.data.toList) = z) (m : Int) (w : World) (hm : Six.At m w) :
    Calls Tryz.prog 124 #[.string s] w fun e w' => e = .returned (.tuple #[.string x, .string y, .string z]) ∧ Below w.heap.size w w' := by
  have HL := Lib.hid (fun u => Tryz.strings_LastIndex s ⟨#[64]⟩ (by omega) u)
  rw [show (⟨#[64]⟩ : ByteArray).data.toList = [64] from rfl] at HL
  have hsl : s.data.toList.length = s.size := rfl
  rcases lparted 64 s.data.toList with h | ⟨a, r, h, h1⟩
  · rw [last_no _ h] at HL
    unfold user pass place at *
    rw [lbef_no _ h] at hx hy
    rw [laft_no _ h, tb_of] at hz
    have HX := Lib.hid (show (⟨#[]⟩ : ByteArray) = x from hx)
    have HY := Lib.hid (show (⟨#[]⟩ : ByteArray) = y from hy)
    have HZ := Lib.hid hz
    clear hx hy hz h hsl
    go_enter Tryz.func124, Tryz.ntmps124
    go_wp2_with fail
    refine (HL.out _).mono ?_
    rintro e u1 ⟨rfl, rfl⟩
    go_wp2
    go_ret3
    exact ⟨by rw [← HX.out, ← HY.out, ← HZ.out]; rfl, Below.refl _ _⟩
  · rw [h, last_is a r h1] at HL
    have e1 : lbef 64 s.data.toList = a := by rw [h]; exact lbef_at a r h1
    have e2 : laft 64 s.data.toList = r := by rw [h]; exact laft_at a r h1
    have hla : a.length + 1 + r.length = s.size := by rw [← hsl, h]; simp; omega
    obtain ⟨A, hA⟩ : ∃ A, tb a = A := ⟨_, rfl⟩
    have hA1 : A.size = a.length := size_tb hA
    have p1 : s.extract 0 a.length = A := by rw [piece_to s _ (by omega), h, ← hA]; simp
    have p2 : s.extract (a.length + 1) s.size = z := by
      rw [piece_from s _ (by omega), ← hz]
      unfold place
      rw [e2, h]
      have : (a ++ 64 :: r).drop (a.length + 1) = r := by simp [List.drop_append]
      rw [this]
    unfold user pass at *
    rw [e1, ← list_tb hA] at hx hy
    have C1 := Lib.hid (fun u hu c hc => cut_any 58 A (by omega) x y c hx hy hc m u hu)
    have P1 := Lib.hid p1
    have P2 := Lib.hid p2
    generalize a.length = n at hla P1 P2 HL
    clear hx hy hz h hsl e1 e2 p1 p2 hA hA1 h1
    go_enter Tryz.func124, Tryz.ntmps124
    go_wp2_with fail
    refine (HL.out _).mono ?_
    rintro e u1 ⟨rfl, rfl⟩
    have hP1 := P1.out
    clear P1
    go_wp2_with fail
    refine (C1.out _ hm _ rfl).mono ?_
    rintro e u2 ⟨rfl, hB2⟩
    have hP2 := P2.out
    clear P2
    go_wp2
    go_region
    go_wp2
    go_ret3
    exact ⟨rfl, hB2.drew⟩

theorem hname_take (p : T) : hname p = p.take (inside p + (bef 58 (p.drop (inside p))).length) := by
  unfold hname
  rw [List.take_add, bef_take]

theorem inside_le (p : T) : inside p ≤ p.length := by
  unfold inside
  split
  · exact bef_len _ _
  · omega

/-- cutPort, the place told from which the colon is looked for. -/
theorem cutPort_in (s : ByteArray) (hs : s.size ≤ 1000000) (x y : ByteArray) (k : Nat) (hk : k ≤ s.size) (hx : tb (s.data.toList.take (k + (bef 58 (s.data.toList.drop k)).length)) = x) (hy : tb (aft 58 (s.data.toList.drop k)) = y)
    (c93 : Bool) (i93 : Int) (hp : Lib.hasPrefix s.data.toList [91] = c93) (hi : Lib.index s.data.toList [93] = i93) (hki : (c93 = false ∧ k = 0) ∨ (c93 = true ∧ i93 = -1 ∧ k = 0) ∨ (c93 = true ∧ i93 = k)) (m : Int) (w : World) (hm : Six.At m w) :
    Calls Tryz.prog 125 #[.string s] w fun e w' => e = .returned (.tuple #[.string x, .string y]) ∧ Below w.heap.size w w' := by
  have HP := Lib.hid (fun u => Tryz.strings_HasPrefix s ⟨#[91]⟩ u)
  have HI := Lib.hid (fun u (hu : Six.At m u) => Tryz.strings_Index s ⟨#[93]⟩ m u (by omega) hu.max)
  rw [show (⟨#[91]⟩ : ByteArray).data.toList = [91] from rfl, hp] at HP
  rw [show (⟨#[93]⟩ : ByteArray).data.toList = [93] from rfl, hi] at HI
  obtain ⟨A, hA⟩ : ∃ A, tb (s.data.toList.drop k) = A := ⟨_, rfl⟩
  have hA1 : A.size + k = s.size := by rw [size_tb hA, List.length_drop, size_list]; omega
  have p1 : s.extract k s.size = A := by rw [piece_from s k hk, hA]
  rw [← list_tb hA] at hx hy
  obtain ⟨b, hb⟩ : ∃ b, tb (bef 58 A.data.toList) = b := ⟨_, rfl⟩
  have hb1 : b.size ≤ A.size := by rw [size_tb hb]; exact bef_len _ _
  have p2 : s.extract 0 (k + b.size) = x := by rw [piece_to s _ (by omega), ← hx, size_tb hb]
  have C1 := Lib.hid (fun u hu c hc => cut_any 58 A (by omega) b y c hb hy hc m u hu)
  have P1 := Lib.hid p1
  have P2 := Lib.hid p2
  clear hx hy hp hi p1 p2 hA hb
  have fin : ∀ u, Below w.heap.size w u → True := fun _ _ => trivial
  clear fin
  rcases hki with ⟨rfl, rfl⟩ | ⟨rfl, rfl, rfl⟩ | ⟨rfl, rfl⟩
  · go_enter Tryz.func125, Tryz.ntmps125
    go_wp2_with fail
    refine (HP.out _).mono ?_
    rintro e u1 ⟨rfl, rfl⟩
    have hP1 := P1.out
    clear P1
    go_wp2_with fail
    refine (C1.out _ hm _ rfl).mono ?_
    rintro e u2 ⟨rfl, hB2⟩
    have hP2 := P2.out
    rw [Nat.zero_add] at hP2
    clear P2
    go_wp2
    go_ret2
    exact ⟨rfl, hB2⟩
  · go_enter Tryz.func125, Tryz.ntmps125
    go_wp2_with fail
    refine (HP.out _).mono ?_
    rintro e u1 ⟨rfl, rfl⟩
    go_wp2_with fail
    refine (HI.out _ hm).mono ?_
    rintro e u1 ⟨rfl, rfl⟩
    have hmx : max (-1 : Int) 0 = 0 := by decide
    have hP1 := P1.out
    clear P1
    go_wp2_with fail
    refine (C1.out _ hm _ rfl).mono ?_
    rintro e u2 ⟨rfl, hB2⟩
    have hP2 := P2.out
    rw [Nat.zero_add] at hP2
    clear P2
    go_wp2
    go_ret2
    exact ⟨rfl, hB2⟩
  · go_enter Tryz.func125, Tryz.ntmps125
    go_wp2_with fail
    refine (HP.out _).mono ?_
    rintro e u1 ⟨rfl, rfl⟩
    go_wp2_with fail
    refine (HI.out _ hm).mono ?_
    rintro e u1 ⟨rfl, rfl⟩
    have hP1 := P1.out
    clear P1
    go_wp2_with fail
    refine (C1.out _ hm _ rfl).mono ?_
    rintro e u2 ⟨rfl, hB2⟩
    have hP2 := P2.out
    clear P2
    go_wp2
    go_ret2
    exact ⟨by rw [← hP2]; rfl, hB2⟩

theorem cutPort_any (s : ByteArray) (hs : s.size ≤ 1000000) (x y : ByteArray) (hx : tb (hname s.data.toList) = x) (hy : tb (digs s.data.toList) = y) (m : Int) (w : World) (hm : Six.At m w) :
    Calls Tryz.prog 125 #[.string s] w fun e w' => e = .returned (.tuple #[.string x, .string y]) ∧ Below w.heap.size w w' := by
  rw [hname_take] at hx
  unfold digs at hy
  refine cutPort_in s hs x y (inside s.data.toList) (inside_le _) hx hy _ _ rfl rfl ?_ m w hm
  unfold inside
  cases hp : Lib.hasPrefix s.data.toList [91]
  · exact .inl ⟨rfl, rfl⟩
  · rcases parted 93 s.data.toList with h | ⟨a, r, h, h1⟩
    · exact .inr (.inl ⟨rfl, idx_no _ h, by rw [has_no h]; rfl⟩)
    · refine .inr (.inr ⟨rfl, ?_⟩)
      rw [h, idx_at a r h1, bef_at a r h1, has_yes (by simp)]
      rfl

theorem read_at (s : ByteArray) (hs : s.size ≤ 1000000) (z : Int) (b : Bool) (hz : Deci.readI s.data.toList 65535 = z) (hb : Deci.readB s.data.toList 65535 = b) (w : World) :
    Calls Tryz.prog 157 #[.string s, .int .i64 65535] w fun e w' => e = .returned (.tuple #[.int .i64 z, .bool b]) ∧ Below w.heap.size w w' := by
  subst hz; subst hb
  exact Deci.read_calls s (by unfold maxLen; omega) 65535 (by omega) w

theorem port_yes (c s : ByteArray) (hs : s.size ≤ 1000000) (h : portB s.data.toList = true) (z : Int) (hz : portI c.data.toList s.data.toList = z) (w : World) :
    Calls Tryz.prog 127 #[.string c, .string s] w fun e w' => e = .returned (.int .i64 z) ∧ Below w.heap.size w w' := by
  subst hz
  unfold portB at h
  unfold portI
  rw [← Path.tl s] at h ⊢
  cases q1 : s.toList.isEmpty
  · rw [q1, Bool.false_or] at h
    rw [Path.tl] at h
    have hz : Deci.readI s.data.toList 65535 = (Deci.valN s.data.toList : Int) := by unfold Deci.readI; rw [if_pos h]
    have R := Lib.hid (read_at s hs _ _ hz h)
    have WW := Lib.hid (fun u => web_any c _ rfl u)
    rw [Path.tl]
    generalize (Deci.valN s.data.toList : Int) = n at R ⊢
    generalize webI c.data.toList = v at WW ⊢
    clear h hz hs
    by_cases hn : n = v
    · subst hn
      go_enter Tryz.func127, Tryz.ntmps127
      go_wp2_with fail
      refine (R.out _).mono ?_
      rintro e u1 ⟨rfl, hB1⟩
      go_wp2_with fail
      refine (need_yes _).mono ?_
      rintro e u2 ⟨rfl, rfl⟩
      go_wp2_with fail
      refine (WW.out _).mono ?_
      rintro e u2 ⟨rfl, rfl⟩
      go_wp2
      go_ret
      exact ⟨by simp, hB1⟩
    · have q2 : (n == v) = false := by simpa using hn
      go_enter Tryz.func127, Tryz.ntmps127
      go_wp2_with fail
      refine (R.out _).mono ?_
      rintro e u1 ⟨rfl, hB1⟩
      go_wp2_with fail
      refine (need_yes _).mono ?_
      rintro e u2 ⟨rfl, rfl⟩
      go_wp2_with fail
      refine (WW.out _).mono ?_
      rintro e u2 ⟨rfl, rfl⟩
      go_wp2
      go_ret
      exact ⟨by simp [hn], hB1⟩
  · go_enter Tryz.func127, Tryz.ntmps127
    go_wp2
    go_ret
    exact ⟨by simp, Below.refl _ _⟩

theorem port_no (c s : ByteArray) (hs : s.size ≤ 1000000) (h : portB s.data.toList = false) (w : World) :
    Calls Tryz.prog 127 #[.string c, .string s] w fun e w' => e = gone ∧ Below w.heap.size w w' := by
  unfold portB at h
  rw [Bool.or_eq_false_iff] at h
  have q1 : s.toList.isEmpty = false := by rw [Path.tl]; exact h.1
  have R := Lib.hid (read_at s hs _ _ rfl h.2)
  clear h hs
  go_enter Tryz.func127, Tryz.ntmps127
  go_wp2_with fail
  refine (R.out _).mono ?_
  rintro e u1 ⟨rfl, hB1⟩
  go_wp2_with fail
  refine (need_no _).mono ?_
  rintro e u2 ⟨rfl, rfl⟩
  unfold gone
  go_wp2
  exact ⟨rfl, rfl, hB1⟩



open Host (H HostAt none0)

open Six (arr RowAt zero8)

open Path (Strs)

set_option maxRecDepth 100000

/-- An address's cells; 'pv': its path. -/
def cU (u : U) (pv : Value) : Array Value :=
  (.string (tb u.sch) :: .string (tb u.usr) :: .string (tb u.pas) :: .int .i64 u.h.k :: .string u.h.s :: .int .i64 u.h.n :: (u.h.p.map (Value.int .i64) ++
    [.int .i64 u.port, pv, .string (tb u.opq), .string (tb u.qry), .string (tb u.frg), .bool u.hq, .bool u.hf])).toArray

theorem eight {p : List Int} (h8 : p.length = 8) : ∃ a b c d e f g i, p = [a, b, c, d, e, f, g, i] := by
  match p, h8 with
  | [a, b, c, d, e, f, g, i], _ => exact ⟨a, b, c, d, e, f, g, i, rfl⟩

theorem cU_size (u : U) (pv : Value) (h8 : u.h.p.length = 8) : (cU u pv).size = 21 := by simp [cU, h8]

theorem cU_one (u : U) (pv : Value) (hp : pv.oneCell' = true) : (cU u pv).all (·.oneCell') = true := by
  rw [Array.all_eq_true_iff_forall_mem]
  intro v hv
  simp only [cU, List.mem_toArray, List.mem_cons, List.mem_append, List.mem_map, List.not_mem_nil, or_false] at hv
  rcases hv with rfl | rfl | rfl | rfl | rfl | rfl | ⟨z, _, rfl⟩ | rfl | rfl | rfl | rfl | rfl | rfl | rfl <;> first | rfl | exact hp

theorem size27 : (Tryz.prog.info? 27).map (·.size) = some 21 := by kernel_rfl

def UrlAt (W : World) (g : Nat) (u : U) (pv : Value) : Prop := W.heap[g]? = some (.cells (cU u pv) 27 (0, 0))

theorem UrlAt.lt {w : World} {g : Nat} {u : U} {pv : Value} (a : UrlAt w g u pv) : g < w.heap.size := (Array.getElem?_eq_some_iff.1 a).1

theorem UrlAt.new (w : World) (u : U) (pv : Value) : UrlAt (w.alloc (.cells (cU u pv) 27)) w.heap.size u pv := heap_alloc_new w _

theorem UrlAt.past {w : World} {g : Nat} {u : U} {pv : Value} (a : UrlAt w g u pv) (o : Obj) : UrlAt (w.alloc o) g u pv := (heap_alloc_old w o a.lt).trans a

theorem UrlAt.row {W : World} {g : Nat} {u : U} {pv : Value} (a : UrlAt W g u pv) (k : U) (qv : Value) : UrlAt (W.setRow g (cU k qv)) g k qv := setRow_heap W g _ _ 27 (0, 0) a

theorem UrlAt.below {w v : World} {B g : Nat} {u : U} {pv : Value} (a : UrlAt w g u pv) (hB : Below B w v) (hg : g < B) : UrlAt v g u pv := (hB.block g hg).trans a

theorem UrlAt.later {w v : World} {g : Nat} {u : U} {pv : Value} (a : UrlAt w g u pv) (hB : Below w.heap.size w v) : UrlAt v g u pv := a.below hB a.lt

theorem UrlAt.cell {w : World} {g : Nat} {u : U} {pv : Value} (a : UrlAt w g u pv) (j : Nat) : w.cell? ⟨g, j, none⟩ = (cU u pv)[j]? := cell_of_row w g j (cU u pv) 27 (0, 0) a

theorem UrlAt.load {w : World} {g : Nat} {u : U} {pv : Value} (a : UrlAt w g u pv) (h8 : u.h.p.length = 8) : (loadVar 27 ⟨g, 0, none⟩).run Tryz.prog w = .ok (.agg (cU u pv)) w :=
  run_loadVar_row w g 27 27 (cU u pv) (0, 0) _ a Tryz.underlying27 rfl (by rw [cU_size u pv h8]; exact size27)

theorem cU_at (u : U) (pv : Value) (h8 : u.h.p.length = 8) : (cU u pv)[0]? = some (.string (tb u.sch)) ∧ (cU u pv)[1]? = some (.string (tb u.usr)) ∧ (cU u pv)[2]? = some (.string (tb u.pas)) ∧ (cU u pv)[4]? = some (.string u.h.s) ∧ (cU u pv)[14]? = some (.int .i64 u.port) ∧
    (cU u pv)[15]? = some pv ∧ (cU u pv)[16]? = some (.string (tb u.opq)) ∧ (cU u pv)[17]? = some (.string (tb u.qry)) ∧ (cU u pv)[18]? = some (.string (tb u.frg)) ∧ (cU u pv)[19]? = some (.bool u.hq) ∧ (cU u pv)[20]? = some (.bool u.hf) := by
  obtain ⟨sch, usr, pas, ⟨k, s, n, p⟩, port, path, opq, qry, frg, hq, hf⟩ := u
  obtain ⟨a, b, c, d, e, f, g, i, rfl⟩ := eight h8
  exact ⟨rfl, rfl, rfl, rfl, rfl, rfl, rfl, rfl, rfl, rfl, rfl⟩

theorem cU_host (u : U) (pv : Value) (h8 : u.h.p.length = 8) (j : Nat) (hj : j < 11) : (cU u pv)[3 + j]? = u.h.cells[j]? := by
  obtain ⟨sch, usr, pas, ⟨k, s, n, p⟩, port, path, opq, qry, frg, hq, hf⟩ := u
  obtain ⟨a, b, c, d, e, f, g, i, rfl⟩ := eight h8
  match j, hj with
  | 0, _ | 1, _ | 2, _ | 3, _ | 4, _ | 5, _ | 6, _ | 7, _ | 8, _ | 9, _ | 10, _ => rfl

/-- The host that lies in an address. -/
theorem UrlAt.host {w : World} {g : Nat} {u : U} {pv : Value} (a : UrlAt w g u pv) (h8 : u.h.p.length = 8) : (loadVar 24 ⟨g, 3, none⟩).run Tryz.prog w = .ok (.agg u.h.cells) w := by
  have hsz8 := u.h.size h8
  have hl : (loadCells ⟨g, 3, none⟩ u.h.cells.toList.length).run Tryz.prog w = .ok u.h.cells.toList.toArray w :=
    run_loadCells_list (P := Tryz.prog) w ⟨g, 3, none⟩ u.h.cells.toList (fun j v hv => by
      have hadd : (⟨g, 3, none⟩ : Addr).add j = ⟨g, 3 + j, none⟩ := by unfold Addr.add; split <;> simp_all
      have hj : j < 11 := by have := (List.getElem?_eq_some_iff.1 hv).1; rwa [Array.length_toList, hsz8] at this
      rw [hadd, a.cell, cU_host u pv h8 j hj]
      simpa using hv)
  have hagg : (isAgg 24).run Tryz.prog w = .ok true w := by kernel_rfl
  have hsz : (sizeOf 24).run Tryz.prog w = .ok 11 w := by kernel_rfl
  have hlen : u.h.cells.toList.length = 11 := by rw [Array.length_toList, hsz8]
  rw [hlen] at hl
  simp [loadVar, Sem.run_bind, hagg, hsz, hl]

theorem wp_load27 {ops : Array Oper} {rest : List Oper} {o : Oper} {a : Act} {w : World} {Q : Exit → Act → World → Prop} (hgd : Region.wanted o (yielded ops a.tmps) = true) (x : Operand) (ho : o.op = .load 27 x) (g : Nat) (hx : a.eval x = .pointer (some ⟨g, 0, none⟩))
    (u : U) (pv : Value) (h8 : u.h.p.length = 8) (hr : UrlAt w g u pv) (hk : wpList Tryz.prog ops Q rest (a.put o.dst (.agg (cU u pv))) w) : wpList Tryz.prog ops Q (o :: rest) a w :=
  Six.wpList_taken hgd fun _ hK => wp_load_row 27 x ho g hx 27 (cU u pv) (0, 0) _ hr Tryz.underlying27 rfl (by rw [cU_size u pv h8]; exact size27) (hK _ _ hk)

theorem wp_load24u {ops : Array Oper} {rest : List Oper} {o : Oper} {a : Act} {w : World} {Q : Exit → Act → World → Prop} (hgd : Region.wanted o (yielded ops a.tmps) = true) (x : Operand) (ho : o.op = .load 24 x) (g : Nat) (hx : a.eval x = .pointer (some ⟨g, 3, none⟩))
    (u : U) (pv : Value) (h8 : u.h.p.length = 8) (hr : UrlAt w g u pv) (hk : wpList Tryz.prog ops Q rest (a.put o.dst (.agg u.h.cells)) w) : wpList Tryz.prog ops Q (o :: rest) a w :=
  Host.wp_load_at hgd 24 x ho ⟨g, 3, none⟩ hx (.agg u.h.cells) (hr.host h8) hk

theorem wp_store27 {ops : Array Oper} {rest : List Oper} {o : Oper} {a : Act} {w : World} {Q : Exit → Act → World → Prop} (hgd : o.guard = none) (x y : Operand) (ho : o.op = .store 27 x y) (g : Nat) (hx : a.eval x = .pointer (some ⟨g, 0, none⟩))
    (k : U) (qv : Value) (hy : a.eval y = .agg (cU k qv)) (k8 : k.h.p.length = 8) (hq : qv.oneCell' = true) (l : U) (pv : Value) (h8 : l.h.p.length = 8) (hr : UrlAt w g l pv) (h : wpList Tryz.prog ops Q rest (a.put o.dst undef) (w.setRow g (cU k qv))) : wpList Tryz.prog ops Q (o :: rest) a w :=
  wpList_plain hgd fun _ hK => wp_store_row 27 x y ho g (cU k qv) hx hy 27 (cU l pv) hr (by rw [cU_size k qv k8]; exact size27) (by rw [cU_size k qv k8, cU_size l pv h8]) (cU_one k qv hq) (hK _ _ h)

theorem heap_set {w : World} {g : Nat} {cs : Array Value} {t : TypeId} {fr : Nat × Nat} (h : w.heap[g]? = some (.cells cs t fr)) (j : Nat) (v : Value) : (w.setCell ⟨g, j, none⟩ v).heap[g]? = some (.cells (cs.setIfInBounds j v) t fr) := by
  unfold World.setCell
  simp [Array.getElem?_modify, h]

theorem below_set {B : Nat} {a w : World} (h : Below B a w) {g : Nat} (hp : B ≤ g) (j : Nat) (v : Value) : Below B a (w.setCell ⟨g, j, none⟩ v) :=
  h.trans ⟨rfl, rfl, rfl, by simp [World.setCell], fun k hk => by simp [World.setCell, Array.getElem?_modify, show g ≠ k by omega]⟩

theorem UrlAt.qry {w : World} {g : Nat} {u : U} {pv : Value} (a : UrlAt w g u pv) (h8 : u.h.p.length = 8) (x : T) : UrlAt (w.setCell ⟨g, 17, none⟩ (.string (tb x))) g { u with qry := x } pv := by
  have := heap_set a 17 (.string (tb x))
  unfold UrlAt
  rw [this]
  obtain ⟨sch, usr, pas, ⟨k, s, n, p⟩, port, path, opq, qry, frg, hq, hf⟩ := u
  obtain ⟨a, b, c, d, e, f, g, i, rfl⟩ := eight h8
  rfl

theorem UrlAt.frg {w : World} {g : Nat} {u : U} {pv : Value} (a : UrlAt w g u pv) (h8 : u.h.p.length = 8) (x : T) : UrlAt (w.setCell ⟨g, 18, none⟩ (.string (tb x))) g { u with frg := x } pv := by
  have := heap_set a 18 (.string (tb x))
  unfold UrlAt
  rw [this]
  obtain ⟨sch, usr, pas, ⟨k, s, n, p⟩, port, path, opq, qry, frg, hq, hf⟩ := u
  obtain ⟨a, b, c, d, e, f, g, i, rfl⟩ := eight h8
  rfl

theorem UrlAt.hq {w : World} {g : Nat} {u : U} {pv : Value} (a : UrlAt w g u pv) (h8 : u.h.p.length = 8) (x : Bool) : UrlAt (w.setCell ⟨g, 19, none⟩ (.bool x)) g { u with hq := x } pv := by
  have := heap_set a 19 (.bool x)
  unfold UrlAt
  rw [this]
  obtain ⟨sch, usr, pas, ⟨k, s, n, p⟩, port, path, opq, qry, frg, hq, hf⟩ := u
  obtain ⟨a, b, c, d, e, f, g, i, rfl⟩ := eight h8
  rfl

theorem UrlAt.hf {w : World} {g : Nat} {u : U} {pv : Value} (a : UrlAt w g u pv) (h8 : u.h.p.length = 8) (x : Bool) : UrlAt (w.setCell ⟨g, 20, none⟩ (.bool x)) g { u with hf := x } pv := by
  have := heap_set a 20 (.bool x)
  unfold UrlAt
  rw [this]
  obtain ⟨sch, usr, pas, ⟨k, s, n, p⟩, port, path, opq, qry, frg, hq, hf⟩ := u
  obtain ⟨a, b, c, d, e, f, g, i, rfl⟩ := eight h8
  rfl

theorem UrlAt.prt {w : World} {g : Nat} {u : U} {pv : Value} (a : UrlAt w g u pv) (h8 : u.h.p.length = 8) (x : Int) : UrlAt (w.setCell ⟨g, 14, none⟩ (.int .i64 x)) g { u with port := x } pv := by
  have := heap_set a 14 (.int .i64 x)
  unfold UrlAt
  rw [this]
  obtain ⟨sch, usr, pas, ⟨k, s, n, p⟩, port, path, opq, qry, frg, hq, hf⟩ := u
  obtain ⟨a, b, c, d, e, f, g, i, rfl⟩ := eight h8
  rfl

theorem UrlAt.pth {w : World} {g : Nat} {u : U} {pv : Value} (a : UrlAt w g u pv) (h8 : u.h.p.length = 8) (x : List T) (qv : Value) : UrlAt (w.setCell ⟨g, 15, none⟩ qv) g { u with path := x } qv := by
  have := heap_set a 15 qv
  unfold UrlAt
  rw [this]
  obtain ⟨sch, usr, pas, ⟨k, s, n, p⟩, port, path, opq, qry, frg, hq, hf⟩ := u
  obtain ⟨a, b, c, d, e, f, g, i, rfl⟩ := eight h8
  rfl

/-- A value is this address. -/
def UrlV (W : World) (v : Value) (u : U) : Prop := ∃ pv, v = .agg (cU u pv) ∧ Strs W pv u.path

theorem UrlV.later {W V : World} {v : Value} {u : U} (h : UrlV W v u) (hB : Below W.heap.size W V) : UrlV V v u := by
  obtain ⟨pv, h1, h2⟩ := h
  exact ⟨pv, h1, h2.later hB⟩

theorem strs_one {W : World} {v : Value} {l : List T} (h : Strs W v l) : v.oneCell' = true := by
  obtain ⟨a, c, rfl, _⟩ := h
  rfl

theorem none_cells (pv : Value) : cU none1 (.slice none 0 0) = #[.string ⟨#[]⟩, .string ⟨#[]⟩, .string ⟨#[]⟩, .int .i64 0, .string ⟨#[]⟩, .int .i64 0, .int .i64 0, .int .i64 0, .int .i64 0, .int .i64 0, .int .i64 0, .int .i64 0, .int .i64 0, .int .i64 0, .int .i64 0, .slice none 0 0,
    .string ⟨#[]⟩, .string ⟨#[]⟩, .string ⟨#[]⟩, .bool false, .bool false] := rfl



open Host (H HostAt none0 okH)

set_option maxRecDepth 100000

theorem ret_url {fn : Func} {d : Tmp} (h : fn.results = #[.cell d 27]) {tmps : Array Value} {W : World} (g : Nat) (u : U) (pv : Value) (h8 : u.h.p.length = 8) (hp : tmps.getD d undef = .pointer (some ⟨g, 0, none⟩)) (hr : UrlAt W g u pv) :
    (results fn tmps).run Tryz.prog W = .ok (.agg (cU u pv)) W := by
  have hp' : tmps[d]?.getD undef = .pointer (some ⟨g, 0, none⟩) := by simpa using hp
  simp [results, h, hp', asAddr, hr.load h8]

/-- An address is answered. -/
def Got (w : World) (u : U) (e : Ending) (w' : World) : Prop := ∃ pv, e = .returned (.agg (cU u pv)) ∧ Strs w' pv u.path ∧ Path.New w.heap.size pv ∧ Below w.heap.size w w'

/-- A block is written that is not the texts' own. -/
theorem strs_other {W V : World} {v : Value} {l : List T} (g : Nat) (h : Strs W v l) (hn : Path.New (g + 1) v) (hV : ∀ k, k ≠ g → V.heap[k]? = W.heap[k]?) : Strs V v l := by
  obtain ⟨a, c, rfl, h1, h2, h3, h4⟩ := h
  refine ⟨a, c, rfl, h1, h2, h3, fun hl => ?_⟩
  obtain ⟨b, off, rfl, hc⟩ := h4 hl
  have hb := hn b off none _ _ rfl
  refine ⟨b, off, rfl, fun j hj => ?_⟩
  have := hc j hj
  unfold World.cell? at this ⊢
  simp only at this ⊢
  rw [hV b (by omega)]
  exact this

theorem prefix_any (s : ByteArray) (x : ByteArray) (b : Bool) (hx : tb (Lib.trimPrefix s.data.toList [47, 47]) = x) (hb : Lib.hasPrefix s.data.toList [47, 47] = b) (w : World) :
    Calls Tryz.prog 123 #[.string s, .string ⟨#[47, 47]⟩] w fun e w' => e = .returned (.tuple #[.string x, .bool b]) ∧ w = w' := by
  subst hx; subst hb
  exact (Tryz.strings_CutPrefix s ⟨#[47, 47]⟩ w).mono fun e w' h => ⟨h.1, h.2.symm⟩

theorem trim_pre {l : T} (h : Lib.hasPrefix l [47, 47] = true) : Lib.trimPrefix l [47, 47] = l.drop 2 := by unfold Lib.trimPrefix; rw [if_pos h]; rfl

/-- port, whichever way it ends. -/
theorem port_both (c s : ByteArray) (hs : s.size ≤ 1000000) (b : Bool) (h : portB s.data.toList = b) (z : Int) (hz : portI c.data.toList s.data.toList = z) (w : World) :
    Calls Tryz.prog 127 #[.string c, .string s] w fun e w' => (b = false ∧ e = gone ∧ Below w.heap.size w w') ∨ (b = true ∧ e = .returned (.int .i64 z) ∧ Below w.heap.size w w') ∨ (b = false ∧ e = .returned (.int .i64 z) ∧ Below w.heap.size w w' ∧ False) := by
  cases b
  · exact (port_no c s hs h w).mono fun e w' k => .inl ⟨rfl, k⟩
  · exact (port_yes c s hs h z hz w).mono fun e w' k => .inr (.inl ⟨rfl, k⟩)

theorem zero_url : (#[.string ⟨#[]⟩, .string ⟨#[]⟩, .string ⟨#[]⟩, .int .i64 0, .string ⟨#[]⟩, .int .i64 0, .int .i64 0, .int .i64 0, .int .i64 0, .int .i64 0, .int .i64 0, .int .i64 0, .int .i64 0, .int .i64 0, .int .i64 0, .slice none 0 0,
    .string ⟨#[]⟩, .string ⟨#[]⟩, .string ⟨#[]⟩, .bool false, .bool false] : Array Value) = cU none1 (.slice none 0 0) := rfl

theorem setRow_other (w : World) (g : Nat) (cs : Array Value) {k : Nat} (h : g ≠ k) : (w.setRow g cs).heap[k]? = w.heap[k]? := by simp [World.setRow, Array.getElem?_modify, h]

theorem below_row {B : Nat} {a w : World} (h : Below B a w) {g : Nat} (hp : B ≤ g) (k : Array Value) : Below B a (w.setRow g k) := Six.below_setRow h hp k

theorem below_trans {u v x : World} (h : Below u.heap.size u v) (k : Below v.heap.size v x) : Below u.heap.size u x := h.trans (k.mono h.size)

theorem run_load_of {P : Program} {o : Oper} {a : Act} {w : World} (ty : TypeId) (x : Operand) (p : Addr) (hx : a.eval x = .pointer (some p)) (v : Value) (hr : (loadVar ty p).run P w = .ok v w) (ho : o.op = .load ty x := by rfl) : (execOp a.eval o).run P w = .ok (.value v) w := by
  unfold execOp
  simp only [ho, hx, Instr.loadAt, Instr.sureAddr, Sem.run_bind, Sem.run_pure, Result.andThen_ok, hr]

set_option maxHeartbeats 8000000 in
theorem ofWeb_in (sc t : ByteArray) (ht : t.size ≤ 25000) (hpre : Lib.hasPrefix t.data.toList [47, 47] = true) (hok : okH (hname (place (auth t.data.toList))) = true) (b : Bool) (hb : portB (digs (place (auth t.data.toList))) = b)
    (m : Int) (w : World) (hm : Six.At m w) :
    Calls Tryz.prog 96 #[.string sc, .string t] w fun e w' => (b = false ∧ e = gone ∧ Below w.heap.size w w') ∨ (b = true ∧ Got w (webU sc.data.toList t.data.toList) e w') := by
  obtain ⟨R, hR⟩ : ∃ R, tb (t.data.toList.drop 2) = R := ⟨_, rfl⟩
  have hR1 : R.size ≤ 25000 := by rw [size_tb hR, List.length_drop, size_list]; omega
  have hRl := list_tb hR
  obtain ⟨A, hA⟩ : ∃ A, tb (auth t.data.toList) = A := ⟨_, rfl⟩
  obtain ⟨S, hS⟩ : ∃ S, tb (segT t.data.toList) = S := ⟨_, rfl⟩
  have hA1 : A.size ≤ 25000 := by rw [size_tb hA]; unfold auth; rw [← hRl]; exact Nat.le_trans (bef_len _ _) hR1
  have hS1 : S.size ≤ 25000 := by rw [size_tb hS]; unfold segT; rw [← hRl]; exact Nat.le_trans (aft_len _ _) hR1
  have hAl := list_tb hA
  obtain ⟨X, hX⟩ : ∃ X, tb (user A.data.toList) = X := ⟨_, rfl⟩
  obtain ⟨Y, hY⟩ : ∃ Y, tb (pass A.data.toList) = Y := ⟨_, rfl⟩
  obtain ⟨Z, hZ⟩ : ∃ Z, tb (place A.data.toList) = Z := ⟨_, rfl⟩
  have hX1 : X.size ≤ 25000 := by rw [size_tb hX]; unfold user; exact Nat.le_trans (Nat.le_trans (bef_len _ _) (lbef_len _ _)) hA1
  have hY1 : Y.size ≤ 25000 := by rw [size_tb hY]; unfold pass; exact Nat.le_trans (Nat.le_trans (aft_len _ _) (lbef_len _ _)) hA1
  have hZ1 : Z.size ≤ 25000 := by rw [size_tb hZ]; exact Nat.le_trans (laft_len _ _) hA1
  have hZl := list_tb hZ
  obtain ⟨N, hN⟩ : ∃ N, tb (hname Z.data.toList) = N := ⟨_, rfl⟩
  obtain ⟨D, hD⟩ : ∃ D, tb (digs Z.data.toList) = D := ⟨_, rfl⟩
  have hN1 : N.size ≤ 25000 := by rw [size_tb hN, hname_take]; exact Nat.le_trans (List.length_take_le' _ _) hZ1
  have hD1 : D.size ≤ 25000 := by rw [size_tb hD]; unfold digs; exact Nat.le_trans (aft_len _ _) (Nat.le_trans (by rw [List.length_drop, size_list]; omega) hZ1)
  have hNl := list_tb hN
  have hDl := list_tb hD
  rw [← hAl, ← hZl, ← hDl] at hb
  rw [← hAl, ← hZl, ← hNl] at hok
  obtain ⟨h, hh⟩ : ∃ h, Host.parH N.data.toList = h := ⟨_, rfl⟩
  have h8 : h.p.length = 8 := by rw [← hh]; exact Host.parH_len _
  obtain ⟨E1, hE1⟩ : ∃ E, tb (Pct.encode 4 X.data.toList) = E := ⟨_, rfl⟩
  obtain ⟨E2, hE2⟩ : ∃ E, tb (Pct.encode 4 Y.data.toList) = E := ⟨_, rfl⟩
  obtain ⟨z, hz⟩ : ∃ z, portI sc.data.toList D.data.toList = z := ⟨_, rfl⟩
  obtain ⟨G, hG⟩ : ∃ G, (⟨#[47]⟩ : ByteArray) ++ S = G := ⟨_, rfl⟩
  have hGl : G.data.toList = 47 :: segT t.data.toList := by rw [← hG, Path.text_append, list_tb hS]; rfl
  have hG1 : G.size ≤ 25001 := by
    show G.data.toList.length ≤ 25001
    rw [hGl, List.length_cons, ← list_tb hS]
    have : S.data.toList.length = S.size := rfl
    omega
  -- the address
  have hU : webU sc.data.toList t.data.toList = ⟨sc.data.toList, E1.data.toList, E2.data.toList, h, z, Path.parse G.data.toList, [], [], [], false, false⟩ := by
    unfold webU
    rw [← hAl, ← hZl, ← hNl, hh, ← hDl, hz, ← list_tb hX, ← list_tb hY, hGl, list_tb hE1, list_tb hE2]
  rw [hU]
  have C1 := Lib.hid (fun u => prefix_any t R true (by rw [trim_pre hpre, hR]) hpre u)
  have C2 := Lib.hid (fun u hu c hc => cut_any 47 R (by omega) A S c (by rw [hRl]; exact hA) (by rw [hRl]; exact hS) hc m u hu)
  have C3 := Lib.hid (fun u hu => users_any A (by omega) X Y Z hX hY hZ m u hu)
  have C4 := Lib.hid (fun u hu => cutPort_any Z (by omega) N D hN hD m u hu)
  have C5 := Lib.hid (fun u hu => Host.parse_any N (by omega) h true hh hok m u hu)
  have C6 := Lib.hid (fun u => Pct.encode_any X (by omega) 4 u)
  have C7 := Lib.hid (fun u => Pct.encode_any Y (by omega) 4 u)
  have C8 := Lib.hid (fun u => port_both sc D (by omega) b hb z hz u)
  have C9 := Lib.hid (fun u (hu : Six.At m u) => Path.parse_new G (by omega) m u hu.max)
  have hE1' : (⟨(Pct.encode 4 X.data.toList).toArray⟩ : ByteArray) = E1 := hE1
  have hE2' : (⟨(Pct.encode 4 Y.data.toList).toArray⟩ : ByteArray) = E2 := hE2
  rw [hE1'] at C6
  rw [hE2'] at C7
  have HB0 := Lib.hid (show Below w.heap.size w (w.alloc (.cells (cU none1 (.slice none 0 0)) 27)) from (Below.refl _ w).alloc (Nat.le_refl _) _)
  have HR0 := Lib.hid (UrlAt.new w none1 (.slice none 0 0))
  have HM := Lib.hid (hm.later HB0.out)
  have HG := Lib.hid hG
  have H8 := Lib.hid h8
  clear hR hRl hA hS hA1 hAl hX hY hZ hX1 hY1 hZ1 hZl hN hD hN1 hD1 hNl hDl hE1 hE2 hE1' hE2' hz hh hGl hU hok hpre hb ht hR1 hm hG h8
  go_enter Tryz.func96, Tryz.ntmps96
  go_wp2_with fail
  rw [zero_url]
  generalize w.alloc (.cells (cU none1 (.slice none 0 0)) 27) = W at HB0 HR0 HM ⊢
  refine (C1.out _).mono ?_
  rintro e u1 ⟨rfl, rfl⟩
  clear C1
  go_wp2_with fail
  refine (need_yes _).mono ?_
  rintro e u1 ⟨rfl, rfl⟩
  go_wp2_with fail
  refine (C2.out _ HM.out _ rfl).mono ?_
  rintro e u1 ⟨rfl, hB1⟩
  have HB1 := Lib.hid hB1
  have HM1 := Lib.hid (HM.out.later hB1)
  have HR1 := Lib.hid (HR0.out.later hB1)
  clear hB1 HM C2 HR0
  go_wp2_with fail
  refine (C3.out _ HM1.out).mono ?_
  rintro e u2 ⟨rfl, hB2⟩
  have HB2 := Lib.hid hB2
  have HM2 := Lib.hid (HM1.out.later hB2)
  have HR2 := Lib.hid (HR1.out.later hB2)
  clear hB2 HM1 C3 HR1
  go_wp2_with fail
  refine (C4.out _ HM2.out).mono ?_
  rintro e u3 ⟨rfl, hB3⟩
  have HB3 := Lib.hid (Ascii.below4 HB0.out HB1.out HB2.out hB3)
  have HM3 := Lib.hid (HM2.out.later hB3)
  have HR3 := Lib.hid (HR2.out.later hB3)
  clear hB3 HM2 C4 HR2 HB0 HB1 HB2
  go_wp2_with fail
  refine (C5.out _ HM3.out).mono ?_
  rintro e u4 ⟨rfl, hB4⟩
  have HB4 := Lib.hid (Ascii.below2 HB3.out hB4)
  have HM4 := Lib.hid (HM3.out.later hB4)
  have HR4 := Lib.hid (HR3.out.later hB4)
  clear hB4 HM3 C5 HR3 HB3
  have hnew : HostAt (u4.alloc (.cells #[.int .i64 0, .string ⟨#[]⟩, .int .i64 0, .int .i64 0, .int .i64 0, .int .i64 0, .int .i64 0, .int .i64 0, .int .i64 0, .int .i64 0, .int .i64 0] 24)) u4.heap.size none0 := HostAt.new u4 none0
  have HH5 := Lib.hid (hnew.row h)
  have HB5 := Lib.hid (Host.below_row ((Below.refl u4.heap.size u4).alloc (Nat.le_refl _) (.cells #[.int .i64 0, .string ⟨#[]⟩, .int .i64 0, .int .i64 0, .int .i64 0, .int .i64 0, .int .i64 0, .int .i64 0, .int .i64 0, .int .i64 0, .int .i64 0] 24)) (Nat.le_refl _) h.cells)
  go_wp2_with ((with_reducible refine Host.wp_store24 (o := ⟨none, .store 24 (.tmp 15) (.tmp 43), _, _, _, _⟩) ?_ (.tmp 15) (.tmp 43) ?_ u4.heap.size ?_ h ?_ H8.out none0 rfl hnew ?_); (· rfl); (· rfl); (· rfl); (· rfl))
  generalize (u4.alloc (.cells #[.int .i64 0, .string ⟨#[]⟩, .int .i64 0, .int .i64 0, .int .i64 0, .int .i64 0, .int .i64 0, .int .i64 0, .int .i64 0, .int .i64 0, .int .i64 0] 24)).setRow u4.heap.size h.cells = u5 at HH5 HB5 ⊢
  clear hnew
  have HR5 := Lib.hid (HR4.out.later HB5.out)
  have HM5 := Lib.hid (HM4.out.later HB5.out)
  have HB6 := Lib.hid (Ascii.below2 HB4.out HB5.out)
  have HNE := Lib.hid (show w.heap.size ≠ u4.heap.size from Nat.ne_of_lt HR4.out.lt)
  generalize u4.heap.size = g5 at HH5 HB5 HNE ⊢
  clear HB5 HB4 HR4 HM4
  refine (need_yes _).mono ?_
  rintro e u1 ⟨rfl, rfl⟩
  go_wp2_with fail
  have hc : Below u5.heap.size u5 u5.drew := (Below.refl _ _).drew
  refine wp_region_held_drew (S := fun v => HostAt v g5 h ∧ Below w.heap.size w v) (by kernel_rfl) ⟨HH5.out.later hc, Ascii.below2 HB6.out hc⟩ (fun hS => ?_)
  refine wpAnyH_take (i := 0) (oi := ⟨some 47, .move (.tmp 0), _, _, _, _⟩) (v := .string sc) rfl (by kernel_rfl) (by kernel_rfl) (by kernel_rfl) (fun _ _ _ h => h) (Or.inl ⟨by rfl, ?_⟩) (by assumption) ?_
  · (intro v hv; go_simp)
  simp only [Act.put, List.setIfInBounds_toArray, List.set_cons_zero, List.set_cons_succ]
  refine wpAnyH_take (i := 1) (oi := ⟨some 48, .move (.tmp 10), _, _, _, _⟩) (v := .string X) rfl (by kernel_rfl) (by kernel_rfl) (by kernel_rfl) (fun _ _ _ h => h) (Or.inl ⟨by rfl, ?_⟩) (by assumption) ?_
  · (intro v hv; go_simp)
  simp only [Act.put, List.setIfInBounds_toArray, List.set_cons_zero, List.set_cons_succ]
  refine wpAnyH_take (i := 3) (oi := ⟨some 50, .move (.tmp 11), _, _, _, _⟩) (v := .string Y) rfl (by kernel_rfl) (by kernel_rfl) (by kernel_rfl) (fun _ _ _ h => h) (Or.inl ⟨by rfl, ?_⟩) (by assumption) ?_
  · (intro v hv; go_simp)
  simp only [Act.put, List.setIfInBounds_toArray, List.set_cons_zero, List.set_cons_succ]
  refine wpAnyH_take (i := 5) (oi := ⟨some 52, .load 24 (.tmp 15), _, _, _, _⟩) (v := .agg h.cells) rfl (by kernel_rfl) (by kernel_rfl) (by kernel_rfl) (fun _ _ _ h => h) (Or.inl ⟨by rfl, ?_⟩) (by assumption) ?_
  · exact fun v hv => run_load_of 24 (.tmp 15) ⟨g5, 0, none⟩ rfl (.agg h.cells) (hv.1.load H8.out)
  simp only [Act.put, List.setIfInBounds_toArray, List.set_cons_zero, List.set_cons_succ]
  refine wpAnyH_take (i := 6) (oi := ⟨some 53, .move (.tmp 0), _, _, _, _⟩) (v := .string sc) rfl (by kernel_rfl) (by kernel_rfl) (by kernel_rfl) (fun _ _ _ h => h) (Or.inl ⟨by rfl, ?_⟩) (by assumption) ?_
  · (intro v hv; go_simp)
  simp only [Act.put, List.setIfInBounds_toArray, List.set_cons_zero, List.set_cons_succ]
  refine wpAnyH_take (i := 7) (oi := ⟨some 54, .move (.tmp 14), _, _, _, _⟩) (v := .string D) rfl (by kernel_rfl) (by kernel_rfl) (by kernel_rfl) (fun _ _ _ h => h) (Or.inl ⟨by rfl, ?_⟩) (by assumption) ?_
  · (intro v hv; go_simp)
  simp only [Act.put, List.setIfInBounds_toArray, List.set_cons_zero, List.set_cons_succ]
  refine wpAnyH_take (i := 9) (oi := ⟨some 56, .move (.tmp 8), _, _, _, _⟩) (v := .string S) rfl (by kernel_rfl) (by kernel_rfl) (by kernel_rfl) (fun _ _ _ h => h) (Or.inl ⟨by rfl, ?_⟩) (by assumption) ?_
  · (intro v hv; go_simp)
  simp only [Act.put, List.setIfInBounds_toArray, List.set_cons_zero, List.set_cons_succ]
  refine wpAnyH_take (i := 10) (oi := ⟨some 57, .binOp .add 9 (.const (.string ⟨#[47]⟩)) (.tmp 56) 9, _, _, _, _⟩) (v := .string G) rfl (by kernel_rfl) (by kernel_rfl) (by kernel_rfl) (fun _ _ _ h => h) (Or.inl ⟨by rfl, ?_⟩) (by assumption) ?_
  · (intro v hv; go_simp; rw [if_neg (by omega), HG.out])
  simp only [Act.put, List.setIfInBounds_toArray, List.set_cons_zero, List.set_cons_succ]
  refine wpAnyH_ready (rs := [2]) (by kernel_rfl) (by simp) ?_
  refine AllReadyH.cons (o := ⟨some 49, .call ⟨.value (.func 67), #[.tmp 48, .const (.int .i64 4)], _⟩, _, _, _, _⟩) rfl (fun K hK => ?_) AllReadyH.nil
  go_simp
  go_at_call 67
  refine (C6.out _).mono ?_
  rintro e v1 ⟨rfl, hB1⟩
  have hc := below_trans hc hB1
  refine hK.out _ _ ⟨HH5.out.later hc, Ascii.below2 HB6.out hc⟩ (fun hS => ?_)
  clear hB1 C6
  refine wpAnyH_ready (rs := [4]) (by kernel_rfl) (by simp) ?_
  refine AllReadyH.cons (o := ⟨some 51, .call ⟨.value (.func 67), #[.tmp 50, .const (.int .i64 4)], _⟩, _, _, _, _⟩) rfl (fun K hK => ?_) AllReadyH.nil
  go_simp
  go_at_call 67
  refine (C7.out _).mono ?_
  rintro e v2 ⟨rfl, hB2⟩
  have hc := below_trans hc hB2
  refine hK.out _ _ ⟨HH5.out.later hc, Ascii.below2 HB6.out hc⟩ (fun hS => ?_)
  clear hB2 C7
  refine wpAnyH_ready (rs := [8]) (by kernel_rfl) (by simp) ?_
  refine AllReadyH.cons (o := ⟨some 55, .call ⟨.value (.func 127), #[.tmp 53, .tmp 54], _⟩, _, _, _, _⟩) rfl (fun K hK => ?_) AllReadyH.nil
  go_simp
  go_at_call 127
  refine (C8.out _).mono ?_
  rintro e v3 (⟨hb, rfl, hB3⟩ | ⟨hb, rfl, hB3⟩ | ⟨hb, rfl, hB3, hF⟩)
  case inl => exact ⟨rfl, .inl ⟨hb, rfl, Ascii.below2 HB6.out (below_trans hc hB3)⟩⟩
  case inr.inr => exact hF.elim
  have hc := below_trans hc hB3
  refine hK.out _ _ ⟨HH5.out.later hc, Ascii.below2 HB6.out hc⟩ (fun hS => ?_)
  clear hB3 C8
  refine wpAnyH_ready (rs := [11]) (by kernel_rfl) (by simp) ?_
  refine AllReadyH.cons (o := ⟨some 58, .call ⟨.value (.func 128), #[.tmp 57], _⟩, _, _, _, _⟩) rfl (fun K hK => ?_) AllReadyH.nil
  go_simp
  go_at_call 128
  refine (C9.out _ (HM5.out.later hc)).mono ?_
  rintro e v4 ⟨pv, rfl, hst, hB4, hnew⟩
  have HNW := Lib.hid (hnew.mono hc.size)
  clear hnew
  have hc := below_trans hc hB4
  refine hK.out _ _ ⟨HH5.out.later hc, Ascii.below2 HB6.out hc⟩ (fun hS => ?_)
  clear hB4 C9
  have HST := Lib.hid hst
  have hone := strs_one hst
  clear hst
  refine wpAnyH_take (i := 12) (oi := ⟨some 59, .build 27 #[(0, .tmp 47), (1, .tmp 49), (2, .tmp 51), (3, .tmp 52), (4, .tmp 55), (5, .tmp 58)], _, _, _, _⟩) (v := .agg (cU ⟨sc.data.toList, E1.data.toList, E2.data.toList, h, z, Path.parse G.data.toList, [], [], [], false, false⟩ pv)) rfl (by kernel_rfl) (by kernel_rfl) (by kernel_rfl) (fun _ _ _ h => h) (Or.inl ⟨by rfl, ?_⟩) (by assumption) ?_
  · intro v hv
    obtain ⟨hk, hs, hn, hp⟩ := h
    obtain ⟨p0, p1, p2, p3, p4, p5, p6, p7, rfl⟩ := eight H8.out
    obtain ⟨pa, pc, rfl, _⟩ := HST.out
    clear HB6 HR5 HM5 HH5 H8 HST
    have hlit : (H.cells ⟨hk, hs, hn, [p0, p1, p2, p3, p4, p5, p6, p7]⟩) = #[.int .i64 hk, .string hs, .int .i64 hn, .int .i64 p0, .int .i64 p1, .int .i64 p2, .int .i64 p3, .int .i64 p4, .int .i64 p5, .int .i64 p6, .int .i64 p7] := rfl
    go_simp
    simp only [cU, tb_of]
    rfl
  go_simp
  refine wpAnyH_ready (rs := [13]) (by kernel_rfl) (by simp) ?_
  refine AllReadyH.cons (o := ⟨none, .store 27 (.tmp 4) (.tmp 59), _, _, _, _⟩) rfl (fun K hK => ?_) AllReadyH.nil
  rw [if_pos (by rfl)]
  have hr := HR5.out.later hc
  refine wp_store_row 27 (.tmp 4) (.tmp 59) rfl w.heap.size (cU ⟨sc.data.toList, E1.data.toList, E2.data.toList, h, z, Path.parse G.data.toList, [], [], [], false, false⟩ pv) rfl rfl 27 (cU none1 (.slice none 0 0)) hr (by rw [cU_size _ _ H8.out]; exact size27) (by first | exact (cU_size none1 (.slice none 0 0) rfl).trans (cU_size ⟨sc.data.toList, E1.data.toList, E2.data.toList, h, z, Path.parse G.data.toList, [], [], [], false, false⟩ pv H8.out).symm | exact (cU_size ⟨sc.data.toList, E1.data.toList, E2.data.toList, h, z, Path.parse G.data.toList, [], [], [], false, false⟩ pv H8.out).trans (cU_size none1 (.slice none 0 0) rfl).symm) (cU_one _ _ hone) ?_
  have hh := HH5.out.later hc
  refine hK.out _ _ ⟨(setRow_other _ _ _ HNE.out).trans hh, below_row (Ascii.below2 HB6.out hc) (Nat.le_refl _) _⟩ (fun hS => ?_)
  refine wpAnyH_done (by kernel_rfl) ?_ _
  have hfin := hr.row ⟨sc.data.toList, E1.data.toList, E2.data.toList, h, z, Path.parse G.data.toList, [], [], [], false, false⟩ pv
  have hst := HST.out
  have hS2 := hS.2
  have hnew := HNW.out.mono (Nat.succ_le_of_lt HR5.out.lt)
  have hnew2 := HNW.out.mono HB6.out.size
  clear hr hh hS hc hone HST HB6 HR5 HM5 HH5 HNE HG hS1 hG1 HNW
  go_wp2
  exact bodyPost_ret (ret_url rfl w.heap.size _ pv H8.out rfl hfin) rfl (.inr ⟨hb, pv, rfl, strs_other w.heap.size hst hnew (fun k hk => setRow_other _ _ _ (Ne.symm hk)), hnew2, hS2⟩)

set_option maxHeartbeats 8000000 in
theorem ofWeb_none (sc t : ByteArray) (ht : t.size ≤ 25000) (hpre : Lib.hasPrefix t.data.toList [47, 47] = true) (hok : okH (hname (place (auth t.data.toList))) = false)
    (m : Int) (w : World) (hm : Six.At m w) :
    Calls Tryz.prog 96 #[.string sc, .string t] w fun e w' => e = gone ∧ Below w.heap.size w w' := by
  obtain ⟨R, hR⟩ : ∃ R, tb (t.data.toList.drop 2) = R := ⟨_, rfl⟩
  have hR1 : R.size ≤ 25000 := by rw [size_tb hR, List.length_drop, size_list]; omega
  have hRl := list_tb hR
  obtain ⟨A, hA⟩ : ∃ A, tb (auth t.data.toList) = A := ⟨_, rfl⟩
  obtain ⟨S, hS⟩ : ∃ S, tb (segT t.data.toList) = S := ⟨_, rfl⟩
  have hA1 : A.size ≤ 25000 := by rw [size_tb hA]; unfold auth; rw [← hRl]; exact Nat.le_trans (bef_len _ _) hR1
  have hS1 : S.size ≤ 25000 := by rw [size_tb hS]; unfold segT; rw [← hRl]; exact Nat.le_trans (aft_len _ _) hR1
  have hAl := list_tb hA
  obtain ⟨X, hX⟩ : ∃ X, tb (user A.data.toList) = X := ⟨_, rfl⟩
  obtain ⟨Y, hY⟩ : ∃ Y, tb (pass A.data.toList) = Y := ⟨_, rfl⟩
  obtain ⟨Z, hZ⟩ : ∃ Z, tb (place A.data.toList) = Z := ⟨_, rfl⟩
  have hX1 : X.size ≤ 25000 := by rw [size_tb hX]; unfold user; exact Nat.le_trans (Nat.le_trans (bef_len _ _) (lbef_len _ _)) hA1
  have hY1 : Y.size ≤ 25000 := by rw [size_tb hY]; unfold pass; exact Nat.le_trans (Nat.le_trans (aft_len _ _) (lbef_len _ _)) hA1
  have hZ1 : Z.size ≤ 25000 := by rw [size_tb hZ]; exact Nat.le_trans (laft_len _ _) hA1
  have hZl := list_tb hZ
  obtain ⟨N, hN⟩ : ∃ N, tb (hname Z.data.toList) = N := ⟨_, rfl⟩
  obtain ⟨D, hD⟩ : ∃ D, tb (digs Z.data.toList) = D := ⟨_, rfl⟩
  have hN1 : N.size ≤ 25000 := by rw [size_tb hN, hname_take]; exact Nat.le_trans (List.length_take_le' _ _) hZ1
  have hD1 : D.size ≤ 25000 := by rw [size_tb hD]; unfold digs; exact Nat.le_trans (aft_len _ _) (Nat.le_trans (by rw [List.length_drop, size_list]; omega) hZ1)
  have hNl := list_tb hN
  have hDl := list_tb hD
  rw [← hAl, ← hZl, ← hNl] at hok
  obtain ⟨h, hh⟩ : ∃ h, Host.parH N.data.toList = h := ⟨_, rfl⟩
  have h8 : h.p.length = 8 := by rw [← hh]; exact Host.parH_len _
  have C1 := Lib.hid (fun u => prefix_any t R true (by rw [trim_pre hpre, hR]) hpre u)
  have C2 := Lib.hid (fun u hu c hc => cut_any 47 R (by omega) A S c (by rw [hRl]; exact hA) (by rw [hRl]; exact hS) hc m u hu)
  have C3 := Lib.hid (fun u hu => users_any A (by omega) X Y Z hX hY hZ m u hu)
  have C4 := Lib.hid (fun u hu => cutPort_any Z (by omega) N D hN hD m u hu)
  have C5 := Lib.hid (fun u hu => Host.parse_any N (by omega) h false hh hok m u hu)
  have HB0 := Lib.hid (show Below w.heap.size w (w.alloc (.cells (cU none1 (.slice none 0 0)) 27)) from (Below.refl _ w).alloc (Nat.le_refl _) _)
  have HR0 := Lib.hid (UrlAt.new w none1 (.slice none 0 0))
  have HM := Lib.hid (hm.later HB0.out)
  have H8 := Lib.hid h8
  clear hR hRl hA hS hA1 hAl hX hY hZ hX1 hY1 hZ1 hZl hN hD hN1 hD1 hNl hDl hh hok hpre ht hR1 hm h8
  go_enter Tryz.func96, Tryz.ntmps96
  go_wp2_with fail
  rw [zero_url]
  generalize w.alloc (.cells (cU none1 (.slice none 0 0)) 27) = W at HB0 HR0 HM ⊢
  refine (C1.out _).mono ?_
  rintro e u1 ⟨rfl, rfl⟩
  clear C1
  go_wp2_with fail
  refine (need_yes _).mono ?_
  rintro e u1 ⟨rfl, rfl⟩
  go_wp2_with fail
  refine (C2.out _ HM.out _ rfl).mono ?_
  rintro e u1 ⟨rfl, hB1⟩
  have HB1 := Lib.hid hB1
  have HM1 := Lib.hid (HM.out.later hB1)
  have HR1 := Lib.hid (HR0.out.later hB1)
  clear hB1 HM C2 HR0
  go_wp2_with fail
  refine (C3.out _ HM1.out).mono ?_
  rintro e u2 ⟨rfl, hB2⟩
  have HB2 := Lib.hid hB2
  have HM2 := Lib.hid (HM1.out.later hB2)
  have HR2 := Lib.hid (HR1.out.later hB2)
  clear hB2 HM1 C3 HR1
  go_wp2_with fail
  refine (C4.out _ HM2.out).mono ?_
  rintro e u3 ⟨rfl, hB3⟩
  have HB3 := Lib.hid (Ascii.below4 HB0.out HB1.out HB2.out hB3)
  have HM3 := Lib.hid (HM2.out.later hB3)
  have HR3 := Lib.hid (HR2.out.later hB3)
  clear hB3 HM2 C4 HR2 HB0 HB1 HB2
  go_wp2_with fail
  refine (C5.out _ HM3.out).mono ?_
  rintro e u4 ⟨rfl, hB4⟩
  have HB4 := Lib.hid (Ascii.below2 HB3.out hB4)
  have HM4 := Lib.hid (HM3.out.later hB4)
  have HR4 := Lib.hid (HR3.out.later hB4)
  clear hB4 HM3 C5 HR3 HB3
  have hnew : HostAt (u4.alloc (.cells #[.int .i64 0, .string ⟨#[]⟩, .int .i64 0, .int .i64 0, .int .i64 0, .int .i64 0, .int .i64 0, .int .i64 0, .int .i64 0, .int .i64 0, .int .i64 0] 24)) u4.heap.size none0 := HostAt.new u4 none0
  have HH5 := Lib.hid (hnew.row h)
  have HB5 := Lib.hid (Host.below_row ((Below.refl u4.heap.size u4).alloc (Nat.le_refl _) (.cells #[.int .i64 0, .string ⟨#[]⟩, .int .i64 0, .int .i64 0, .int .i64 0, .int .i64 0, .int .i64 0, .int .i64 0, .int .i64 0, .int .i64 0, .int .i64 0] 24)) (Nat.le_refl _) h.cells)
  go_wp2_with ((with_reducible refine Host.wp_store24 (o := ⟨none, .store 24 (.tmp 15) (.tmp 43), _, _, _, _⟩) ?_ (.tmp 15) (.tmp 43) ?_ u4.heap.size ?_ h ?_ H8.out none0 rfl hnew ?_); (· rfl); (· rfl); (· rfl); (· rfl))
  generalize (u4.alloc (.cells #[.int .i64 0, .string ⟨#[]⟩, .int .i64 0, .int .i64 0, .int .i64 0, .int .i64 0, .int .i64 0, .int .i64 0, .int .i64 0, .int .i64 0, .int .i64 0] 24)).setRow u4.heap.size h.cells = u5 at HH5 HB5 ⊢
  clear hnew
  have HR5 := Lib.hid (HR4.out.later HB5.out)
  have HM5 := Lib.hid (HM4.out.later HB5.out)
  have HB6 := Lib.hid (Ascii.below2 HB4.out HB5.out)
  have HNE := Lib.hid (show w.heap.size ≠ u4.heap.size from Nat.ne_of_lt HR4.out.lt)
  generalize u4.heap.size = g5 at HH5 HB5 HNE ⊢
  clear HB5 HB4 HR4 HM4
  refine (need_no _).mono ?_
  rintro e u1 ⟨rfl, rfl⟩
  unfold gone
  go_wp2
  exact ⟨rfl, rfl, HB6.out⟩

theorem ofWeb_any (sc t : ByteArray) (ht : t.size ≤ 25000) (b : Bool) (hb : webB t.data.toList = b) (m : Int) (w : World) (hm : Six.At m w) :
    Calls Tryz.prog 96 #[.string sc, .string t] w fun e w' => (b = false ∧ e = gone ∧ Below w.heap.size w w') ∨ (b = true ∧ Got w (webU sc.data.toList t.data.toList) e w') := by
  subst hb
  unfold webB
  cases hpre : Lib.hasPrefix t.data.toList [47, 47]
  · have C1 := Lib.hid (fun u => prefix_any t _ false rfl hpre u)
    have HB0 := Lib.hid (show Below w.heap.size w (w.alloc (.cells (cU none1 (.slice none 0 0)) 27)) from (Below.refl _ w).alloc (Nat.le_refl _) _)
    generalize tb (Lib.trimPrefix t.data.toList [47, 47]) = R at C1
    clear hpre ht hm
    go_enter Tryz.func96, Tryz.ntmps96
    go_wp2_with fail
    rw [zero_url]
    generalize w.alloc (.cells (cU none1 (.slice none 0 0)) 27) = W at HB0 ⊢
    refine (C1.out _).mono ?_
    rintro e u1 ⟨rfl, rfl⟩
    go_wp2_with fail
    refine (need_no _).mono ?_
    rintro e u1 ⟨rfl, rfl⟩
    unfold gone
    go_wp2
    exact ⟨rfl, .inl ⟨rfl, rfl, HB0.out⟩⟩
  · cases hok : okH (hname (place (auth t.data.toList)))
    · exact (ofWeb_none sc t ht hpre hok m w hm).mono fun e w' h => .inl ⟨rfl, h⟩
    · exact ofWeb_in sc t ht hpre hok _ rfl m w hm



set_option maxRecDepth 100000

theorem web8 (sc t : T) : (webU sc t).h.p.length = 8 := Host.parH_len _

theorem opq8 (sc t : T) : (opqU sc t).h.p.length = 8 := rfl

theorem ahead8 (sc t : T) : (aheadU sc t).h.p.length = 8 := by
  unfold aheadU
  split
  · exact opq8 _ _
  · exact web8 _ _

theorem par8 (s : T) : (parS s).h.p.length = 8 := by
  unfold parS
  split
  · exact ahead8 _ _
  · rfl

theorem got_one {w : World} {u : U} {pv : Value} {W : World} (h : Strs W pv u.path) : pv.oneCell' = true := strs_one h

def aheadB (sc t : T) : Bool := (!decide (webI sc = 0) && webB t) || opB sc

set_option maxHeartbeats 8000000 in
theorem ahead_any (sc t : ByteArray) (ht : t.size ≤ 25000) (b : Bool) (hb : aheadB sc.data.toList t.data.toList = b) (m : Int) (w : World) (hm : Six.At m w) :
    Calls Tryz.prog 66 #[.string sc, .string t] w fun e w' => (b = false ∧ e = gone ∧ Below w.heap.size w w') ∨ (b = true ∧ Got w (aheadU sc.data.toList t.data.toList) e w') := by
  have HB0 := Lib.hid (show Below w.heap.size w (w.alloc (.cells (cU none1 (.slice none 0 0)) 27)) from (Below.refl _ w).alloc (Nat.le_refl _) _)
  have HR0 := Lib.hid (UrlAt.new w none1 (.slice none 0 0))
  have HS0 : (w.alloc (.cells (cU none1 (.slice none 0 0)) 27)).heap.size = w.heap.size + 1 := Array.size_push _
  have HM := Lib.hid (hm.later HB0.out)
  clear hm
  by_cases hw : webI sc.data.toList = 0
  · have hq : (!decide (webI sc.data.toList = 0)) = false := by rw [hw]; rfl
    have CW := Lib.hid (fun u => isWeb_any sc false hq u)
    unfold aheadB at hb
    rw [hq, Bool.false_and, Bool.false_or] at hb
    have CO := Lib.hid (fun u => opq_any sc b hb u)
    have CE := Lib.hid (fun u => Pct.encode_any t (by omega) 1 u)
    obtain ⟨E, hE⟩ : ∃ E, tb (Pct.encode 1 t.data.toList) = E := ⟨_, rfl⟩
    have hE' : (⟨(Pct.encode 1 t.data.toList).toArray⟩ : ByteArray) = E := hE
    rw [hE'] at CE
    have hU : aheadU sc.data.toList t.data.toList = ⟨sc.data.toList, [], [], none0, -1, [], E.data.toList, [], [], false, false⟩ := by
      unfold aheadU opqU
      rw [if_pos hw, list_tb hE]
    rw [hU]
    have hlit : (#[.string sc, .string ⟨#[]⟩, .string ⟨#[]⟩, .int .i64 0, .string ⟨#[]⟩, .int .i64 0, .int .i64 0, .int .i64 0, .int .i64 0, .int .i64 0, .int .i64 0, .int .i64 0, .int .i64 0, .int .i64 0, .int .i64 (-1), .slice none 0 0,
        .string E, .string ⟨#[]⟩, .string ⟨#[]⟩, .bool false, .bool false] : Array Value) = cU ⟨sc.data.toList, [], [], none0, -1, [], E.data.toList, [], [], false, false⟩ (.slice none 0 0) := by
      simp only [cU, tb_of]; rfl
    clear hU hE hE' hq hb hw ht
    cases b
    · go_enter Tryz.func66, Tryz.ntmps66
      go_wp2_with fail
      rw [zero_url]
      generalize w.alloc (.cells (cU none1 (.slice none 0 0)) 27) = W at HB0 HR0 HM HS0 ⊢
      refine (CW.out _).mono ?_
      rintro e u1 ⟨rfl, rfl⟩
      go_wp2_with fail
      refine (CO.out _).mono ?_
      rintro e u1 ⟨rfl, rfl⟩
      go_wp2_with fail
      refine (need_no _).mono ?_
      rintro e u1 ⟨rfl, rfl⟩
      unfold gone
      go_wp2
      exact ⟨rfl, .inl ⟨trivial, rfl, HB0.out⟩⟩
    · go_enter Tryz.func66, Tryz.ntmps66
      go_wp2_with fail
      rw [zero_url]
      generalize w.alloc (.cells (cU none1 (.slice none 0 0)) 27) = W at HB0 HR0 HM HS0 ⊢
      refine (CW.out _).mono ?_
      rintro e u1 ⟨rfl, rfl⟩
      go_wp2_with fail
      refine (CO.out _).mono ?_
      rintro e u1 ⟨rfl, rfl⟩
      go_wp2_with fail
      refine (need_yes _).mono ?_
      rintro e u1 ⟨rfl, rfl⟩
      go_wp2_with fail
      refine (CE.out _).mono ?_
      rintro e u2 ⟨rfl, hB2⟩
      have HR2 := HR0.out.later hB2
      have HB2 := Lib.hid (Ascii.below2 HB0.out hB2)
      clear hB2 HB0 HR0 HM HS0
      go_wp2_with ((with_reducible refine wp_store27 (o := ⟨none, .store 27 (.tmp 4) (.tmp 16), _, _, _, _⟩) ?_ (.tmp 4) (.tmp 16) ?_ w.heap.size ?_ ⟨sc.data.toList, [], [], none0, -1, [], E.data.toList, [], [], false, false⟩ (.slice none 0 0) ?_ rfl rfl none1 (.slice none 0 0) rfl HR2 ?_); (· rfl); (· rfl); (· rfl); (· exact congrArg Value.agg hlit))
      have hfin := HR2.row ⟨sc.data.toList, [], [], none0, -1, [], E.data.toList, [], [], false, false⟩ (.slice none 0 0)
      exact bodyPost_ret (ret_url rfl w.heap.size _ (.slice none 0 0) rfl rfl hfin) rfl (.inr ⟨trivial, _, rfl, Path.Strs.nil _, (fun b o s n c e => by cases e), below_row HB2.out (Nat.le_refl _) _⟩)
  · have hq : (!decide (webI sc.data.toList = 0)) = true := by rw [decide_eq_false hw]; rfl
    have CW := Lib.hid (fun u => isWeb_any sc true hq u)
    have ho : opB sc.data.toList = false := by
      cases h : opB sc.data.toList
      · rfl
      · exact absurd (web_op _ h) hw
    unfold aheadB at hb
    rw [hq, ho, Bool.true_and, Bool.or_false] at hb
    have CO := Lib.hid (fun u hu => ofWeb_any sc t ht b hb m u hu)
    have hU : aheadU sc.data.toList t.data.toList = webU sc.data.toList t.data.toList := by unfold aheadU; rw [if_neg hw]
    rw [hU]
    have H8 := web8 sc.data.toList t.data.toList
    generalize webU sc.data.toList t.data.toList = v at CO H8 ⊢
    clear hU hq hb hw ho ht
    go_enter Tryz.func66, Tryz.ntmps66
    go_wp2_with fail
    rw [zero_url]
    generalize w.alloc (.cells (cU none1 (.slice none 0 0)) 27) = W at HB0 HR0 HM HS0 ⊢
    refine (CW.out _).mono ?_
    rintro e u1 ⟨rfl, rfl⟩
    go_wp2_with fail
    refine (CO.out _ HM.out).mono ?_
    rintro e u1 (⟨hb, rfl, hB1⟩ | ⟨hb, pv, rfl, hst, hn, hB1⟩)
    · unfold gone
      go_wp2
      exact ⟨rfl, .inl ⟨hb, rfl, Ascii.below2 HB0.out hB1⟩⟩
    · have HR1 := HR0.out.later hB1
      have HB1 := Lib.hid (Ascii.below2 HB0.out hB1)
      have HST := Lib.hid hst
      have hone := strs_one hst
      have HN := Lib.hid (show Path.New (w.heap.size + 1) pv from hn.mono (by omega))
      clear hB1 HB0 HR0 HM hst hn HS0
      go_wp2_with ((with_reducible refine wp_store27 (o := ⟨none, .store 27 (.tmp 4) (.tmp 9), _, _, _, _⟩) ?_ (.tmp 4) (.tmp 9) ?_ w.heap.size ?_ v pv ?_ H8 hone none1 (.slice none 0 0) rfl HR1 ?_); (· rfl); (· rfl); (· rfl); (· rfl))
      have hfin := HR1.row v pv
      exact bodyPost_ret (ret_url rfl w.heap.size _ pv H8 rfl hfin) rfl (.inr ⟨hb, pv, rfl, strs_other w.heap.size HST.out HN.out (fun k hk => setRow_other _ _ _ (Ne.symm hk)), HN.out.mono (Nat.le_succ _), below_row HB1.out (Nat.le_refl _) _⟩)

theorem UrlAt.free {w : World} {g : Nat} {u : U} {pv : Value} (a : UrlAt w g u pv) (j : Nat) : w.frozen? ⟨g, j, none⟩ = false := by
  unfold World.frozen?
  simp only
  rw [show w.heap[g]? = _ from a]
  simp

set_option maxHeartbeats 8000000 in
theorem parsed_any (s : ByteArray) (hs : s.size ≤ 25000) (b : Bool) (hb : okS s.data.toList = b) (m : Int) (w : World) (hm : Six.At m w) :
    Calls Tryz.prog 44 #[.string s] w fun e w' => (b = false ∧ e = gone ∧ Below w.heap.size w w') ∨ (b = true ∧ Got w (parS s.data.toList) e w') := by
  have HB0 := Lib.hid (show Below w.heap.size w (w.alloc (.cells (cU none1 (.slice none 0 0)) 27)) from (Below.refl _ w).alloc (Nat.le_refl _) _)
  have HR0 := Lib.hid (UrlAt.new w none1 (.slice none 0 0))
  have HS0 := Lib.hid (show (w.alloc (.cells (cU none1 (.slice none 0 0)) 27)).heap.size = w.heap.size + 1 from Array.size_push _)
  have HM := Lib.hid (hm.later HB0.out)
  clear hm
  obtain ⟨x, hx⟩ : ∃ x, tb (schS s.data.toList) = x := ⟨_, rfl⟩
  obtain ⟨y, hy⟩ : ∃ y, tb (schR s.data.toList) = y := ⟨_, rfl⟩
  have hy1 : y.size ≤ 25000 := by
    rw [size_tb hy]
    unfold schR
    split
    · exact Nat.le_trans (aft_len _ _) hs
    · exact Nat.zero_le _
  cases hB : schB s.data.toList
  · have CS := Lib.hid (fun u hu => scheme_any s (by omega) x y false hx hy hB m u hu)
    have hb' : b = false := by rw [← hb]; unfold okS; rw [hB]; rfl
    subst hb'
    clear hb hB hx hy hy1 hs
    go_enter Tryz.func44, Tryz.ntmps44
    go_wp2_with fail
    rw [zero_url]
    generalize w.alloc (.cells (cU none1 (.slice none 0 0)) 27) = W at HB0 HR0 HM HS0 ⊢
    refine (CS.out _ HM.out).mono ?_
    rintro e u1 ⟨rfl, hB1⟩
    go_wp2_with fail
    refine (need_no _).mono ?_
    rintro e u2 ⟨rfl, rfl⟩
    unfold gone
    go_wp2
    exact ⟨rfl, .inl ⟨trivial, rfl, Ascii.below2 HB0.out hB1⟩⟩
  · have CS := Lib.hid (fun u hu => scheme_any s (by omega) x y true hx hy hB m u hu)
    have hyl := list_tb hy
    have hxl := list_tb hx
    obtain ⟨t, ht⟩ : ∃ t, tb (tA y.data.toList) = t := ⟨_, rfl⟩
    obtain ⟨q, hq⟩ : ∃ q, tb (tQ y.data.toList) = q := ⟨_, rfl⟩
    obtain ⟨f, hf⟩ : ∃ f, tb (tF y.data.toList) = f := ⟨_, rfl⟩
    obtain ⟨hasq, hhq⟩ : ∃ c, tHQ y.data.toList = c := ⟨_, rfl⟩
    obtain ⟨hasf, hhf⟩ : ∃ c, tHF y.data.toList = c := ⟨_, rfl⟩
    have ht1 : t.size ≤ 25000 := by rw [size_tb ht]; exact Nat.le_trans (Nat.le_trans (bef_len _ _) (bef_len _ _)) hy1
    have hq1 : q.size ≤ 25000 := by rw [size_tb hq]; exact Nat.le_trans (Nat.le_trans (aft_len _ _) (bef_len _ _)) hy1
    have hf1 : f.size ≤ 25000 := by rw [size_tb hf]; exact Nat.le_trans (aft_len _ _) hy1
    have CT := Lib.hid (fun u hu => tail_any y (by omega) t q f hasq hasf ht hq hf hhq hhf m u hu)
    have hb2 : aheadB x.data.toList t.data.toList = b := by
      rw [← hb, list_tb ht, hyl, hxl]
      unfold okS aheadB
      rw [hB, Bool.true_and]
    have CA := Lib.hid (fun u hu => ahead_any x t ht1 b hb2 m u hu)
    have CQ := Lib.hid (fun u => Pct.encode_any q (by omega) 2 u)
    have CF := Lib.hid (fun u => Pct.encode_any f (by omega) 1 u)
    have hP : b = true → parS s.data.toList = { aheadU x.data.toList t.data.toList with qry := Pct.encode 2 q.data.toList, frg := Pct.encode 1 f.data.toList, hq := hasq, hf := hasf } := by
      intro hbt
      unfold parS
      rw [hb, hbt, if_pos rfl]
      unfold tailU
      rw [list_tb ht, list_tb hq, list_tb hf, ← hhq, ← hhf, hyl, hxl]
    have H8 := Lib.hid (ahead8 x.data.toList t.data.toList)
    generalize aheadU x.data.toList t.data.toList = v at CA hP H8
    generalize parS s.data.toList = V at hP ⊢
    have HP := Lib.hid hP
    have hE2 : (⟨(Pct.encode 2 q.data.toList).toArray⟩ : ByteArray) = tb (Pct.encode 2 q.data.toList) := rfl
    have hE1 : (⟨(Pct.encode 1 f.data.toList).toArray⟩ : ByteArray) = tb (Pct.encode 1 f.data.toList) := rfl
    rw [hE2] at CQ
    rw [hE1] at CF
    generalize Pct.encode 2 q.data.toList = Q at CQ HP
    generalize Pct.encode 1 f.data.toList = F at CF HP
    clear hP hE1 hE2 hb2 ht1 hq1 hf1 ht hq hf hhq hhf hb hB hx hy hyl hxl hy1 hs
    go_enter Tryz.func44, Tryz.ntmps44
    go_wp2_with fail
    rw [zero_url]
    generalize w.alloc (.cells (cU none1 (.slice none 0 0)) 27) = W at HB0 HR0 HM HS0 ⊢
    refine (CS.out _ HM.out).mono ?_
    rintro e u1 ⟨rfl, hB1⟩
    have HM1 := Lib.hid (HM.out.later hB1)
    have HR1 := Lib.hid (HR0.out.later hB1)
    have HB1 := Lib.hid hB1
    clear CS hB1 HM HR0
    go_wp2_with fail
    refine (need_yes _).mono ?_
    rintro e u2 ⟨rfl, rfl⟩
    go_wp2_with fail
    refine (CT.out _ HM1.out).mono ?_
    rintro e u2 ⟨rfl, hB2⟩
    have HM2 := Lib.hid (HM1.out.later hB2)
    have HR2 := Lib.hid (HR1.out.later hB2)
    have HB2 := Lib.hid (Ascii.below2 HB1.out hB2)
    clear CT hB2 HM1 HR1 HB1
    go_wp2_with fail
    refine (CA.out _ HM2.out).mono ?_
    rintro e u4 (⟨hb, rfl, hB4⟩ | ⟨hb, pv, rfl, hst, hn, hB4⟩)
    · unfold gone
      go_wp2
      exact ⟨rfl, .inl ⟨hb, rfl, Ascii.below3 HB0.out HB2.out hB4⟩⟩
    · have HST := Lib.hid hst
      have hone := strs_one hst
      have HN := Lib.hid (show Path.New (w.heap.size + 1) pv from hn.mono (by have := HB2.out.size; rw [HS0.out] at this; exact this))
      have HR4 := Lib.hid (HR2.out.later hB4)
      have HB4 := Lib.hid (Ascii.below3 HB0.out HB2.out hB4)
      have HP4 := Lib.hid (HP.out hb)
      have HT4 := Lib.hid hb
      clear CA hB4 HM2 HR2 hst hn HB2 HB0 HS0 HP hb
      have hnew : UrlAt (u4.alloc (.cells #[.string ⟨#[]⟩, .string ⟨#[]⟩, .string ⟨#[]⟩, .int .i64 0, .string ⟨#[]⟩, .int .i64 0, .int .i64 0, .int .i64 0, .int .i64 0, .int .i64 0, .int .i64 0, .int .i64 0, .int .i64 0, .int .i64 0, .int .i64 0, .slice none 0 0, .string ⟨#[]⟩, .string ⟨#[]⟩, .string ⟨#[]⟩, .bool false, .bool false] 27)) u4.heap.size none1 (.slice none 0 0) := UrlAt.new u4 none1 (.slice none 0 0)
      have HC5 := Lib.hid (below_row ((Below.refl u4.heap.size u4).alloc (Nat.le_refl _) (.cells #[.string ⟨#[]⟩, .string ⟨#[]⟩, .string ⟨#[]⟩, .int .i64 0, .string ⟨#[]⟩, .int .i64 0, .int .i64 0, .int .i64 0, .int .i64 0, .int .i64 0, .int .i64 0, .int .i64 0, .int .i64 0, .int .i64 0, .int .i64 0, .slice none 0 0, .string ⟨#[]⟩, .string ⟨#[]⟩, .string ⟨#[]⟩, .bool false, .bool false] 27)) (Nat.le_refl _) (cU v pv))
      have HU5 := Lib.hid (hnew.row v pv)
      go_wp2_with ((with_reducible refine wp_store27 (o := ⟨none, .store 27 (.tmp 11) (.tmp 30), _, _, _, _⟩) ?_ (.tmp 11) (.tmp 30) ?_ u4.heap.size ?_ v pv ?_ H8.out hone none1 (.slice none 0 0) rfl hnew ?_); (· rfl); (· rfl); (· rfl); (· rfl))
      generalize (u4.alloc (.cells #[.string ⟨#[]⟩, .string ⟨#[]⟩, .string ⟨#[]⟩, .int .i64 0, .string ⟨#[]⟩, .int .i64 0, .int .i64 0, .int .i64 0, .int .i64 0, .int .i64 0, .int .i64 0, .int .i64 0, .int .i64 0, .int .i64 0, .int .i64 0, .slice none 0 0, .string ⟨#[]⟩, .string ⟨#[]⟩, .string ⟨#[]⟩, .bool false, .bool false] 27)).setRow u4.heap.size (cU v pv) = u5 at HC5 HU5 ⊢
      clear hnew
      obtain ⟨g, hg⟩ : ∃ g, u4.heap.size = g := ⟨_, rfl⟩
      have HG := Lib.hid hg
      rw [hg] at HU5 ⊢
      clear hg
      refine (CQ.out _).mono ?_
      rintro e u6 ⟨rfl, hB6⟩
      have HU6 := Lib.hid (HU5.out.later hB6)
      have HC6 := Lib.hid (below_trans HC5.out hB6)
      clear CQ hB6 HU5 HC5
      have c17 := HU6.out.cell 17
      rw [(cU_at v pv H8.out).2.2.2.2.2.2.2.1] at c17
      have c19 := HU6.out.cell 19
      rw [(cU_at v pv H8.out).2.2.2.2.2.2.2.2.2.1] at c19
      have f17 := HU6.out.free 17
      have f19 := HU6.out.free 19
      go_wp2_with fail
      have HU7 := Lib.hid ((HU6.out.qry H8.out Q).hq H8.out hasq)
      have HC7 := Lib.hid (below_set (below_set HC6.out (Nat.le_of_eq HG.out) 17 (.string (tb Q))) (Nat.le_of_eq HG.out) 19 (.bool hasq))
      generalize (u6.setCell ⟨g, 17, none⟩ (.string (tb Q))).setCell ⟨g, 19, none⟩ (.bool hasq) = u7 at HU7 HC7 ⊢
      clear c17 c19 f17 f19 HU6 HC6
      refine (CF.out _).mono ?_
      rintro e u8 ⟨rfl, hB8⟩
      have HU8 := Lib.hid (HU7.out.later hB8)
      have HC8 := Lib.hid (below_trans HC7.out hB8)
      clear CF hB8 HU7 HC7
      have c18 := HU8.out.cell 18
      rw [(cU_at _ pv (by exact H8.out)).2.2.2.2.2.2.2.2.1] at c18
      have c20 := HU8.out.cell 20
      rw [(cU_at _ pv (by exact H8.out)).2.2.2.2.2.2.2.2.2.2] at c20
      have f18 := HU8.out.free 18
      have f20 := HU8.out.free 20
      have HU9 := Lib.hid (show UrlAt ((u8.setCell ⟨g, 18, none⟩ (.string (tb F))).setCell ⟨g, 20, none⟩ (.bool hasf)) g V pv from by rw [HP4.out]; exact (HU8.out.frg (by exact H8.out) F).hf (by exact H8.out) hasf)
      have HC9 := Lib.hid (below_set (below_set HC8.out (Nat.le_of_eq HG.out) 18 (.string (tb F))) (Nat.le_of_eq HG.out) 20 (.bool hasf))
      have HR9 := Lib.hid (HR4.out.later HC9.out)
      have H8V : V.h.p.length = 8 := by rw [HP4.out]; exact H8.out
      have HVp : V.path = v.path := by rw [HP4.out]
      go_wp2_with (first
        | ((with_reducible refine wp_load27 (o := ⟨some 41, .load 27 (.tmp 11), _, _, _, _⟩) ?_ (.tmp 11) ?_ g ?_ V pv H8V HU9.out ?_); (· rfl); (· rfl); (· rfl))
        | ((with_reducible refine wp_store27 (o := ⟨none, .store 27 (.tmp 2) (.tmp 41), _, _, _, _⟩) ?_ (.tmp 2) (.tmp 41) ?_ w.heap.size ?_ V pv ?_ H8V hone none1 (.slice none 0 0) rfl HR9.out ?_); (· rfl); (· rfl); (· rfl); (· rfl)))
      have hfin := HR9.out.row V pv
      have hstr : Strs ((u8.setCell ⟨g, 18, none⟩ (.string (tb F))).setCell ⟨g, 20, none⟩ (.bool hasf)) pv V.path := by rw [HVp]; exact HST.out.later HC9.out
      exact bodyPost_ret (ret_url rfl w.heap.size _ pv H8V rfl hfin) rfl (.inr ⟨HT4.out, pv, rfl, strs_other w.heap.size hstr HN.out (fun k hk => setRow_other _ _ _ (Ne.symm hk)), HN.out.mono (Nat.le_succ _), below_row (Ascii.below2 HB4.out HC9.out) (Nat.le_refl _) _⟩)

end Go.Proofs.YtlkikfdbjpjpaaaGreatDoor.Url

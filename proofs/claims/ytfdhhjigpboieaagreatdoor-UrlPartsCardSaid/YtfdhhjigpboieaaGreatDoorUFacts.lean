/-
  What package url answers, as plain functions of lists, and what follows of them.
-/
import Derived.Test.YtfdhhjigpboieaaGreatDoorUCut
namespace Go.Proofs.YtfdhhjigpboieaaGreatDoor.Url
open Host (H parH okH none0 mayH showH domB brkB inner)
open Six (zero8)
set_option linter.unusedSimpArgs false
set_option linter.unusedVariables false

def nameB (c : UInt8) : Bool := Ascii.alphaB (c.toNat : Int) || (Ascii.digitB (c.toNat : Int) || (decide ((c.toNat : Int) = 43) || (decide ((c.toNat : Int) = 45) || decide ((c.toNat : Int) = 46))))
def headB : T → Bool
  | [] => false
  | c :: _ => Ascii.alphaB (c.toNat : Int)
def named (l : T) : Bool := l.all nameB && headB l
def schB (l : T) : Bool := l.contains 58 && named (bef 58 l)
def schS (l : T) : T := if schB l then Ascii.lower (bef 58 l) else []
def schR (l : T) : T := if schB l then aft 58 l else []
def tA (l : T) : T := bef 63 (bef 35 l)
def tQ (l : T) : T := aft 63 (bef 35 l)
def tF (l : T) : T := aft 35 l
def tHQ (l : T) : Bool := (bef 35 l).contains 63
def tHF (l : T) : Bool := l.contains 35
def http : T := [104, 116, 116, 112]
def https : T := [104, 116, 116, 112, 115]
def about : T := [97, 98, 111, 117, 116]
def data : T := [100, 97, 116, 97]
def blob : T := [98, 108, 111, 98]
def webI (l : T) : Int := if l = http then 80 else if l = https then 443 else 0
def opB (l : T) : Bool := (l == about) || ((l == data) || (l == blob))

def place (l : T) : T := laft 64 l
def user (l : T) : T := bef 58 (lbef 64 l)
def pass (l : T) : T := aft 58 (lbef 64 l)
def inside (p : T) : Nat := if Lib.hasPrefix p [91] && p.contains 93 then (bef 93 p).length else 0
def hname (p : T) : T := p.take (inside p) ++ bef 58 (p.drop (inside p))
def digs (p : T) : T := aft 58 (p.drop (inside p))
def portB (d : T) : Bool := d.isEmpty || Deci.readB d 65535
def portI (sc d : T) : Int := if d.isEmpty then -1 else if (Deci.valN d : Int) = webI sc then -1 else (Deci.valN d : Int)

def auth (t : T) : T := bef 47 (t.drop 2)
def segT (t : T) : T := aft 47 (t.drop 2)
def webB (t : T) : Bool := Lib.hasPrefix t [47, 47] && (okH (hname (place (auth t))) && portB (digs (place (auth t))))

structure U where
  sch : T
  usr : T
  pas : T
  h : H
  port : Int
  path : List T
  opq : T
  qry : T
  frg : T
  hq : Bool
  hf : Bool
def none1 : U := ⟨[], [], [], none0, 0, [], [], [], [], false, false⟩

def okS (s : T) : Bool := schB s && ((!decide (webI (schS s) = 0) && webB (tA (schR s))) || opB (schS s))
def webU (sc t : T) : U := ⟨sc, Pct.encode 4 (user (auth t)), Pct.encode 4 (pass (auth t)), parH (hname (place (auth t))), portI sc (digs (place (auth t))), Path.parse (47 :: segT t), [], [], [], false, false⟩
def opqU (sc t : T) : U := ⟨sc, [], [], none0, -1, [], Pct.encode 1 t, [], [], false, false⟩
def aheadU (sc t : T) : U := if webI sc = 0 then opqU sc t else webU sc t
def tailU (u : U) (r : T) : U := { u with qry := Pct.encode 2 (tQ r), frg := Pct.encode 1 (tF r), hq := tHQ r, hf := tHF r }
def parS (s : T) : U := if okS s then tailU (aheadU (schS s) (tA (schR s))) (schR s) else none1
def okU (raw : T) : Bool := okS (Ascii.clean raw)
def parU (raw : T) : U := parS (Ascii.clean raw)

def tailB (u : U) : Bool := (Pct.readyB 2 u.qry && (u.hq || u.qry.isEmpty)) && (Pct.readyB 1 u.frg && (u.hf || u.frg.isEmpty))
def mayPort (u : U) : Bool := decide (-1 ≤ u.port) && (decide (u.port ≤ 65535) && !decide (u.port = webI u.sch))
def mayWeb (u : U) : Bool := mayH u.h && (Pct.readyB 4 u.usr && (Pct.readyB 4 u.pas && (Path.mayP u.path && (u.opq.isEmpty && mayPort u))))
def mayOpq (u : U) : Bool := Pct.readyB 1 u.opq && ((!u.opq.contains 63 && !u.opq.contains 35) && (decide (u.port = -1) && (Host.sameH u.h none0 && (u.usr.isEmpty && (u.pas.isEmpty && u.path.isEmpty)))))
def mayU (u : U) : Bool := tailB u && (if webI u.sch = 0 then opB u.sch && mayOpq u else mayWeb u)
def sameU (u v : U) : Bool := u.sch == v.sch && (u.usr == v.usr && (u.pas == v.pas && (Host.sameH u.h v.h && (u.port == v.port && (u.path == v.path && (u.opq == v.opq && (u.qry == v.qry && (u.hq == v.hq && (u.frg == v.frg && u.hf == v.hf)))))))))
theorem same_iff (u v : U) : sameU u v = true ↔ u = v := by
  unfold sameU
  simp only [Bool.and_eq_true, beq_iff_eq, Host.same_iff]
  cases u; cases v
  simp only [U.mk.injEq]
  constructor
  · rintro ⟨h1, h2, h3, h4, h5, h6, h7, h8, h9, h10, h11⟩; exact ⟨h1, h2, h3, h4, h5, h6, h7, h8, h10, h9, h11⟩
  · rintro ⟨h1, h2, h3, h4, h5, h6, h7, h8, h9, h10, h11⟩; exact ⟨h1, h2, h3, h4, h5, h6, h7, h8, h10, h9, h11⟩

/-! ## schemes -/
theorem web_op (l : T) (h : opB l = true) : webI l = 0 := by
  unfold opB at h
  simp only [Bool.or_eq_true, beq_iff_eq] at h
  rcases h with rfl | rfl | rfl <;> decide
theorem web_cases (l : T) : (l = http ∧ webI l = 80) ∨ (l = https ∧ webI l = 443) ∨ webI l = 0 := by
  unfold webI
  by_cases h : l = http
  · exact .inl ⟨h, by rw [if_pos h]⟩
  · by_cases h2 : l = https
    · exact .inr (.inl ⟨h2, by rw [if_neg h, if_pos h2]⟩)
    · exact .inr (.inr (by rw [if_neg h, if_neg h2]))
theorem name_all : ∀ n : Fin 256, nameB (UInt8.ofNat n.val) = true → (32 < n.val ∧ n.val < 127 ∧ n.val ≠ 58 ∧ n.val ≠ 35 ∧ n.val ≠ 63 ∧ nameB (Ascii.lowB (UInt8.ofNat n.val)) = true ∧ (let m := (Ascii.lowB (UInt8.ofNat n.val)).toNat; (97 ≤ m ∧ m ≤ 122) ∨ (48 ≤ m ∧ m ≤ 57) ∨ m = 43 ∨ m = 45 ∨ m = 46)) := by decide +kernel
theorem name_at (c : UInt8) (h : nameB c = true) : 32 < c.toNat ∧ c.toNat < 127 ∧ c.toNat ≠ 58 ∧ c.toNat ≠ 35 ∧ c.toNat ≠ 63 ∧ nameB (Ascii.lowB c) = true ∧ (let m := (Ascii.lowB c).toNat; (97 ≤ m ∧ m ≤ 122) ∨ (48 ≤ m ∧ m ≤ 57) ∨ m = 43 ∨ m = 45 ∨ m = 46) := by
  have := name_all ⟨c.toNat, c.toNat_lt⟩
  simp only [UInt8.ofNat_toNat] at this
  exact this h
theorem head_all : ∀ n : Fin 256, Ascii.alphaB ((UInt8.ofNat n.val).toNat : Int) = true → (Ascii.alphaB ((Ascii.lowB (UInt8.ofNat n.val)).toNat : Int) = true ∧ 97 ≤ (Ascii.lowB (UInt8.ofNat n.val)).toNat ∧ (Ascii.lowB (UInt8.ofNat n.val)).toNat ≤ 122) := by decide +kernel
theorem head_at (c : UInt8) (h : Ascii.alphaB (c.toNat : Int) = true) : Ascii.alphaB ((Ascii.lowB c).toNat : Int) = true ∧ 97 ≤ (Ascii.lowB c).toNat ∧ (Ascii.lowB c).toNat ≤ 122 := by
  have := head_all ⟨c.toNat, c.toNat_lt⟩
  simp only [UInt8.ofNat_toNat] at this
  exact this h
theorem named_iff (l : T) : named l = true ↔ (∀ c ∈ l, nameB c = true) ∧ headB l = true := by unfold named; rw [Bool.and_eq_true, List.all_eq_true]
theorem named_low (l : T) (h : named l = true) : named (Ascii.lower l) = true := by
  rw [named_iff] at h ⊢
  refine ⟨fun c hc => ?_, ?_⟩
  · obtain ⟨x, hx, rfl⟩ := List.mem_map.1 (show c ∈ l.map Ascii.lowB from hc)
    exact (name_at x (h.1 x hx)).2.2.2.2.2.1
  · cases l with
    | nil => exact absurd h.2 (by simp [headB])
    | cons c r => exact (head_at c h.2).1
theorem named_no {l : T} (h : named l = true) : (58 : UInt8) ∉ l ∧ (35 : UInt8) ∉ l ∧ (63 : UInt8) ∉ l := by
  rw [named_iff] at h
  refine ⟨fun hm => ?_, fun hm => ?_, fun hm => ?_⟩
  · exact (name_at _ (h.1 _ hm)).2.2.1 rfl
  · exact (name_at _ (h.1 _ hm)).2.2.2.1 rfl
  · exact (name_at _ (h.1 _ hm)).2.2.2.2.1 rfl
theorem sch_parts {l : T} (h : schB l = true) : l = bef 58 l ++ 58 :: aft 58 l ∧ named (bef 58 l) = true ∧ schS l = Ascii.lower (bef 58 l) ∧ schR l = aft 58 l := by
  have h' := h
  unfold schB at h'
  rw [Bool.and_eq_true] at h'
  exact ⟨whole _ _ ((has_iff _ _).1 h'.1), h'.2, by unfold schS; rw [if_pos h], by unfold schR; rw [if_pos h]⟩
theorem sch_of (n r : T) (h : named n = true) : schB (n ++ 58 :: r) = true ∧ schS (n ++ 58 :: r) = Ascii.lower n ∧ schR (n ++ 58 :: r) = r := by
  have h0 := (named_no h).1
  have h1 : schB (n ++ 58 :: r) = true := by
    unfold schB
    rw [bef_at _ _ h0, h, has_yes (by simp)]; rfl
  exact ⟨h1, by unfold schS; rw [if_pos h1, bef_at _ _ h0], by unfold schR; rw [if_pos h1, aft_at _ _ h0]⟩
theorem sch_again {l : T} (h : schB l = true) : schB (schS l ++ 58 :: schR l) = true ∧ schS (schS l ++ 58 :: schR l) = schS l ∧ schR (schS l ++ 58 :: schR l) = schR l := by
  obtain ⟨h1, h2, h3, h4⟩ := sch_parts h
  have := sch_of (Ascii.lower (bef 58 l)) (schR l) (named_low _ h2)
  rw [h3]
  exact ⟨this.1, by rw [this.2.1, Ascii.lower_lower], this.2.2⟩

/-! ## the tail -/
theorem tail_no (l : T) : (35 : UInt8) ∉ tA l ∧ (63 : UInt8) ∉ tA l := ⟨fun h => bef_not 35 l (bef_sub _ _ _ h), bef_not _ _⟩
theorem tA_of (t : T) (h1 : (35 : UInt8) ∉ t) (h2 : (63 : UInt8) ∉ t) : tA t = t ∧ tQ t = [] ∧ tF t = [] ∧ tHQ t = false ∧ tHF t = false := by
  unfold tA tQ tF tHQ tHF
  rw [bef_no _ h1, bef_no _ h2, aft_no _ h2, aft_no _ h1, has_no h2, has_no h1]
  exact ⟨rfl, rfl, rfl, rfl, rfl⟩
theorem tail_of (t q f : T) (h1 : (35 : UInt8) ∉ t) (h2 : (63 : UInt8) ∉ t) (hq : (35 : UInt8) ∉ q) :
    tA (t ++ 63 :: (q ++ 35 :: f)) = t ∧ tQ (t ++ 63 :: (q ++ 35 :: f)) = q ∧ tF (t ++ 63 :: (q ++ 35 :: f)) = f ∧ tHQ (t ++ 63 :: (q ++ 35 :: f)) = true ∧ tHF (t ++ 63 :: (q ++ 35 :: f)) = true := by
  have e : t ++ 63 :: (q ++ 35 :: f) = (t ++ 63 :: q) ++ 35 :: f := by simp
  have hm : (35 : UInt8) ∉ t ++ 63 :: q := by simp [h1, hq]
  unfold tA tQ tF tHQ tHF
  rw [e, bef_at _ _ hm, aft_at _ _ hm, bef_at _ _ h2, aft_at _ _ h2, has_yes (by simp), has_yes (by simp)]
  exact ⟨rfl, rfl, rfl, rfl, rfl⟩
theorem tail_ofq (t q : T) (h1 : (35 : UInt8) ∉ t) (h2 : (63 : UInt8) ∉ t) (hq : (35 : UInt8) ∉ q) :
    tA (t ++ 63 :: q) = t ∧ tQ (t ++ 63 :: q) = q ∧ tF (t ++ 63 :: q) = [] ∧ tHQ (t ++ 63 :: q) = true ∧ tHF (t ++ 63 :: q) = false := by
  have hm : (35 : UInt8) ∉ t ++ 63 :: q := by simp [h1, hq]
  unfold tA tQ tF tHQ tHF
  rw [bef_no _ hm, aft_no _ hm, bef_at _ _ h2, aft_at _ _ h2, has_yes (by simp), has_no hm]
  exact ⟨rfl, rfl, rfl, rfl, rfl⟩

/-! ## what is parsed may be -/
theorem enc_free (set : Int) (d : UInt8) (hd : ∀ n : Fin 16, Pct.hexC n.val ≠ d) (h37 : d ≠ 37) (l : T) (h : d ∉ l) : d ∉ Pct.encode set l := by
  induction l with
  | nil => simp [Pct.encode]
  | cons c r ih =>
    simp only [List.mem_cons, not_or] at h
    rw [Pct.encode_cons, List.mem_append, not_or]
    refine ⟨?_, ih h.2⟩
    unfold Pct.enc1
    split
    · simp only [List.mem_cons, List.not_mem_nil, or_false, not_or]
      exact ⟨h37, fun e => hd ⟨c.toNat / 16, (Pct.div16 c).1⟩ e.symm, fun e => hd ⟨c.toNat % 16, (Pct.div16 c).2⟩ e.symm⟩
    · simpa using h.1
theorem hex35 : ∀ n : Fin 16, Pct.hexC n.val ≠ 35 := by decide +kernel
theorem hex63 : ∀ n : Fin 16, Pct.hexC n.val ≠ 63 := by decide +kernel
theorem enc_nil (set : Int) : Pct.encode set [] = [] := rfl
theorem tail_may (u : U) (r : T) : tailB (tailU u r) = true := by
  unfold tailB tailU
  simp only [Pct.ready_encode, Bool.true_and, Bool.and_eq_true, Bool.or_eq_true]
  refine ⟨?_, ?_⟩
  · cases h : tHQ r
    · right
      unfold tHQ at h
      have : (63 : UInt8) ∉ bef 35 r := fun hm => by rw [has_yes hm] at h; cases h
      unfold tQ; rw [aft_no _ this]; rfl
    · exact .inl rfl
  · cases h : tHF r
    · right
      unfold tHF at h
      have : (35 : UInt8) ∉ r := fun hm => by rw [has_yes hm] at h; cases h
      unfold tF; rw [aft_no _ this]; rfl
    · exact .inl rfl
theorem port_may (sc d : T) (h : portB d = true) (hw : webI sc ≠ 0) : -1 ≤ portI sc d ∧ portI sc d ≤ 65535 ∧ portI sc d ≠ webI sc := by
  have hneg : (-1 : Int) ≠ webI sc := by rcases web_cases sc with ⟨_, h⟩ | ⟨_, h⟩ | h <;> rw [h] <;> decide
  unfold portI
  split
  · exact ⟨by omega, by omega, hneg⟩
  · rename_i hd
    split
    · exact ⟨by omega, by omega, hneg⟩
    · rename_i hn
      unfold portB at h
      rw [Bool.or_eq_true] at h
      rcases h with h | h
      · exact absurd h hd
      · unfold Deci.readB at h
        rw [Bool.and_eq_true, decide_eq_true_eq] at h
        exact ⟨by omega, h.2, hn⟩
theorem webU_may (sc t : T) (r : T) (hw : webI sc ≠ 0) (h : webB t = true) : mayU (tailU (webU sc t) r) = true := by
  unfold webB at h
  simp only [Bool.and_eq_true] at h
  obtain ⟨h0, h1, h2⟩ := h
  obtain ⟨p1, p2, p3⟩ := port_may sc _ h2 hw
  unfold mayU
  rw [tail_may, if_neg (by exact hw)]
  unfold mayWeb mayPort tailU webU
  simp only [Host.par_may _ h1, Pct.ready_encode, Path.parse_may, p1, p2, p3, decide_true, decide_false, Bool.true_and, Bool.not_false, Bool.and_self, List.isEmpty_nil]
theorem opqU_may (sc t : T) (r : T) (ho : opB sc = true) (h1 : (35 : UInt8) ∉ t) (h2 : (63 : UInt8) ∉ t) : mayU (tailU (opqU sc t) r) = true := by
  unfold mayU
  rw [tail_may, if_pos (by exact web_op sc ho)]
  unfold mayOpq tailU opqU
  simp only [ho, Pct.ready_encode, has_no (enc_free 1 63 hex63 (by decide) t h2), has_no (enc_free 1 35 hex35 (by decide) t h1), Host.same_refl, decide_true, Bool.true_and, Bool.not_false, Bool.and_self, List.isEmpty_nil]
theorem okS_ways {s : T} (h : okS s = true) : schB s = true ∧ ((webI (schS s) ≠ 0 ∧ webB (tA (schR s)) = true ∧ parS s = tailU (webU (schS s) (tA (schR s))) (schR s)) ∨
    (webI (schS s) = 0 ∧ opB (schS s) = true ∧ parS s = tailU (opqU (schS s) (tA (schR s))) (schR s))) := by
  have h' := h
  unfold okS at h'
  simp only [Bool.and_eq_true, Bool.or_eq_true, Bool.not_eq_true', decide_eq_false_iff_not] at h'
  refine ⟨h'.1, ?_⟩
  unfold parS aheadU
  rw [if_pos h]
  rcases h'.2 with ⟨h1, h2⟩ | h1
  · exact .inl ⟨h1, h2, by rw [if_neg h1]⟩
  · have := web_op _ h1
    exact .inr ⟨this, h1, by rw [if_pos this]⟩
theorem par_may (s : T) (h : okS s = true) : mayU (parS s) = true := by
  obtain ⟨h0, ⟨h1, h2, h3⟩ | ⟨h1, h2, h3⟩⟩ := okS_ways h
  · rw [h3]; exact webU_may _ _ _ h1 h2
  · rw [h3]; exact opqU_may _ _ _ h2 (tail_no _).1 (tail_no _).2
theorem par_web (s : T) (h : okS s = true) : decide (webI (parS s).sch > 0) = mayH (parS s).h := by
  obtain ⟨h0, ⟨h1, h2, h3⟩ | ⟨h1, h2, h3⟩⟩ := okS_ways h
  · rw [h3]
    unfold webB at h2
    simp only [Bool.and_eq_true] at h2
    have : mayH (tailU (webU (schS s) (tA (schR s))) (schR s)).h = true := Host.par_may _ h2.2.1
    rw [this]
    have hs : (tailU (webU (schS s) (tA (schR s))) (schR s)).sch = schS s := rfl
    rw [hs]
    rcases web_cases (schS s) with ⟨_, h⟩ | ⟨_, h⟩ | h
    · rw [h]; rfl
    · rw [h]; rfl
    · exact absurd h h1
  · rw [h3]
    have hs : (tailU (opqU (schS s) (tA (schR s))) (schR s)).sch = schS s := rfl
    have hh : (tailU (opqU (schS s) (tA (schR s))) (schR s)).h = none0 := rfl
    rw [hs, hh, h1]
    decide +kernel
theorem par_none (s : T) (h : okS s = false) : parS s = none1 := by unfold parS; rw [h]; rfl

end Go.Proofs.YtfdhhjigpboieaaGreatDoor.Url

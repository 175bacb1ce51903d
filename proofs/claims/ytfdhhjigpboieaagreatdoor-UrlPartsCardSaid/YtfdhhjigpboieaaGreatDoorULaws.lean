/-
  What follows for addresses that are put together of parts: the laws of the stage, on lists.
-/
import Derived.Test.YtfdhhjigpboieaaGreatDoorUFacts
namespace Go.Proofs.YtfdhhjigpboieaaGreatDoor.Url
open Host (H parH okH none0 mayH showH domB brkB inner)
open Six (zero8)
set_option linter.unusedSimpArgs false
set_option linter.unusedVariables false

/-! ## a host's text -/
theorem join_mem (ts : List T) (c : UInt8) (h : c ∈ Six.joinC ts) : c = 58 ∨ ∃ t ∈ ts, c ∈ t := by
  induction ts with
  | nil => exact absurd h (by simp [Six.joinC])
  | cons a r ih =>
    cases r with
    | nil => exact .inr ⟨a, by simp, by simpa [Six.joinC] using h⟩
    | cons b r =>
      have h' : c ∈ a ++ 58 :: Six.joinC (b :: r) := by simpa [Six.joinC] using h
      rw [List.mem_append, List.mem_cons] at h'
      rcases h' with h' | h' | h'
      · exact .inr ⟨a, by simp, h'⟩
      · exact .inl h'
      · rcases ih h' with h'' | ⟨t, ht, hc⟩
        · exact .inl h''
        · exact .inr ⟨t, by simp only [List.mem_cons] at ht ⊢; exact .inr ht, hc⟩
theorem okC_all : ∀ n : Fin 256, (Six.okC (UInt8.ofNat n.val) = true ∨ UInt8.ofNat n.val = 58) → (32 < n.val ∧ n.val < 127 ∧ n.val ≠ 47 ∧ n.val ≠ 63 ∧ n.val ≠ 35 ∧ n.val ≠ 64 ∧ n.val ≠ 91 ∧ n.val ≠ 93) := by decide +kernel
theorem okC_at (c : UInt8) (h : Six.okC c = true ∨ c = 58) : 32 < c.toNat ∧ c.toNat < 127 ∧ c.toNat ≠ 47 ∧ c.toNat ≠ 63 ∧ c.toNat ≠ 35 ∧ c.toNat ≠ 64 ∧ c.toNat ≠ 91 ∧ c.toNat ≠ 93 := by
  have := okC_all ⟨c.toNat, c.toNat_lt⟩
  simp only [UInt8.ofNat_toNat] at this
  exact this h
theorem six_mem (p : List Int) (hm : Six.mayP p = true) (c : UInt8) (h : c ∈ Six.showS p) : Six.okC c = true ∨ c = 58 := by
  have hok := Six.texts_okP p hm
  have hk : ∀ ts : List T, (∀ t ∈ ts, t ∈ Six.texts p) → c ∈ Six.joinC ts → Six.okC c = true ∨ c = 58 := by
    intro ts hts hc
    rcases join_mem ts c hc with h1 | ⟨t, ht, h1⟩
    · exact .inr h1
    · have := List.all_eq_true.1 hok t (hts t ht)
      exact .inl (List.all_eq_true.1 ((Six.okP_iff t).1 this).2.2 c h1)
  unfold Six.showS at h
  rw [if_pos hm] at h
  unfold Six.showIn at h
  split at h
  · exact hk _ (fun t ht => ht) h
  · unfold Six.gapped at h
    rw [List.mem_append, List.mem_cons, List.mem_cons] at h
    rcases h with h | h | h | h
    · exact hk _ (fun t ht => List.mem_of_mem_take ht) h
    · exact .inr h
    · exact .inr h
    · exact hk _ (fun t ht => List.mem_of_mem_drop ht) h
/-- What a host's text has: nothing that ends an authority, and no colon but within brackets. -/
theorem door_of (h : H) (hm : mayH h = true) : (∀ c ∈ showH h, 32 < c.toNat ∧ c.toNat ≠ 47 ∧ c.toNat ≠ 63 ∧ c.toNat ≠ 35 ∧ c.toNat ≠ 64) ∧ hname (showH h) = showH h ∧ digs (showH h) = [] ∧
    ∀ d : T, hname (showH h ++ 58 :: d) = showH h ∧ digs (showH h ++ 58 :: d) = d := by
  have plain : ∀ l : T, (∀ c ∈ l, c.toNat ≠ 58 ∧ c.toNat ≠ 91) → (∀ x : T, inside (l ++ 58 :: x) = 0) ∧ inside l = 0 ∧ (58 : UInt8) ∉ l := by
    intro l hl
    have h1 : ∀ y : T, (∀ c, y.head? = some c → c ≠ 91) → Lib.hasPrefix y [91] = false := by
      intro y hy
      cases y with
      | nil => rfl
      | cons a r => simp [Lib.hasPrefix, List.isPrefixOf]; exact fun e => hy a rfl e.symm
    refine ⟨fun x => ?_, ?_, fun hc => (hl _ hc).1 rfl⟩
    · unfold inside
      rw [h1, Bool.false_and]; · rfl
      intro c hc
      cases l with
      | nil => simp at hc; subst hc; decide
      | cons a r => simp at hc; subst hc; exact fun e => (hl a (by simp)).2 (by rw [e]; rfl)
    · unfold inside
      rw [h1, Bool.false_and]; · rfl
      intro c hc
      cases l with
      | nil => simp at hc
      | cons a r => simp at hc; subst hc; exact fun e => (hl a (by simp)).2 (by rw [e]; rfl)
  have fin : ∀ l : T, (∀ c ∈ l, c.toNat ≠ 58 ∧ c.toNat ≠ 91) → hname l = l ∧ digs l = [] ∧ ∀ d : T, hname (l ++ 58 :: d) = l ∧ digs (l ++ 58 :: d) = d := by
    intro l hl
    obtain ⟨h1, h2, h3⟩ := plain l hl
    unfold hname digs
    rw [h2]
    refine ⟨by simp [bef_no l h3], by simp [aft_no l h3], fun d => ?_⟩
    rw [h1 d]
    exact ⟨by simp [bef_at l d h3], by simp [aft_at l d h3]⟩
  rcases Host.may_ways h hm with ⟨h0, h3, e⟩ | ⟨n, hn, h0, e⟩ | ⟨h0, h3, e⟩
  · rw [e]
    obtain ⟨d1, d2, d3, d4⟩ := (Host.dom_iff _).1 h3
    have hb : ∀ c ∈ h.s.data.toList, _ := fun c hc => Host.byte_not c (Host.parts_all _ d4 c hc)
    exact ⟨fun c hc => ⟨(hb c hc).1, (hb c hc).2.2.1, (hb c hc).2.2.2.1, (hb c hc).2.2.2.2.1, (hb c hc).2.2.2.2.2.1⟩, fin _ (fun c hc => ⟨(hb c hc).2.2.2.2.2.2.2.1, (hb c hc).2.2.2.2.2.2.2.2.1⟩)⟩
  · rw [e]
    have hb : ∀ c ∈ Four.show4 n, (48 ≤ c.toNat ∧ c.toNat ≤ 57) ∨ c.toNat = 46 := fun c hc => (Host.show4_bytes n c hc).imp id (fun e => by rw [e]; rfl)
    exact ⟨fun c hc => by have := hb c hc; omega, fin _ (fun c hc => by have := hb c hc; omega)⟩
  · rw [e]
    have hb : ∀ c ∈ Six.showS h.p, _ := fun c hc => okC_at c (six_mem h.p h3 c hc)
    have n93 : (93 : UInt8) ∉ (91 :: Six.showS h.p : T) := by
      simp only [List.mem_cons, not_or]
      exact ⟨by decide, fun hc => (hb _ hc).2.2.2.2.2.2.2 rfl⟩
    have ins : ∀ x : T, inside (91 :: (Six.showS h.p ++ [93]) ++ x) = (91 :: Six.showS h.p : T).length := by
      intro x
      have e1 : (91 :: (Six.showS h.p ++ [93]) ++ x : T) = (91 :: Six.showS h.p) ++ 93 :: x := by simp
      unfold inside
      rw [e1, bef_at _ _ n93, has_yes (by simp)]
      rw [if_pos]
      simp [Lib.hasPrefix, List.isPrefixOf]
    have e0 : ∀ x : T, (91 :: (Six.showS h.p ++ [93]) ++ x : T) = (91 :: Six.showS h.p) ++ ([93] ++ x) := by intro x; simp
    refine ⟨fun c hc => ?_, ?_, ?_, fun d => ?_⟩
    · simp only [List.mem_cons, List.mem_append, List.not_mem_nil, or_false] at hc
      rcases hc with rfl | hc | rfl
      · decide
      · exact ⟨(hb c hc).1, (hb c hc).2.2.1, (hb c hc).2.2.2.1, (hb c hc).2.2.2.2.1, (hb c hc).2.2.2.2.2.1⟩
      · decide
    · have := ins []
      have e1 := e0 []
      rw [List.append_nil] at this e1
      unfold hname
      rw [this, e1, List.take_left, List.drop_left]
      rfl
    · have := ins []
      have e1 := e0 []
      rw [List.append_nil] at this e1
      unfold digs
      rw [this, e1, List.drop_left]
      rfl
    · unfold hname digs
      rw [ins (58 :: d), e0, List.take_left, List.drop_left]
      exact ⟨by rw [bef_at [93] d (by decide)]; simp, aft_at [93] d (by decide)⟩

/-! ## addresses put together -/
theorem http_named : named http = true ∧ Ascii.lower http = http ∧ webI http = 80 := by decide +kernel
theorem https_named : named https = true ∧ Ascii.lower https = https ∧ webI https = 443 := by decide +kernel
def sl : T := [58, 47, 47]
theorem auth_at (a r : T) (ha : (47 : UInt8) ∉ a) : auth (47 :: 47 :: (a ++ 47 :: r)) = a ∧ segT (47 :: 47 :: (a ++ 47 :: r)) = r := by
  unfold auth segT
  exact ⟨bef_at a r ha, aft_at a r ha⟩
theorem auth_end (a : T) (ha : (47 : UInt8) ∉ a) : auth (47 :: 47 :: a) = a ∧ segT (47 :: 47 :: a) = [] := by
  unfold auth segT
  exact ⟨bef_no a ha, aft_no a ha⟩
theorem web_pre (x : T) : webB (47 :: 47 :: x) = (okH (hname (place (auth (47 :: 47 :: x)))) && portB (digs (place (auth (47 :: 47 :: x))))) := by
  unfold webB
  rw [show Lib.hasPrefix (47 :: 47 :: x) [47, 47] = true by simp [Lib.hasPrefix, List.isPrefixOf], Bool.true_and]
theorem place_no (a : T) (h : (64 : UInt8) ∉ a) : place a = a ∧ user a = [] ∧ pass a = [] := by
  unfold place user pass
  rw [laft_no a h, lbef_no a h]
  exact ⟨rfl, rfl, rfl⟩
theorem place_at (a r : T) (h : (64 : UInt8) ∉ r) : place (a ++ 64 :: r) = r ∧ user (a ++ 64 :: r) = bef 58 a ∧ pass (a ++ 64 :: r) = aft 58 a := by
  unfold place user pass
  rw [laft_at a r h, lbef_at a r h]
  exact ⟨rfl, rfl, rfl⟩
/-- An address of the web out of its text, cleaned already: 'n' its scheme, 'x' what stands behind the slashes. -/
theorem par_at (n x : T) (hn : named n = true) (hl : Ascii.lower n = n) (hw : webI n ≠ 0) (r : T) (hr : r = 47 :: 47 :: x) :
    okS (n ++ 58 :: r) = webB (tA r) ∧ (webB (tA r) = true → parS (n ++ 58 :: r) = tailU (webU n (tA r)) r) := by
  obtain ⟨h1, h2, h3⟩ := sch_of n r hn
  rw [hl] at h2
  have ho : okS (n ++ 58 :: r) = webB (tA r) := by
    unfold okS
    rw [h1, h2, h3, decide_eq_false hw]
    have : opB n = false := by
      cases h : opB n
      · rfl
      · exact absurd (web_op n h) hw
    rw [this]
    simp
  refine ⟨ho, fun hb => ?_⟩
  unfold parS aheadU
  rw [ho, if_pos hb, h2, h3, if_neg hw]

theorem text_high (a b : T) (ha : ∀ c ∈ a, 32 < c.toNat) (hb : ∀ c ∈ b, 32 < c.toNat) : ∀ c ∈ a ++ b, 32 < c.toNat := fun c hc => (List.mem_append.1 hc).elim (ha c) (hb c)

/-- P9.2, P8.2: a host's text, a path, a query. -/
theorem parts_law (h : H) (h8 : h.p.length = 8) (hm : mayH h = true) (s q : T) (hs : ∀ c ∈ s, 32 < c.toNat ∧ c.toNat ≠ 63 ∧ c.toNat ≠ 35) (hq : ∀ c ∈ q, 32 < c.toNat ∧ c.toNat ≠ 35) :
    okU (http ++ 58 :: 47 :: 47 :: (showH h ++ 47 :: (s ++ 63 :: q))) = true ∧
    parU (http ++ 58 :: 47 :: 47 :: (showH h ++ 47 :: (s ++ 63 :: q))) = ⟨http, [], [], h, -1, Path.parse (47 :: s), [], Pct.encode 2 q, [], true, false⟩ := by
  obtain ⟨d1, d2, d3, d4⟩ := door_of h hm
  have hc : Ascii.clean (http ++ 58 :: 47 :: 47 :: (showH h ++ 47 :: (s ++ 63 :: q))) = http ++ 58 :: 47 :: 47 :: (showH h ++ 47 :: (s ++ 63 :: q)) := by
    refine clean_same _ (fun c hc => ?_)
    simp only [List.mem_append, List.mem_cons] at hc
    rcases hc with hc | rfl | rfl | rfl | hc | rfl | hc | rfl | hc
    · exact (by decide : ∀ c ∈ http, 32 < c.toNat) c hc
    · decide
    · decide
    · decide
    · exact (d1 c hc).1
    · decide
    · exact (hs c hc).1
    · decide
    · exact (hq c hc).1
  unfold okU parU
  rw [hc]
  have e1 : (47 :: 47 :: (showH h ++ 47 :: (s ++ 63 :: q)) : T) = (47 :: 47 :: (showH h ++ 47 :: s)) ++ 63 :: q := by simp
  have n35 : (35 : UInt8) ∉ (47 :: 47 :: (showH h ++ 47 :: s) : T) := by
    simp only [List.mem_cons, List.mem_append, not_or]
    exact ⟨by decide, by decide, fun hc => (d1 _ hc).2.2.2.1 rfl, by decide, fun hc => (hs _ hc).2.2 rfl⟩
  have n63 : (63 : UInt8) ∉ (47 :: 47 :: (showH h ++ 47 :: s) : T) := by
    simp only [List.mem_cons, List.mem_append, not_or]
    exact ⟨by decide, by decide, fun hc => (d1 _ hc).2.2.1 rfl, by decide, fun hc => (hs _ hc).2.1 rfl⟩
  have n35q : (35 : UInt8) ∉ q := fun hc => (hq _ hc).2 rfl
  obtain ⟨t1, t2, t3, t4, t5⟩ := tail_ofq _ q n35 n63 n35q
  obtain ⟨a1, a2⟩ := auth_at (showH h) s (fun hc => (d1 _ hc).2.1 rfl)
  obtain ⟨p1, p2, p3⟩ := place_no (showH h) (fun hc => (d1 _ hc).2.2.2.2 rfl)
  obtain ⟨k1, k2, k3, k4⟩ := Host.show_back h h8 hm
  have hb : webB (tA (47 :: 47 :: (showH h ++ 47 :: (s ++ 63 :: q)))) = true := by
    rw [e1, t1, web_pre, a1, p1, d2, d3, k1]; rfl
  obtain ⟨o1, o2⟩ := par_at http _ http_named.1 http_named.2.1 (by decide) _ (rfl : (47 :: 47 :: (showH h ++ 47 :: (s ++ 63 :: q)) : T) = _)
  refine ⟨o1.trans hb, (o2 hb).trans ?_⟩
  unfold tailU webU
  rw [e1, t1, t2, t3, t4, t5, a1, a2, p1, p2, p3, d2, d3, k2]
  rfl

/-- P9.2: a port behind a host's text. -/
theorem port_law (h : H) (h8 : h.p.length = 8) (hm : mayH h = true) (n : T) (hn : n = http ∨ n = https) (d : T) (hd : ∀ c ∈ d, Deci.digB c = true) :
    okU (n ++ 58 :: 47 :: 47 :: (showH h ++ 58 :: d)) = decide (Deci.valN d ≤ 65535) ∧
    (Deci.valN d ≤ 65535 → (parU (n ++ 58 :: 47 :: 47 :: (showH h ++ 58 :: d))).h = h ∧ (parU (n ++ 58 :: 47 :: 47 :: (showH h ++ 58 :: d))).port = portI n d) := by
  obtain ⟨d1, d2, d3, d4⟩ := door_of h hm
  have dg : ∀ c ∈ d, 48 ≤ c.toNat ∧ c.toNat ≤ 57 := fun c hc => Host.digs_at c (hd c hc)
  have hN : named n = true ∧ Ascii.lower n = n ∧ webI n ≠ 0 ∧ ∀ c ∈ n, 32 < c.toNat := by
    rcases hn with rfl | rfl <;> decide +kernel
  have hc : Ascii.clean (n ++ 58 :: 47 :: 47 :: (showH h ++ 58 :: d)) = n ++ 58 :: 47 :: 47 :: (showH h ++ 58 :: d) := by
    refine clean_same _ (fun c hc => ?_)
    simp only [List.mem_append, List.mem_cons] at hc
    rcases hc with hc | rfl | rfl | rfl | hc | rfl | hc
    · exact hN.2.2.2 c hc
    · decide
    · decide
    · decide
    · exact (d1 c hc).1
    · decide
    · have := dg c hc; omega
  unfold okU parU
  rw [hc]
  have hx : ∀ x : UInt8, (x = 35 ∨ x = 63 ∨ x = 47 ∨ x = 64) → x ∉ (showH h ++ 58 :: d : T) := by
    intro x hx hm
    simp only [List.mem_append, List.mem_cons] at hm
    rcases hm with hm | rfl | hm
    · have := d1 _ hm
      rcases hx with rfl | rfl | rfl | rfl
      · exact this.2.2.2.1 rfl
      · exact this.2.2.1 rfl
      · exact this.2.1 rfl
      · exact this.2.2.2.2 rfl
    · revert hx; decide
    · have := dg _ hm
      rcases hx with rfl | rfl | rfl | rfl <;> revert this <;> decide
  obtain ⟨t1, t2, t3, t4, t5⟩ := tA_of (47 :: 47 :: (showH h ++ 58 :: d)) (by simpa using hx 35 (.inl rfl)) (by simpa using hx 63 (.inr (.inl rfl)))
  obtain ⟨a1, a2⟩ := auth_end (showH h ++ 58 :: d) (hx 47 (.inr (.inr (.inl rfl))))
  obtain ⟨p1, p2, p3⟩ := place_no (showH h ++ 58 :: d) (hx 64 (.inr (.inr (.inr rfl))))
  obtain ⟨k1, k2, k3, k4⟩ := Host.show_back h h8 hm
  have hP : portB d = decide (Deci.valN d ≤ 65535) := by
    unfold portB Deci.readB Deci.plainB
    cases d with
    | nil => simp [Deci.valN, Deci.valF]
    | cons a r =>
      have : (a :: r : T).all Deci.digB = true := List.all_eq_true.2 hd
      rw [this]
      simp
      constructor <;> intro h <;> omega
  have hb : webB (tA (47 :: 47 :: (showH h ++ 58 :: d))) = decide (Deci.valN d ≤ 65535) := by
    rw [t1, web_pre, a1, p1, (d4 d).1, (d4 d).2, k1, hP]; rfl
  obtain ⟨o1, o2⟩ := par_at n _ hN.1 hN.2.1 hN.2.2.1 _ (rfl : (47 :: 47 :: (showH h ++ 58 :: d) : T) = _)
  refine ⟨o1.trans hb, fun hle => ?_⟩
  rw [o2 (by rw [hb]; simpa using hle)]
  unfold tailU webU
  rw [t1, a1, p1, (d4 d).1, (d4 d).2, k2]
  exact ⟨rfl, rfl⟩

/-- P9.2: the user, the password. -/
def aorg : T := [97, 46, 111, 114, 103]
theorem aorg_dom : domB aorg = true := by decide +kernel
def aH : H := ⟨1, ⟨aorg.toArray⟩, 0, zero8⟩
theorem aorg_ok : okH aorg = true ∧ parH aorg = aH := Host.ok_dom aorg aorg_dom
theorem aorg_may : mayH aH = true := by
  have : aH.s.data.toList = aorg := rfl
  unfold aH
  rw [Host.may1]
  exact aorg_dom
theorem aorg_show : showH aH = aorg := by
  rcases Host.may_ways aH aorg_may with ⟨h0, h3, e⟩ | ⟨n, hn, h0, e⟩ | ⟨h0, h3, e⟩
  · rw [e]; rfl
  · exact absurd (congrArg Host.H.k h0) (show ¬ (1 : Int) = 2 by decide)
  · exact absurd (congrArg Host.H.k h0) (show ¬ (1 : Int) = 3 by decide)
theorem user_at (y : T) (hy : ∀ c ∈ y, 32 < c.toNat ∧ c.toNat ≠ 47 ∧ c.toNat ≠ 63 ∧ c.toNat ≠ 35) :
    okU (https ++ 58 :: 47 :: 47 :: (y ++ 64 :: (aorg ++ [47, 120]))) = true ∧
    parU (https ++ 58 :: 47 :: 47 :: (y ++ 64 :: (aorg ++ [47, 120]))) = ⟨https, Pct.encode 4 (bef 58 y), Pct.encode 4 (aft 58 y), aH, -1, Path.parse [47, 120], [], [], [], false, false⟩ := by
  have hc : Ascii.clean (https ++ 58 :: 47 :: 47 :: (y ++ 64 :: (aorg ++ [47, 120]))) = https ++ 58 :: 47 :: 47 :: (y ++ 64 :: (aorg ++ [47, 120])) := by
    refine clean_same _ (fun c hc => ?_)
    simp only [List.mem_append, List.mem_cons] at hc
    rcases hc with hc | rfl | rfl | rfl | hc | rfl | hc | hc
    · exact (by decide : ∀ c ∈ https, 32 < c.toNat) c hc
    · decide
    · decide
    · decide
    · exact (hy c hc).1
    · decide
    · exact (by decide : ∀ c ∈ aorg, 32 < c.toNat) c hc
    · exact (by decide : ∀ c ∈ ([47, 120] : T), 32 < c.toNat) c (by simpa using hc)
  unfold okU parU
  rw [hc]
  have e1 : (y ++ 64 :: (aorg ++ [47, 120]) : T) = (y ++ 64 :: aorg) ++ 47 :: [120] := by simp
  have nA : ∀ x : UInt8, (x = 35 ∨ x = 63) → x ∉ (47 :: 47 :: (y ++ 64 :: (aorg ++ [47, 120])) : T) := by
    intro x hx
    simp only [List.mem_cons, List.mem_append, not_or]
    rcases hx with rfl | rfl
    · exact ⟨by decide, by decide, fun hc => (hy _ hc).2.2.2 rfl, by decide, by decide, by decide, by decide, by simp⟩
    · exact ⟨by decide, by decide, fun hc => (hy _ hc).2.2.1 rfl, by decide, by decide, by decide, by decide, by simp⟩
  obtain ⟨t1, t2, t3, t4, t5⟩ := tA_of _ (nA 35 (.inl rfl)) (nA 63 (.inr rfl))
  have n47 : (47 : UInt8) ∉ (y ++ 64 :: aorg : T) := by
    simp only [List.mem_cons, List.mem_append, not_or]
    exact ⟨fun hc => (hy _ hc).2.1 rfl, by decide, by decide⟩
  obtain ⟨a1, a2⟩ := auth_at (y ++ 64 :: aorg) [120] n47
  rw [← e1] at a1 a2
  obtain ⟨p1, p2, p3⟩ := place_at y aorg (by decide)
  have nm : hname aorg = aorg ∧ digs aorg = [] := by decide +kernel
  have hb : webB (tA (47 :: 47 :: (y ++ 64 :: (aorg ++ [47, 120])))) = true := by
    rw [t1, web_pre, a1, p1, nm.1, nm.2, aorg_ok.1]; rfl
  obtain ⟨o1, o2⟩ := par_at https _ https_named.1 https_named.2.1 (by decide) _ (rfl : (47 :: 47 :: (y ++ 64 :: (aorg ++ [47, 120])) : T) = _)
  refine ⟨o1.trans hb, (o2 hb).trans ?_⟩
  unfold tailU webU
  rw [t1, t2, t3, t4, t5, a1, a2, p1, p2, p3, nm.1, nm.2, aorg_ok.2]
  rfl

/-- P9.1, P9.2: a query and a fragment behind an address. -/
def bare (u : U) : U := { u with qry := [], frg := [], hq := false, hf := false }
theorem end_at (A B : T) (c : UInt8) (hc : Ascii.lowish c = false) : ∃ B', Ascii.dropEnd (A ++ c :: B) = A ++ c :: B' := by
  unfold Ascii.dropEnd
  rw [rev_at, List.dropWhile_append]
  split
  · rw [List.dropWhile_cons_of_neg (by simp [hc])]
    exact ⟨[], by simp⟩
  · exact ⟨(B.reverse.dropWhile Ascii.lowish).reverse, by simp⟩
theorem behind_clean (q f : T) (hq : (35 : UInt8) ∉ q) : ∃ q' f', Ascii.clean (63 :: 120 :: (q ++ 35 :: 120 :: f)) = 63 :: (q' ++ 35 :: f') ∧ (35 : UInt8) ∉ q' := by
  rw [clean_stays]
  have e1 : Ascii.stays (63 :: 120 :: (q ++ 35 :: 120 :: f)) = 63 :: 120 :: (Ascii.stays q ++ 35 :: 120 :: Ascii.stays f) := by
    rw [show (63 :: 120 :: (q ++ 35 :: 120 :: f) : T) = [63, 120] ++ (q ++ ([35, 120] ++ f)) by simp, stays_app, stays_app, stays_app]; rfl
  rw [e1]
  unfold Ascii.trim
  rw [List.dropWhile_cons_of_neg (by decide)]
  obtain ⟨B', hB⟩ := end_at (63 :: 120 :: Ascii.stays q) (120 :: Ascii.stays f) 35 (by decide)
  refine ⟨120 :: Ascii.stays q, B', ?_, ?_⟩
  · simpa using hB
  · simp only [List.mem_cons, not_or]
    exact ⟨by decide, fun hm => hq ((List.mem_filter.1 (show (35 : UInt8) ∈ q.filter _ from hm)).1)⟩
theorem clean_sub (l : T) : ∀ c ∈ Ascii.clean l, c ∈ l := by
  intro c hc
  have h1 : c ∈ Ascii.trim l := (List.mem_filter.1 (show c ∈ (Ascii.trim l).filter _ from hc)).1
  have h2 : c ∈ l.dropWhile Ascii.lowish := (Ascii.dropEnd_prefix _).subset h1
  exact (List.dropWhile_suffix _).subset h2
theorem tail_law (t q f : T) (h1 : (35 : UInt8) ∉ t) (h2 : (63 : UInt8) ∉ t) (ht : t = [] ∨ ∃ r c, t = r ++ [c] ∧ Ascii.lowish c = false) (hq : (35 : UInt8) ∉ q) :
    okU (t ++ 63 :: 120 :: (q ++ 35 :: 120 :: f)) = okU t ∧ (okU t = true → bare (parU (t ++ 63 :: 120 :: (q ++ 35 :: 120 :: f))) = parU t) := by
  obtain ⟨q', f', hx, hq'⟩ := behind_clean q f hq
  have hcl := clean_ahead t (63 :: 120 :: (q ++ 35 :: 120 :: f)) ht ⟨63, _, rfl, by decide⟩
  rw [hx] at hcl
  unfold okU parU
  rw [hcl]
  have c1 : (35 : UInt8) ∉ Ascii.clean t := fun h => h1 (clean_sub t _ h)
  have c2 : (63 : UInt8) ∉ Ascii.clean t := fun h => h2 (clean_sub t _ h)
  generalize Ascii.clean t = s at c1 c2
  by_cases h58 : (58 : UInt8) ∈ s
  · have eb : bef 58 (s ++ 63 :: (q' ++ 35 :: f')) = bef 58 s := bef_in _ _ h58
    have ea : aft 58 (s ++ 63 :: (q' ++ 35 :: f')) = aft 58 s ++ 63 :: (q' ++ 35 :: f') := aft_in _ _ h58
    have eB : schB (s ++ 63 :: (q' ++ 35 :: f')) = schB s := by
      unfold schB; rw [eb, has_yes h58, has_yes (by simp [h58])]
    cases hB : schB s
    · have hno : okS s = false := by unfold okS; rw [hB]; rfl
      have hno' : okS (s ++ 63 :: (q' ++ 35 :: f')) = false := by unfold okS; rw [eB, hB]; rfl
      rw [hno, hno']
      exact ⟨rfl, fun h => absurd h (by simp)⟩
    · have eS : schS (s ++ 63 :: (q' ++ 35 :: f')) = schS s := by unfold schS; rw [eB, eb]
      have eR : schR (s ++ 63 :: (q' ++ 35 :: f')) = schR s ++ 63 :: (q' ++ 35 :: f') := by unfold schR; rw [eB, hB, if_pos rfl, if_pos rfl, ea]
      have r1 : (35 : UInt8) ∉ schR s := by unfold schR; rw [hB, if_pos rfl]; exact fun h => c1 (aft_sub _ _ _ h)
      have r2 : (63 : UInt8) ∉ schR s := by unfold schR; rw [hB, if_pos rfl]; exact fun h => c2 (aft_sub _ _ _ h)
      obtain ⟨t1, t2, t3, t4, t5⟩ := tA_of _ r1 r2
      obtain ⟨v1, v2, v3, v4, v5⟩ := tail_of _ q' f' r1 r2 hq'
      have eO : okS (s ++ 63 :: (q' ++ 35 :: f')) = okS s := by unfold okS; rw [eB, eS, eR, v1, t1]
      refine ⟨eO, fun ho => ?_⟩
      unfold parS
      rw [eO, if_pos ho, if_pos ho, eS, eR, v1]
      unfold bare tailU
      rw [t1, t2, t3, t4, t5]
      rfl
  · have hB : schB s = false := by unfold schB; rw [has_no h58]; rfl
    have hB' : schB (s ++ 63 :: (q' ++ 35 :: f')) = false := by
      unfold schB
      rw [bef_app _ _ h58, bef_miss _ (by decide)]
      cases hn : named (s ++ 63 :: bef 58 (q' ++ 35 :: f'))
      · rw [Bool.and_false]
      · exact absurd (by simp : (63 : UInt8) ∈ s ++ 63 :: bef 58 (q' ++ 35 :: f')) (named_no hn).2.2
    have hno : okS s = false := by unfold okS; rw [hB]; rfl
    have hno' : okS (s ++ 63 :: (q' ++ 35 :: f')) = false := by unfold okS; rw [hB']; rfl
    rw [hno, hno']
    exact ⟨rfl, fun h => absurd h (by simp)⟩

end Go.Proofs.YtfdhhjigpboieaaGreatDoor.Url

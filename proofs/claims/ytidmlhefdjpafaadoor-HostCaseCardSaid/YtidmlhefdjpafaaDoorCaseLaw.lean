/-
  The law HostCase holds for every input: capital letters tell what small ones do; what is no byte of a domain's name, nor a bracket, nor a colon, is in no host. No condition of its own; the card: the five listed tables lie as their texts lay them (tied).
-/
import Derived.Test.YtidmlhefdjpafaaDoorCards
import Derived.Test.YtidmlhefdjpafaaDoorTie
import Derived.WalkKit
import Derived.ProofKit
import Derived.OpenShut
import Derived.ShutString
import Derived.Test.YtidmlhefdjpafaaDoorHOpen
namespace Go.Proofs.YtidmlhefdjpafaaDoor.hostCase
open Go.ChangeShapes Go.WideShapes Go.ChangeAt Go.RowKit
open Go.ChangeMaps (open_string shut_string)
open Go.Shelf
open Go.Proofs.YtidmlhefdjpafaaDoor.Host
open Go.Proofs.YtidmlhefdjpafaaDoor.Six (arr RowAt zero8)
set_option linter.unusedSimpArgs false
set_option linter.unusedVariables false

theorem own : ownKnob Tryd.prog.godebug = none := by kernel_rfl

/-- A small letter as a capital one. -/
def upZ (c : UInt8) : UInt8 := if 97 ≤ c.toNat ∧ c.toNat ≤ 122 then c - 32 else c
theorem upZ_all : ∀ n : Fin 256, Six.hexV (upZ (UInt8.ofNat n.val)) = Six.hexV (UInt8.ofNat n.val) ∧ (upZ (UInt8.ofNat n.val) = 58 ↔ UInt8.ofNat n.val = 58) ∧ (upZ (UInt8.ofNat n.val) = 46 ↔ UInt8.ofNat n.val = 46) ∧ (upZ (UInt8.ofNat n.val) = 91 ↔ UInt8.ofNat n.val = 91) ∧ (upZ (UInt8.ofNat n.val) = 93 ↔ UInt8.ofNat n.val = 93) ∧
    Ascii.lowB (upZ (UInt8.ofNat n.val)) = Ascii.lowB (UInt8.ofNat n.val) ∧ Deci.digB (upZ (UInt8.ofNat n.val)) = Deci.digB (UInt8.ofNat n.val) ∧ (Deci.digB (UInt8.ofNat n.val) = true → upZ (UInt8.ofNat n.val) = UInt8.ofNat n.val) ∧ ((97 ≤ n.val ∧ n.val ≤ 122) → (upZ (UInt8.ofNat n.val)).toNat = n.val - 32) := by decide +kernel
theorem upZ_at (c : UInt8) : Six.hexV (upZ c) = Six.hexV c ∧ (upZ c = 58 ↔ c = 58) ∧ (upZ c = 46 ↔ c = 46) ∧ (upZ c = 91 ↔ c = 91) ∧ (upZ c = 93 ↔ c = 93) ∧ Ascii.lowB (upZ c) = Ascii.lowB c ∧ Deci.digB (upZ c) = Deci.digB c ∧ (Deci.digB c = true → upZ c = c) ∧ ((97 ≤ c.toNat ∧ c.toNat ≤ 122) → (upZ c).toNat = c.toNat - 32) := by
  have h := upZ_all ⟨c.toNat, c.toNat_lt⟩
  simp only [UInt8.ofNat_toNat] at h
  exact h
theorem upZ_unseen : Six.Unseen upZ := ⟨fun c => (upZ_at c).1, fun c => (upZ_at c).2.1⟩
theorem upZ_other (c : UInt8) (h : ¬ (97 ≤ c.toNat ∧ c.toNat ≤ 122)) : upZ c = c := by unfold upZ; rw [if_neg h]
theorem upZ_low (c : UInt8) (h : 97 ≤ (c.toNat : Int) ∧ (c.toNat : Int) ≤ 122) : ((upZ c).toNat : Int) = (c.toNat : Int) - 32 := by
  have := (upZ_at c).2.2.2.2.2.2.2.2 (by omega)
  omega
theorem up_lower (l : List UInt8) : Ascii.lower (l.map upZ) = Ascii.lower l := by
  unfold Ascii.lower
  rw [List.map_map]
  exact List.map_congr_left fun c _ => (upZ_at c).2.2.2.2.2.1
theorem up_aft (l : List UInt8) : Four.aft (l.map upZ) = (Four.aft l).map upZ := by
  have hno : ∀ b : List UInt8, (46 : UInt8) ∉ b → (46 : UInt8) ∉ b.map upZ := by
    intro b hb hm
    obtain ⟨c, hc, e⟩ := List.mem_map.1 hm
    exact hb ((upZ_at c).2.2.1.1 e ▸ hc)
  have h46 : upZ 46 = 46 := (upZ_at 46).2.2.1.2 rfl
  have key : ∀ n (l : List UInt8), l.length ≤ n → Four.aft (l.map upZ) = (Four.aft l).map upZ := by
    intro n
    induction n with
    | zero =>
      intro l hl
      obtain rfl : l = [] := List.eq_nil_of_length_eq_zero (by omega)
      rfl
    | succ n ih =>
      intro l hl
      rcases Four.last_dot l with ⟨_, h⟩ | ⟨k, _, hk, hd, hn⟩
      · rw [Four.aft_none _ h, Four.aft_none _ (hno _ h)]
      · rw [Four.aft_at l k hd hn]
        have h1 : (l.map upZ)[k]? = some 46 := by rw [List.getElem?_map, hd]; exact congrArg some h46
        have h2 : (46 : UInt8) ∉ (l.map upZ).drop (k + 1) := by rw [← List.map_drop]; exact hno _ hn
        rw [Four.aft_at _ k h1 h2, ← List.map_drop]
  exact key _ l (Nat.le_refl _)
theorem up_look (l : List UInt8) : Four.lookB (l.map upZ) = Four.lookB l := by
  unfold Four.lookB
  rw [up_aft]
  unfold Deci.plainB
  rw [List.isEmpty_map, List.all_map]
  congr 1
  exact congrArg (fun f => List.all (Four.aft l) f) (funext fun c => (upZ_at c).2.2.2.2.2.2.1)
theorem up_same (l : List UInt8) (h : ∀ c ∈ l, Deci.digB c = true ∨ c = 46) : l.map upZ = l := by
  conv => rhs; rw [← List.map_id l]
  refine List.map_congr_left fun c hc => ?_
  rcases h c hc with h | rfl
  · exact (upZ_at c).2.2.2.2.2.2.2.1 h
  · exact (upZ_at 46).2.2.1.2 rfl
theorem dig_of (c : UInt8) (h : 48 ≤ c.toNat ∧ c.toNat ≤ 57) : Deci.digB c = true := by
  unfold Deci.digB
  rw [decide_eq_true h.1, decide_eq_true h.2]; rfl
theorem up_four (l : List UInt8) : Four.parB (l.map upZ) = Four.parB l ∧ (Four.parB l = true → l.map upZ = l) := by
  have h1 : Four.parB l = true → l.map upZ = l := by
    intro h
    obtain ⟨n, _, e, _⟩ := Four.parB_some l h
    refine up_same l fun c hc => ?_
    rw [e] at hc
    rcases show4_bytes n c hc with h | h
    · exact .inl (dig_of c h)
    · exact .inr h
  refine ⟨?_, h1⟩
  cases h : Four.parB l
  · cases h2 : Four.parB (l.map upZ)
    · rfl
    · obtain ⟨n, _, e, _⟩ := Four.parB_some _ h2
      have : l.map upZ = l := up_same l fun c hc => by
        have hm : upZ c ∈ Four.show4 n := by rw [← e]; exact List.mem_map.2 ⟨c, hc, rfl⟩
        rcases show4_bytes n _ hm with h | h
        · have := dig_of _ h
          rw [(upZ_at c).2.2.2.2.2.2.1] at this
          exact .inl this
        · exact .inr ((upZ_at c).2.2.1.1 h)
      rw [this, h] at h2
      cases h2
  · rw [h1 h, h]
theorem up_brk (l : List UInt8) : brkB (l.map upZ) = brkB l := by
  have h9 : upZ 91 = 91 := (upZ_at 91).2.2.2.1.2 rfl
  have h3 : upZ 93 = 93 := (upZ_at 93).2.2.2.2.1.2 rfl
  rw [Bool.eq_iff_iff, brk_iff, brk_iff]
  constructor
  · rintro ⟨x, hx⟩
    cases l with
    | nil => cases hx
    | cons c r =>
      rw [List.map_cons] at hx
      obtain ⟨e1, e2⟩ := List.cons.inj hx
      obtain rfl := (upZ_at c).2.2.2.1.1 e1
      obtain ⟨a, b, rfl, ha, hb⟩ := List.map_eq_append_iff.1 e2
      cases b with
      | nil => cases hb
      | cons d b =>
        rw [List.map_cons] at hb
        obtain ⟨e3, e4⟩ := List.cons.inj hb
        obtain rfl := (upZ_at d).2.2.2.2.1.1 e3
        have : b = [] := by simpa using e4
        subst this
        exact ⟨a, rfl⟩
  · rintro ⟨x, rfl⟩
    exact ⟨x.map upZ, by simp [h9, h3]⟩
theorem up_inner (l : List UInt8) : inner (l.map upZ) = (inner l).map upZ := by
  unfold inner
  rw [List.length_map, ← List.map_take, ← List.map_drop]
theorem up_ok (l : List UInt8) : okH (l.map upZ) = okH l := by
  unfold okH
  rw [up_brk, up_inner, Six.up_parB upZ_unseen, up_look, (up_four l).1, up_lower]
theorem up_par (l : List UInt8) : parH (l.map upZ) = parH l := by
  unfold parH
  rw [up_ok, up_brk, up_inner, Six.up_parI upZ_unseen, up_look, up_lower]
  cases h : okH l
  · rfl
  · cases h1 : brkB l
    · cases h2 : Four.lookB l
      · rfl
      · rcases par_ways l h with ⟨k, _⟩ | ⟨_, _, h3, _⟩ | ⟨_, k, _⟩
        · rw [h1] at k; cases k
        · rw [(up_four l).2 h3]
        · rw [h2] at k; cases k
    · rfl
/-! ### A byte that is in no host -/
def badN (n : Nat) : Prop := n ≤ 32 ∨ 127 ≤ n ∨ n = 47 ∨ n = 37 ∨ n = 64 ∨ n = 63 ∨ n = 35 ∨ n = 92
theorem bad_all : ∀ n : Fin 256, (n.val ≤ 32 ∨ 127 ≤ n.val ∨ n.val = 47 ∨ n.val = 37 ∨ n.val = 64 ∨ n.val = 63 ∨ n.val = 35 ∨ n.val = 92) → Six.okC (UInt8.ofNat n.val) = false ∧ UInt8.ofNat n.val ≠ 58 ∧ UInt8.ofNat n.val ≠ 91 ∧ UInt8.ofNat n.val ≠ 93 ∧ ¬ (48 ≤ n.val ∧ n.val ≤ 57) ∧ UInt8.ofNat n.val ≠ 46 ∧ namedB (Ascii.lowB (UInt8.ofNat n.val)) = false ∧ Ascii.lowB (UInt8.ofNat n.val) ≠ 46 := by decide +kernel
theorem bad_at (c : UInt8) (h : badN c.toNat) : Six.okC c = false ∧ c ≠ 58 ∧ c ≠ 91 ∧ c ≠ 93 ∧ ¬ (48 ≤ c.toNat ∧ c.toNat ≤ 57) ∧ c ≠ 46 ∧ namedB (Ascii.lowB c) = false ∧ Ascii.lowB c ≠ 46 := by
  have := bad_all ⟨c.toNat, c.toNat_lt⟩
  simp only [UInt8.ofNat_toNat] at this
  exact this h
theorem join_b (ts : List (List UInt8)) (hok : ts.all Six.okP = true) (c : UInt8) : c ∈ Six.joinC ts → c = 58 ∨ Six.okC c = true := by
  induction ts with
  | nil => intro h; cases h
  | cons x r ih =>
    rw [List.all_cons, Bool.and_eq_true] at hok
    have hx : ∀ c ∈ x, Six.okC c = true := fun c hc => List.all_eq_true.1 ((Six.okP_iff x).1 hok.1).2.2 c hc
    cases r with
    | nil => intro h; exact .inr (hx c h)
    | cons y r =>
      intro h
      have h' : c ∈ x ++ 58 :: Six.joinC (y :: r) := h
      rcases List.mem_append.1 h' with h1 | h1
      · exact .inr (hx c h1)
      · rcases List.mem_cons.1 h1 with h2 | h2
        · exact .inl h2
        · exact ih hok.2 h2
theorem six_b (x : List UInt8) (h : Six.parB x = true) (c : UInt8) (hc : c ∈ x) : c = 58 ∨ Six.okC c = true := by
  rcases Six.par_some x h with ⟨ts, ht, _, e, _⟩ | ⟨ts, us, ht, hu, _, e, _⟩
  · rw [e] at hc; exact join_b ts ht c hc
  · rw [e] at hc
    rcases List.mem_append.1 hc with h1 | h1
    · exact join_b ts ht c h1
    · rcases List.mem_cons.1 h1 with h2 | h2
      · exact .inl h2
      · rcases List.mem_cons.1 h2 with h3 | h3
        · exact .inl h3
        · exact join_b us hu c h3
theorem bad_no (l : List UInt8) (c : UInt8) (hc : c ∈ l) (hb : badN c.toNat) : okH l = false := by
  obtain ⟨b1, b2, b3, b4, b5, b6, b7, b8⟩ := bad_at c hb
  cases h : okH l
  · rfl
  · rcases par_ways l h with ⟨h1, h2, _⟩ | ⟨_, _, h2, _⟩ | ⟨_, _, h2, _⟩
    · obtain ⟨x, rfl⟩ := (brk_iff l).1 h1
      rw [inner_of] at h2
      rcases List.mem_cons.1 hc with e | e
      · exact absurd e b3
      · rcases List.mem_append.1 e with e | e
        · rcases six_b x h2 c e with k | k
          · exact absurd k b2
          · rw [b1] at k; cases k
        · exact absurd (List.mem_singleton.1 e) b4
    · obtain ⟨n, _, e, _⟩ := Four.parB_some l h2
      rw [e] at hc
      rcases show4_bytes n c hc with k | k
      · exact absurd k b5
      · exact absurd k b6
    · have hm : Ascii.lowB c ∈ Ascii.lower l := List.mem_map.2 ⟨c, hc, rfl⟩
      rcases parts_all _ ((dom_iff _).1 h2).2.2.2 _ hm with k | k
      · rw [b7] at k; cases k
      · exact absurd k b8
theorem one_conv (w : World) (x : UInt8) : (convert 32 9 (.slice (some ⟨w.heap.size, 0, none⟩) 1 1)).run Tryd.prog (w.alloc (.cells #[.int .u8 (x.toNat : Int)] 5)) = .ok (.string ⟨#[x]⟩) (w.alloc (.cells #[.int .u8 (x.toNat : Int)] 5)) := by
  refine run_convert_bytes_back (P := Tryd.prog) _ 32 9 5 ⟨w.heap.size, 0, none⟩ 1 [x] Tryd.underlying32 Tryd.underlying5 Tryd.underlying9 (fun j hj => ?_)
  have hj' : j < 1 := hj
  obtain rfl : j = 0 := by omega
  have e : (⟨w.heap.size, 0, none⟩ : Addr).add 0 = ⟨w.heap.size, 0, none⟩ := by unfold Addr.add; split <;> simp_all
  rw [e, World.cell?_alloc_at _ _ _ _ rfl]
  rfl
theorem bad9 (c : UInt8) : (badN c.toNat ∧ (decide ((c.toNat : Int) ≤ 32) = true ∨
    (decide ((c.toNat : Int) ≤ 32) = false ∧ decide ((127 : Int) ≤ (c.toNat : Int)) = true) ∨
    (decide ((c.toNat : Int) ≤ 32) = false ∧ decide ((127 : Int) ≤ (c.toNat : Int)) = false ∧ ((c.toNat : Int) == 47) = true) ∨
    (decide ((c.toNat : Int) ≤ 32) = false ∧ decide ((127 : Int) ≤ (c.toNat : Int)) = false ∧ ((c.toNat : Int) == 47) = false ∧ ((c.toNat : Int) == 37) = true) ∨
    (decide ((c.toNat : Int) ≤ 32) = false ∧ decide ((127 : Int) ≤ (c.toNat : Int)) = false ∧ ((c.toNat : Int) == 47) = false ∧ ((c.toNat : Int) == 37) = false ∧ ((c.toNat : Int) == 64) = true) ∨
    (decide ((c.toNat : Int) ≤ 32) = false ∧ decide ((127 : Int) ≤ (c.toNat : Int)) = false ∧ ((c.toNat : Int) == 47) = false ∧ ((c.toNat : Int) == 37) = false ∧ ((c.toNat : Int) == 64) = false ∧ ((c.toNat : Int) == 63) = true) ∨
    (decide ((c.toNat : Int) ≤ 32) = false ∧ decide ((127 : Int) ≤ (c.toNat : Int)) = false ∧ ((c.toNat : Int) == 47) = false ∧ ((c.toNat : Int) == 37) = false ∧ ((c.toNat : Int) == 64) = false ∧ ((c.toNat : Int) == 63) = false ∧ ((c.toNat : Int) == 35) = true) ∨
    (decide ((c.toNat : Int) ≤ 32) = false ∧ decide ((127 : Int) ≤ (c.toNat : Int)) = false ∧ ((c.toNat : Int) == 47) = false ∧ ((c.toNat : Int) == 37) = false ∧ ((c.toNat : Int) == 64) = false ∧ ((c.toNat : Int) == 63) = false ∧ ((c.toNat : Int) == 35) = false ∧ ((c.toNat : Int) == 92) = true))) ∨
    (decide ((c.toNat : Int) ≤ 32) = false ∧ decide ((127 : Int) ≤ (c.toNat : Int)) = false ∧ ((c.toNat : Int) == 47) = false ∧ ((c.toNat : Int) == 37) = false ∧ ((c.toNat : Int) == 64) = false ∧ ((c.toNat : Int) == 63) = false ∧ ((c.toNat : Int) == 35) = false ∧ ((c.toNat : Int) == 92) = false) := by
  unfold badN
  by_cases h1 : c.toNat ≤ 32
  · exact .inl ⟨.inl h1, .inl (decide_eq_true (by omega))⟩
  have f1 : decide ((c.toNat : Int) ≤ 32) = false := decide_eq_false (by omega)
  by_cases h2 : 127 ≤ c.toNat
  · exact .inl ⟨.inr (.inl h2), .inr (.inl ⟨f1, decide_eq_true (by omega)⟩)⟩
  have f2 : decide ((127 : Int) ≤ (c.toNat : Int)) = false := decide_eq_false (by omega)
  by_cases h3 : c.toNat = 47
  · exact .inl ⟨by omega, .inr (.inr (.inl ⟨f1, f2, by rw [h3]; rfl⟩))⟩
  have f3 : ((c.toNat : Int) == 47) = false := beq_false_of_ne (by omega)
  by_cases h4 : c.toNat = 37
  · exact .inl ⟨by omega, .inr (.inr (.inr (.inl ⟨f1, f2, f3, by rw [h4]; rfl⟩)))⟩
  have f4 : ((c.toNat : Int) == 37) = false := beq_false_of_ne (by omega)
  by_cases h5 : c.toNat = 64
  · exact .inl ⟨by omega, .inr (.inr (.inr (.inr (.inl ⟨f1, f2, f3, f4, by rw [h5]; rfl⟩))))⟩
  have f5 : ((c.toNat : Int) == 64) = false := beq_false_of_ne (by omega)
  by_cases h6 : c.toNat = 63
  · exact .inl ⟨by omega, .inr (.inr (.inr (.inr (.inr (.inl ⟨f1, f2, f3, f4, f5, by rw [h6]; rfl⟩)))))⟩
  have f6 : ((c.toNat : Int) == 63) = false := beq_false_of_ne (by omega)
  by_cases h7 : c.toNat = 35
  · exact .inl ⟨by omega, .inr (.inr (.inr (.inr (.inr (.inr (.inl ⟨f1, f2, f3, f4, f5, f6, by rw [h7]; rfl⟩))))))⟩
  have f7 : ((c.toNat : Int) == 35) = false := beq_false_of_ne (by omega)
  by_cases h8 : c.toNat = 92
  · exact .inl ⟨by omega, .inr (.inr (.inr (.inr (.inr (.inr (.inr ⟨f1, f2, f3, f4, f5, f6, f7, by rw [h8]; rfl⟩))))))⟩
  exact .inr ⟨f1, f2, f3, f4, f5, f6, f7, beq_false_of_ne (by omega)⟩
set_option maxRecDepth 100000 in
set_option maxHeartbeats 4000000 in
theorem walkLong (s : ByteArray) (c : UInt8) (r : ByteArray) (hs : decide ((150 : Int) < (s.size : Int)) = true ∨ (decide ((150 : Int) < (s.size : Int)) = false ∧ decide ((150 : Int) < (r.size : Int)) = true)) (m : Int) (w : World) (hm : Six.At m w) :
    Calls Tryd.prog 5 #[.string s, .int .u8 (c.toNat : Int), .string r] w fun e w' => e = .returned (.bool true) ∧ Below w.heap.size w w' := by
  have HM := Lib.hid hm
  clear hm
  go_enter Tryd.func5, Tryd.ntmps5
  go_wp2_with fail
  refine (awake_calls m _ HM.out).mono ?_
  rintro e u1 ⟨rfl, hB1⟩
  rcases hs with h1 | ⟨h1, h2⟩
  all_goals
    go_wp2
    go_ret
    exact ⟨rfl, hB1⟩
set_option maxRecDepth 100000 in
set_option maxHeartbeats 20000000 in
theorem walkIn (s : ByteArray) (c : UInt8) (r : ByteArray) (d1 : decide ((150 : Int) < (s.size : Int)) = false) (d2 : decide ((150 : Int) < (r.size : Int)) = false) (hs : s.size ≤ 150) (hr : r.size ≤ 150) (m : Int) (w : World) (hm : Six.At m w) :
    Calls Tryd.prog 5 #[.string s, .int .u8 (c.toNat : Int), .string r] w fun e w' => e = .returned (.bool true) ∧ Below w.heap.size w w' := by
  have HM := Lib.hid hm
  obtain ⟨h, hh⟩ : ∃ h, parH s.data.toList = h := ⟨_, rfl⟩
  obtain ⟨b, hb⟩ : ∃ b, okH s.data.toList = b := ⟨_, rfl⟩
  have H8 := Lib.hid (show h.p.length = 8 by rw [← hh]; exact parH_len _)
  obtain ⟨t, ht⟩ : ∃ t : ByteArray, (⟨(s.data.toList.map upZ).toArray⟩ : ByteArray) = t := ⟨_, rfl⟩
  have htl : t.data.toList = s.data.toList.map upZ := by rw [← ht]
  have hts : t.size = s.size := by rw [← ht]; show (s.data.toList.map upZ).length = _; rw [List.length_map]; rfl
  obtain ⟨x, hx⟩ : ∃ x : ByteArray, s ++ (⟨#[c]⟩ : ByteArray) ++ r = x := ⟨_, rfl⟩
  have lx : x.data.toList = s.data.toList ++ [c] ++ r.data.toList := by rw [← hx]; simp
  have sx : x.size ≤ 400 := by
    have e1 : x.size = x.data.toList.length := rfl
    have e2 : s.data.toList.length = s.size := rfl
    have e3 : r.data.toList.length = r.size := rfl
    rw [e1, lx]; simp; omega
  obtain ⟨g, hg⟩ : ∃ g, parH x.data.toList = g := ⟨_, rfl⟩
  obtain ⟨no, hno⟩ : ∃ no, okH x.data.toList = no := ⟨_, rfl⟩
  have G8 := Lib.hid (show g.p.length = 8 by rw [← hg]; exact parH_len _)
  have HBad := Lib.hid (show badN c.toNat → no = false from fun e => by rw [← hno, lx]; exact bad_no _ c (by simp) e)
  have cP := Lib.hid (fun u (hu : Six.At m u) => parse_any s (by omega) h b hh hb m u hu)
  have cT := Lib.hid (fun u (hu : Six.At m u) => parse_any t (by omega) h b (by rw [htl, up_par, hh]) (by rw [htl, up_ok, hb]) m u hu)
  have cX := Lib.hid (fun u (hu : Six.At m u) => parse_any x (by omega) g no hg hno m u hu)
  have HTx := Lib.hid ht
  have HX := Lib.hid hx
  clear hm hh hb ht htl hts hx lx sx hg hno
  go_enter Tryd.func5, Tryd.ntmps5
  go_wp2_with fail
  refine (awake_calls m _ HM.out).mono ?_
  rintro e u3 ⟨rfl, hB3⟩
  have HB3 := Lib.hid hB3
  have HM3 := Lib.hid (HM.out.later hB3)
  clear hB3 HM
  have hcv := run_bytes_of_string u3 9 32 5 s Tryd.underlying9 Tryd.underlying32 Tryd.underlying5 (P := Tryd.prog)
  generalize grownCap u3 s.size 0 5 = cap at hcv
  go_wp2
  have hB0 : Below u3.heap.size u3 (u3.alloc (.cells (bytesRow s cap) 5 ((bytesRow s cap).size, (bytesRow s cap).size + 1))).drew := ((Below.refl _ u3).alloc (Nat.le_refl _) _).drew
  have hH0 : Ascii.Held (u3.alloc (.cells (bytesRow s cap) 5 ((bytesRow s cap).size, (bytesRow s cap).size + 1))).drew u3.heap.size (Six.mixF upZ s.data.toList 0) := by rw [Six.mixF_zero]; exact Ascii.held_new u3 s cap
  clear hcv
  have HSZ := Lib.hid (show s.data.toList.length = s.size from rfl)
  go_loopw [9] (fun i wr => ∃ k : Nat, k ≤ s.size ∧ i = .int .i64 k ∧ Hid (Ascii.Held wr u3.heap.size (Six.mixF upZ s.data.toList k)) ∧ Hid (Below u3.heap.size u3 wr) ∧ Hid (u3.heap.size < wr.heap.size)) (fun i _ => s.size - (intOf i).toNat)
  case atStart => exact ⟨0, Nat.zero_le _, rfl, Lib.hid hH0, Lib.hid hB0, Lib.hid (by simp)⟩
  case round =>
    clear hH0 hB0
    obtain ⟨k, hk, rfl, HH, HW, HGt⟩ := hrel
    by_cases hlt : k < s.size
    · have hkl : k < s.data.toList.length := hlt
      have hml : k < (Six.mixF upZ s.data.toList k).length := by rw [Six.mixF_length _ _ _ (Nat.le_of_lt hkl)]; exact hkl
      obtain ⟨hc0, hf⟩ := HH.out k hml
      rw [Six.mixF_get _ _ _ hkl] at hc0
      have hcl : wr.cell? ⟨u3.heap.size, k, none⟩ = some (.int .u8 ((s[k]'hlt).toNat : Int)) := hc0
      clear hc0
      have t1 : (k : Int) < s.size := by omega
      clear hkl hml
      by_cases hup : 97 ≤ (s[k].toNat : Int) ∧ (s[k].toNat : Int) ≤ 122
      · obtain ⟨h97, h102⟩ := hup
        have d3 : decide (97 ≤ (s[k].toNat : Int)) = true := decide_eq_true h97
        have d4 : decide ((s[k].toNat : Int) ≤ 122) = true := decide_eq_true h102
        have hlow := Lib.hid (upZ_low s[k] ⟨h97, h102⟩)
        go_wp2
        go_roundw
        case rel =>
          refine ⟨k + 1, by omega, by go_num, Lib.hid ?_, Lib.hid (HW.out.setCell (p := ⟨u3.heap.size, k, none⟩) (Nat.le_refl _) _), Lib.hid (by have := HGt.out; simp; exact this)⟩
          have hml : k < (Six.mixF upZ s.data.toList k).length := by rw [Six.mixF_length _ _ _ (Nat.le_of_lt hlt)]; exact hlt
          have h3 := Ascii.held_set HH.out k hml (upZ s[k])
          rw [hlow.out] at h3
          have h4 := Six.mixF_set upZ s.data.toList k hlt
          rw [← h4]
          exact h3
        case measure => simp [intOf]; omega
      · have hv := Lib.hid (Six.mixF_keep upZ s.data.toList k hlt (upZ_other _ (by show ¬ (97 ≤ s[k].toNat ∧ s[k].toNat ≤ 122); omega)))
        have h2 : decide (97 ≤ (s[k].toNat : Int)) = false ∨ (decide (97 ≤ (s[k].toNat : Int)) = true ∧ decide ((s[k].toNat : Int) ≤ 122) = false) := by
          by_cases h : 97 ≤ (s[k].toNat : Int)
          · exact .inr ⟨decide_eq_true h, decide_eq_false (by omega)⟩
          · exact .inl (decide_eq_false h)
        clear hup
        rcases h2 with d3 | ⟨d3, d4⟩
        all_goals
          go_wp2
          go_roundw
          case rel => exact ⟨k + 1, by omega, by go_num, Lib.hid (by rw [← hv.out]; exact HH.out), HW, HGt⟩
          case measure => simp [intOf]; omega
    · obtain rfl : k = s.size := by omega
      have hH := HH.out
      rw [← HSZ.out, Six.mixF_all] at hH
      have HH2 := Lib.hid hH
      clear hH HH
      have HM4 := Lib.hid (HM3.out.later HW.out)
      have HB4 := Lib.hid (Ascii.below2 HB3.out HW.out)
      clear HM3 HB3
      go_wp2_with fail
      refine (cP.out _ HM4.out).mono ?_
      rintro e u5 ⟨rfl, hB5⟩
      have hBn := below_new u5 h
      have hB5' := Ascii.below2 hB5 hBn
      have HM5 := Lib.hid (show Six.At m (((u5.alloc (.cells #[.int .i64 0, .string ⟨#[]⟩, .int .i64 0, .int .i64 0, .int .i64 0, .int .i64 0, .int .i64 0, .int .i64 0, .int .i64 0, .int .i64 0, .int .i64 0] 24)).setRow u5.heap.size h.cells)) from HM4.out.later hB5')
      have HB5 := Lib.hid (Ascii.below2 HB4.out hB5')
      have HA5 := Lib.hid (show HostAt (((u5.alloc (.cells #[.int .i64 0, .string ⟨#[]⟩, .int .i64 0, .int .i64 0, .int .i64 0, .int .i64 0, .int .i64 0, .int .i64 0, .int .i64 0, .int .i64 0, .int .i64 0] 24)).setRow u5.heap.size h.cells)) u5.heap.size h from host_new u5 h)
      have HN5 := Lib.hid (show HostAt (u5.alloc (.cells #[.int .i64 0, .string ⟨#[]⟩, .int .i64 0, .int .i64 0, .int .i64 0, .int .i64 0, .int .i64 0, .int .i64 0, .int .i64 0, .int .i64 0, .int .i64 0] 24)) u5.heap.size none0 from HostAt.new u5 none0)
      have hgw : u3.heap.size < wr.heap.size := HGt.out
      have hll : (s.data.toList.map upZ).length = s.size := by rw [List.length_map]; exact HSZ.out
      have hcv := run_convert_bytes_back (P := Tryd.prog) ((u5.alloc (.cells none0.cells 24)).setRow u5.heap.size h.cells) 32 9 5 ⟨u3.heap.size, 0, none⟩ cap (s.data.toList.map upZ) Tryd.underlying32 Tryd.underlying5 Tryd.underlying9 (fun j hj => by
        have e : (⟨u3.heap.size, 0, none⟩ : Addr).add j = ⟨u3.heap.size, j, none⟩ := by unfold Addr.add; split <;> simp_all
        rw [e, hBn.cell (p := ⟨u3.heap.size, j, none⟩) (Nat.lt_of_lt_of_le hgw hB5.size), hB5.cell (p := ⟨u3.heap.size, j, none⟩) hgw]
        exact (HH2.out j hj).1)
      rw [hll, HTx.out] at hcv
      have hcv' : (convert 32 9 (.slice (some ⟨u3.heap.size, 0, none⟩) s.size cap)).run Tryd.prog (((u5.alloc (.cells #[.int .i64 0, .string ⟨#[]⟩, .int .i64 0, .int .i64 0, .int .i64 0, .int .i64 0, .int .i64 0, .int .i64 0, .int .i64 0, .int .i64 0, .int .i64 0] 24)).setRow u5.heap.size h.cells)) = .ok (.string t) (((u5.alloc (.cells #[.int .i64 0, .string ⟨#[]⟩, .int .i64 0, .int .i64 0, .int .i64 0, .int .i64 0, .int .i64 0, .int .i64 0, .int .i64 0, .int .i64 0, .int .i64 0] 24)).setRow u5.heap.size h.cells)) := hcv
      clear hB5 hB5' hBn hcv hll hgw HGt HH2 HW HM4 HB4 HTx cP
      go_wp2_with ((with_reducible refine wp_store24 (o := ⟨none, .store 24 (.tmp 10) (.tmp 62), _, _, _, _⟩) ?_ (.tmp 10) (.tmp 62) ?_ u5.heap.size ?_ h ?_ H8.out none0 ?_ HN5.out ?_); (· rfl); (· rfl); (· rfl); (· rfl); (· rfl))
      refine (cT.out _ HM5.out).mono ?_
      rintro e u6 ⟨rfl, hB6⟩
      clear hcv'
      have hB6' := Ascii.below2 hB6 (below_new u6 h)
      have HM6 := Lib.hid (show Six.At m (((u6.alloc (.cells #[.int .i64 0, .string ⟨#[]⟩, .int .i64 0, .int .i64 0, .int .i64 0, .int .i64 0, .int .i64 0, .int .i64 0, .int .i64 0, .int .i64 0, .int .i64 0] 24)).setRow u6.heap.size h.cells)) from HM5.out.later hB6')
      have HB6 := Lib.hid (Ascii.below2 HB5.out hB6')
      have HA6 := Lib.hid (show HostAt (((u6.alloc (.cells #[.int .i64 0, .string ⟨#[]⟩, .int .i64 0, .int .i64 0, .int .i64 0, .int .i64 0, .int .i64 0, .int .i64 0, .int .i64 0, .int .i64 0, .int .i64 0] 24)).setRow u6.heap.size h.cells)) u5.heap.size h from HA5.out.later hB6')
      have HT6 := Lib.hid (show HostAt (((u6.alloc (.cells #[.int .i64 0, .string ⟨#[]⟩, .int .i64 0, .int .i64 0, .int .i64 0, .int .i64 0, .int .i64 0, .int .i64 0, .int .i64 0, .int .i64 0, .int .i64 0] 24)).setRow u6.heap.size h.cells)) u6.heap.size h from host_new u6 h)
      have HN6 := Lib.hid (show HostAt (u6.alloc (.cells #[.int .i64 0, .string ⟨#[]⟩, .int .i64 0, .int .i64 0, .int .i64 0, .int .i64 0, .int .i64 0, .int .i64 0, .int .i64 0, .int .i64 0, .int .i64 0] 24)) u6.heap.size none0 from HostAt.new u6 none0)
      have hBone : Below (((u6.alloc (.cells #[.int .i64 0, .string ⟨#[]⟩, .int .i64 0, .int .i64 0, .int .i64 0, .int .i64 0, .int .i64 0, .int .i64 0, .int .i64 0, .int .i64 0, .int .i64 0] 24)).setRow u6.heap.size h.cells)).heap.size (((u6.alloc (.cells #[.int .i64 0, .string ⟨#[]⟩, .int .i64 0, .int .i64 0, .int .i64 0, .int .i64 0, .int .i64 0, .int .i64 0, .int .i64 0, .int .i64 0, .int .i64 0] 24)).setRow u6.heap.size h.cells)) ((((u6.alloc (.cells #[.int .i64 0, .string ⟨#[]⟩, .int .i64 0, .int .i64 0, .int .i64 0, .int .i64 0, .int .i64 0, .int .i64 0, .int .i64 0, .int .i64 0, .int .i64 0] 24)).setRow u6.heap.size h.cells)).alloc (.cells #[.int .u8 (c.toNat : Int)] 5)) := (Below.refl _ _).alloc (Nat.le_refl _) _
      have HBone := Lib.hid hBone
      have hone := one_conv (((u6.alloc (.cells #[.int .i64 0, .string ⟨#[]⟩, .int .i64 0, .int .i64 0, .int .i64 0, .int .i64 0, .int .i64 0, .int .i64 0, .int .i64 0, .int .i64 0, .int .i64 0] 24)).setRow u6.heap.size h.cells)) c
      rw [show (((u6.alloc (.cells #[.int .i64 0, .string ⟨#[]⟩, .int .i64 0, .int .i64 0, .int .i64 0, .int .i64 0, .int .i64 0, .int .i64 0, .int .i64 0, .int .i64 0, .int .i64 0] 24)).setRow u6.heap.size h.cells)).heap.size = u6.heap.size + 1 by simp] at hone
      clear hB6 hB6' hBone HM5 HB5 HA5 HN5 cT
      have heq := fun u => eq24 h h H8.out H8.out true (same_refl h) u
      have bb : (b == b) = true := by simp
      rcases bad9 c with ⟨hbad, hways⟩ | ⟨f1, f2, f3, f4, f5, f6, f7, f8⟩
      · obtain rfl := HBad.out hbad
        clear hbad HBad
        rcases hways with f1 | ⟨f1, f2⟩ | ⟨f1, f2, f3⟩ | ⟨f1, f2, f3, f4⟩ | ⟨f1, f2, f3, f4, f5⟩ | ⟨f1, f2, f3, f4, f5, f6⟩ | ⟨f1, f2, f3, f4, f5, f6, f7⟩ | ⟨f1, f2, f3, f4, f5, f6, f7, f8⟩
        all_goals
          go_wp2_with ((with_reducible refine wp_store24 (o := ⟨none, .store 24 (.tmp 12) (.tmp 68), _, _, _, _⟩) ?_ (.tmp 12) (.tmp 68) ?_ u6.heap.size ?_ h ?_ H8.out none0 ?_ HN6.out ?_); (· rfl); (· rfl); (· rfl); (· rfl); (· rfl))
          rw [HX.out]
          refine (cX.out _ (HM6.out.later HBone.out)).mono ?_
          rintro e u7 ⟨rfl, hB7⟩
          have hB7' := Ascii.below3 HBone.out hB7 (below_new u7 g)
          have HB7 := Lib.hid (Ascii.below2 HB6.out hB7')
          have HA7 := Lib.hid (show HostAt (((u7.alloc (.cells #[.int .i64 0, .string ⟨#[]⟩, .int .i64 0, .int .i64 0, .int .i64 0, .int .i64 0, .int .i64 0, .int .i64 0, .int .i64 0, .int .i64 0, .int .i64 0] 24)).setRow u7.heap.size g.cells)) u5.heap.size h from HA6.out.later hB7')
          have HT7 := Lib.hid (show HostAt (((u7.alloc (.cells #[.int .i64 0, .string ⟨#[]⟩, .int .i64 0, .int .i64 0, .int .i64 0, .int .i64 0, .int .i64 0, .int .i64 0, .int .i64 0, .int .i64 0, .int .i64 0] 24)).setRow u7.heap.size g.cells)) u6.heap.size h from HT6.out.later hB7')
          have HN7 := Lib.hid (show HostAt (u7.alloc (.cells #[.int .i64 0, .string ⟨#[]⟩, .int .i64 0, .int .i64 0, .int .i64 0, .int .i64 0, .int .i64 0, .int .i64 0, .int .i64 0, .int .i64 0, .int .i64 0] 24)) u7.heap.size none0 from HostAt.new u7 none0)
          clear hB7 hB7' HM6 HB6 HA6 HT6 HN6 cX HBone hone
          go_wp2_with (first
            | ((with_reducible refine wp_store24 (o := ⟨none, .store 24 (.tmp 15) (.tmp 109), _, _, _, _⟩) ?_ (.tmp 15) (.tmp 109) ?_ u7.heap.size ?_ g ?_ G8.out none0 ?_ HN7.out ?_); (· rfl); (· rfl); (· rfl); (· rfl); (· rfl))
            | ((with_reducible refine wp_load24 (o := ⟨some 115, .load 24 (.tmp 10), _, _, _, _⟩) ?_ (.tmp 10) ?_ u5.heap.size ?_ h H8.out HA7.out ?_); (· rfl); (· rfl); (· rfl))
            | ((with_reducible refine wp_load24 (o := ⟨some 116, .load 24 (.tmp 12), _, _, _, _⟩) ?_ (.tmp 12) ?_ u6.heap.size ?_ h H8.out HT7.out ?_); (· rfl); (· rfl); (· rfl)))
          go_ret
          exact ⟨rfl, HB7.out⟩
      · go_wp2_with ((with_reducible refine wp_store24 (o := ⟨none, .store 24 (.tmp 12) (.tmp 68), _, _, _, _⟩) ?_ (.tmp 12) (.tmp 68) ?_ u6.heap.size ?_ h ?_ H8.out none0 ?_ HN6.out ?_); (· rfl); (· rfl); (· rfl); (· rfl); (· rfl))
        rw [HX.out]
        refine (cX.out _ (HM6.out.later HBone.out)).mono ?_
        rintro e u7 ⟨rfl, hB7⟩
        have hB7' := Ascii.below3 HBone.out hB7 (below_new u7 g)
        have HB7 := Lib.hid (Ascii.below2 HB6.out hB7')
        have HA7 := Lib.hid (show HostAt (((u7.alloc (.cells #[.int .i64 0, .string ⟨#[]⟩, .int .i64 0, .int .i64 0, .int .i64 0, .int .i64 0, .int .i64 0, .int .i64 0, .int .i64 0, .int .i64 0, .int .i64 0] 24)).setRow u7.heap.size g.cells)) u5.heap.size h from HA6.out.later hB7')
        have HT7 := Lib.hid (show HostAt (((u7.alloc (.cells #[.int .i64 0, .string ⟨#[]⟩, .int .i64 0, .int .i64 0, .int .i64 0, .int .i64 0, .int .i64 0, .int .i64 0, .int .i64 0, .int .i64 0, .int .i64 0] 24)).setRow u7.heap.size g.cells)) u6.heap.size h from HT6.out.later hB7')
        have HN7 := Lib.hid (show HostAt (u7.alloc (.cells #[.int .i64 0, .string ⟨#[]⟩, .int .i64 0, .int .i64 0, .int .i64 0, .int .i64 0, .int .i64 0, .int .i64 0, .int .i64 0, .int .i64 0, .int .i64 0] 24)) u7.heap.size none0 from HostAt.new u7 none0)
        clear hB7 hB7' HM6 HB6 HA6 HT6 HN6 cX HBone hone
        go_wp2_with (first
          | ((with_reducible refine wp_store24 (o := ⟨none, .store 24 (.tmp 15) (.tmp 109), _, _, _, _⟩) ?_ (.tmp 15) (.tmp 109) ?_ u7.heap.size ?_ g ?_ G8.out none0 ?_ HN7.out ?_); (· rfl); (· rfl); (· rfl); (· rfl); (· rfl))
          | ((with_reducible refine wp_load24 (o := ⟨some 115, .load 24 (.tmp 10), _, _, _, _⟩) ?_ (.tmp 10) ?_ u5.heap.size ?_ h H8.out HA7.out ?_); (· rfl); (· rfl); (· rfl))
          | ((with_reducible refine wp_load24 (o := ⟨some 116, .load 24 (.tmp 12), _, _, _, _⟩) ?_ (.tmp 12) ?_ u6.heap.size ?_ h H8.out HT7.out ?_); (· rfl); (· rfl); (· rfl)))
        go_ret
        exact ⟨rfl, HB7.out⟩
theorem walk (s : ByteArray) (z : Int) (r : ByteArray) (w0 : s.size ≤ maxLen) (w1 : (Lit.int .u8 z).wf = true) (w2 : r.size ≤ maxLen) (m : Int) (w : World) (hm : Six.At m w) :
    Calls Tryd.prog 5 #[.string s, .int .u8 z, .string r] w fun e w' => e = .returned (.bool true) ∧ Below w.heap.size w w' := by
  have hz : 0 ≤ z ∧ z ≤ 255 := by
    simp [Lit.wf] at w1
    have h1 : IntKind.u8.min = 0 := by decide
    have h2 : IntKind.u8.max = 255 := by decide
    omega
  obtain ⟨c, rfl⟩ : ∃ c : UInt8, z = (c.toNat : Int) := ⟨UInt8.ofNat z.toNat, by rw [UInt8.toNat_ofNat']; omega⟩
  by_cases h1 : s.size ≤ 150
  · by_cases h2 : r.size ≤ 150
    · exact walkIn s c r (decide_eq_false (by omega)) (decide_eq_false (by omega)) h1 h2 m w hm
    · exact walkLong s c r (.inr ⟨decide_eq_false (by omega), decide_eq_true (by omega)⟩) m w hm
  · exact walkLong s c r (.inl (decide_eq_true (by omega))) m w hm

/-! ### The row's step -/
theorem reads (os : Os) {H : Type} (enc : TypeId × Value → H) : (DataW.whole enc Tryd.prog ((Card.laidWorld os).forCall (fun _ _ => 0) ⟨#[], #[.string ByteArray.empty, .int .u8 0, .string ByteArray.empty], []⟩).memory Tryd.f5.params.toList Rows.hostCaseSpec.vars false (#[.string ByteArray.empty, .int .u8 0, .string ByteArray.empty] : Array Value).toList 8).map (fun x => (x.1, x.2.1)) = some ([.lit (.string []), .lit (.int .u8 0), .lit (.string [])], []) := by kernel_rfl
set_option maxRecDepth 100000 in
theorem lifted (os : Os) (started : os.Started) (H : Type) (enc : TypeId × Value → H) (F : Stop.Interp) :
    ReturnsInHanded {} Tryd.checked os 5 .any ((OpenSpec.ofChange Rows.hostCaseSpec).preRow enc Tryd.prog Tryd.f5 Rows.hostCaseRow.domain false Rows.hostCaseRow.laid) (((OpenSpec.ofChange Rows.hostCaseSpec).at F).post enc Tryd.prog Tryd.f5 false true false false) := by
  obtain ⟨⟨x1, x2, x3⟩, hx, hx1⟩ := Option.map_eq_some_iff.1 (reads os enc)
  simp only [Prod.mk.injEq] at hx1
  obtain ⟨rfl, rfl⟩ := hx1
  refine returnsInHanded_of_row (C := Tryd.checked) (s := OpenSpec.ofChange Rows.hostCaseSpec) own started (by kernel_rfl) Tryd.func5
    (witness_row_at (enc := enc) (C := Tryd.checked) false (Card.laidWorld os) #[.string ByteArray.empty, .int .u8 0, .string ByteArray.empty] rfl (by kernel_rfl) (by kernel_rfl) (by kernel_rfl)
      (OpenSpec.preRow_of_cond 8 hx (by kernel_rfl) (fun k hk => by cases hk) (by kernel_rfl) (Card.laid_met os _))) ?_
  intro W base args ds gs before hval0 hW _ _ _ hL hsh _
  obtain ⟨m, hmax⟩ := Card.maxLen_int hsh
  have hm : Six.At m W := ⟨hmax, Six.tab_of hL⟩
  have hval : ∀ (j : Nat) t v, Tryd.f5.params[j]? = some t → args[j]? = some v → Value.okWide Tryd.prog W .any base t v := hval0
  have hW' := hW
  obtain ⟨p, q, hA0, hV, rfl, hfz, hnd⟩ := hW
  have hA : DataW.TrodAll enc Tryd.prog W 0 (fun _ => true) true Tryd.f5.params.toList args.toList ds p := hA0
  rw [Tryd.params5] at hA hval
  obtain ⟨v0, vs0, d0, ds0, p0, q0, hargs0, rfl, rfl, t0, r0⟩ := trodAll_cons hA
  obtain ⟨v1, vs1, d1, ds1, p1, q1, hargs1, rfl, rfl, t1, r1⟩ := trodAll_cons r0
  obtain ⟨v2, vs2, d2, ds2, p2, q2, hargs2, rfl, rfl, t2, r2⟩ := trodAll_cons r1
  obtain ⟨rfl, rfl, rfl⟩ := trodAll_nil r2
  obtain rfl : args = #[v0, v1, v2] := by cases args; simp_all
  obtain ⟨rfl, rfl⟩ := trodVars_none hV
  obtain ⟨a0, rfl, rfl, rfl, w0⟩ := open_string Tryd.underlying9 (hval 0 9 v0 rfl rfl) t0
  obtain ⟨a1, rfl, rfl, rfl, w1⟩ := open_int Tryd.underlying5 (hval 1 5 v1 rfl rfl) t1
  obtain ⟨a2, rfl, rfl, rfl, w2⟩ := open_string Tryd.underlying9 (hval 2 9 v2 rfl rfl) t2
  clear hA0 hval0
  simp only [List.append_nil] at hW'
  refine (walk a0 a1 a2 w0 w1 w2 m W hm).mono fun e W' ⟨he, hg⟩ => ?_
  subst he
  exact ⟨_, rfl, _, _, _, [], _, [], hW', trodAll_mk1 (shut_bool Tryd.underlying4 _), (trodAll_cons_mk (shut_string Tryd.underlying9 w0) (trodAll_cons_mk (shut_int Tryd.underlying5 w1) (trodAll_cons_mk (shut_string Tryd.underlying9 w2) trodAll_mk0))), rfl, hg.frame _, fun h => by cases h⟩

theorem said : Rows.hostCaseRow.holds Tryd.pinned (OpenSpec.ofChange Rows.hostCaseSpec) :=
  OpenClaim.holds_of_cond 5 Tryd.f5 rfl rfl rfl rfl rfl rfl rfl ⟨rfl, rfl, rfl, rfl, rfl⟩ rfl rfl rfl rfl rfl (by kernel_rfl) Tryd.func5 (by kernel_rfl)
    (of_decide_eq_true (by kernel_rfl)) (by unfold Func.isWrapper; first | (rw [if_pos (by decide +kernel)]; kernel_rfl) | (rw [if_neg (by decide +kernel)]; exact ⟨rfl, rfl⟩))
    (fun os started H enc _ F => by rw [OpenClaim.pre_eq_preRow]; exact lifted os started H enc F)

/-- No parameter wants a stand-in; the program's own looks are on (a type switch over an interface's values). -/
theorem plain (f : FuncId) (fn : Func) (hf : Tryd.pinned.checked.prog.funcNamed Rows.hostCaseRow.func = some f) (hfn : Tryd.pinned.checked.prog.funcs[f]? = some fn) :
    true = Tryd.pinned.checked.prog.looks [] ∧ ∀ (j : Nat) t, fn.params[j]? = some t → Tryd.pinned.checked.prog.wantsStandIn t = false := by
  obtain rfl : f = 5 := Option.some.inj ((show Tryd.prog.funcNamed Rows.hostCaseRow.func = some 5 by kernel_rfl).symm.trans hf) |>.symm
  obtain rfl : fn = Tryd.f5 := (Option.some.inj (Tryd.func5.symm.trans hfn)).symm
  refine ⟨by kernel_rfl, fun j t ht => ?_⟩
  rw [Tryd.params5] at ht
  obtain rfl | rfl | rfl : t = 9 ∨ t = 5 ∨ t = 9 := by simpa using Array.mem_of_getElem? ht
  · exact (show Tryd.prog.wantsStandIn 9 = false by kernel_rfl)
  · exact (show Tryd.prog.wantsStandIn 5 = false by kernel_rfl)
  · exact (show Tryd.prog.wantsStandIn 9 = false by kernel_rfl)

/-- The statement: the card. -/
theorem proved : Rows.HostCaseCardSaid :=
  Claim7.holds_tied_plain_at .later [] _ _ _ _ said (fun _ h => by cases h) (by kernel_rfl) (fun _ h => by cases h) hostCase_row_tie rfl ⟨rfl, rfl⟩ (by kernel_rfl) rfl plain (by kernel_rfl)
#print axioms proved
end Go.Proofs.YtidmlhefdjpafaaDoor.hostCase

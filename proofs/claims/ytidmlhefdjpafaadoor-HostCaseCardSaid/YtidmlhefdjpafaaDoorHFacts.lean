/-
  Hosts: plain facts.
-/
import Derived.Test.YtidmlhefdjpafaaDoorFour
import Derived.Test.YtidmlhefdjpafaaDoorSix
namespace Go.Proofs.YtidmlhefdjpafaaDoor.Host
open Go.RowKit
set_option linter.unusedSimpArgs false
set_option linter.unusedVariables false
/-- A byte of a domain's part. -/
def namedB (c : UInt8) : Bool := Ascii.alphaB (c.toNat : Int) || (Ascii.digitB (c.toNat : Int) || (decide ((c.toNat : Int) = 45) || decide ((c.toNat : Int) = 95)))
def namedL (l : List UInt8) : Bool := l.all namedB && !l.isEmpty
/-- The parts between dots. -/
def dots : List UInt8 → List (List UInt8)
  | [] => [[]]
  | c :: r => if c = 46 then [] :: dots r else match dots r with
    | [] => [[c]]
    | h :: t => (c :: h) :: t
def partsB (l : List UInt8) : Bool := (dots l).all namedL
/-- A domain's name. -/
def domB (l : List UInt8) : Bool := decide (l.length ≤ 100) && ((l == Ascii.lower l) && (!Four.lookB l && partsB l))
theorem dots_ne (l : List UInt8) : dots l ≠ [] := by
  cases l with
  | nil => simp [dots]
  | cons c r => unfold dots; split <;> (try split) <;> simp
theorem dots_none (l : List UInt8) (h : (46 : UInt8) ∉ l) : dots l = [l] := by
  induction l with
  | nil => rfl
  | cons c r ih =>
    simp only [List.mem_cons, not_or] at h
    unfold dots
    rw [if_neg (fun e => h.1 e.symm), ih h.2]
theorem dots_cons (a r : List UInt8) (h : (46 : UInt8) ∉ a) : dots (a ++ 46 :: r) = a :: dots r := by
  induction a with
  | nil => simp [dots]
  | cons c a ih =>
    simp only [List.mem_cons, not_or] at h
    rw [List.cons_append]
    conv => lhs; unfold dots
    rw [if_neg (fun e => h.1 e.symm), ih h.2]
theorem dotInd {p : List UInt8 → Prop} (h0 : ∀ l, (46 : UInt8) ∉ l → p l) (h1 : ∀ a r, (46 : UInt8) ∉ a → p r → p (a ++ 46 :: r)) (l : List UInt8) : p l := by
  have key : ∀ n (l : List UInt8), l.length ≤ n → p l := by
    intro n
    induction n with
    | zero =>
      intro l hl
      obtain rfl : l = [] := List.eq_nil_of_length_eq_zero (by omega)
      exact h0 [] (by simp)
    | succ n ih =>
      intro l hl
      rcases Four.first_dot l with h | ⟨a, r, rfl, ha⟩
      · exact h0 l h
      · exact h1 a r ha (ih r (by simp at hl; omega))
  exact key _ l (Nat.le_refl _)
/-- What strings.Split cuts. -/
theorem split_dots (l : List UInt8) : Lib.splitK [46] 0 (Lib.count l [46]) l = dots l := by
  refine dotInd (p := fun l => Lib.splitK [46] 0 (Lib.count l [46]) l = dots l) (fun l h => ?_) (fun a r ha ih => ?_) l
  · rw [Four.split_none _ _ h, dots_none _ h]
  · have hc := Lib.count_hit (sub := [46]) (by simp) (Four.idx_some a r ha)
    rw [show (a ++ 46 :: r).drop (a.length + ([46] : List UInt8).length) = r by simp] at hc
    rw [hc, Nat.add_comm, Four.split_dot _ _ _ ha, dots_cons _ _ ha, ih]
theorem parts_dot (a r : List UInt8) (ha : (46 : UInt8) ∉ a) : partsB (a ++ 46 :: r) = (namedL a && partsB r) := by unfold partsB; rw [dots_cons _ _ ha, List.all_cons]
theorem parts_one (a : List UInt8) (ha : (46 : UInt8) ∉ a) : partsB a = namedL a := by unfold partsB; rw [dots_none _ ha]; simp
theorem parts_all (l : List UInt8) : partsB l = true → ∀ c ∈ l, namedB c = true ∨ c = 46 := by
  refine dotInd (p := fun l => partsB l = true → ∀ c ∈ l, namedB c = true ∨ c = 46) (fun l h => ?_) (fun a r ha ih => ?_) l
  · rw [parts_one _ h]
    intro hn c hc
    unfold namedL at hn
    rw [Bool.and_eq_true] at hn
    exact .inl (List.all_eq_true.1 hn.1 c hc)
  · rw [parts_dot _ _ ha, Bool.and_eq_true]
    rintro ⟨h1, h2⟩ c hc
    unfold namedL at h1
    rw [Bool.and_eq_true] at h1
    rcases List.mem_append.1 hc with hc | hc
    · exact .inl (List.all_eq_true.1 h1.1 c hc)
    · rcases List.mem_cons.1 hc with rfl | hc
      · exact .inr rfl
      · exact ih h2 c hc
theorem parts_nil : partsB [] = false := by decide +kernel
/-- A name with a dot and a part behind it. -/
theorem parts_behind (b : List UInt8) (hb : (46 : UInt8) ∉ b) (l : List UInt8) : partsB (l ++ 46 :: b) = (partsB l && namedL b) := by
  refine dotInd (p := fun l => partsB (l ++ 46 :: b) = (partsB l && namedL b)) (fun l h => ?_) (fun a r ha ih => ?_) l
  · rw [parts_dot _ _ h, parts_one _ h, parts_one _ hb]
  · rw [List.append_assoc, List.cons_append, parts_dot _ _ ha, ih, parts_dot _ _ ha, Bool.and_assoc]
theorem dom_iff (l : List UInt8) : domB l = true ↔ l.length ≤ 100 ∧ l = Ascii.lower l ∧ Four.lookB l = false ∧ partsB l = true := by
  unfold domB
  rw [Bool.and_eq_true, Bool.and_eq_true, Bool.and_eq_true, decide_eq_true_iff, beq_iff_eq, Bool.not_eq_true']
theorem dom_ne (l : List UInt8) (h : domB l = true) : l ≠ [] := by
  rintro rfl
  have := ((dom_iff _).1 h).2.2.2
  rw [parts_nil] at this
  cases this
/-- What a byte of a name, or a dot, is not. -/
theorem byte_all : ∀ n : Fin 256, (namedB (UInt8.ofNat n.val) = true ∨ UInt8.ofNat n.val = 46) → (32 < n.val ∧ n.val < 127 ∧ n.val ≠ 47 ∧ n.val ≠ 63 ∧ n.val ≠ 35 ∧ n.val ≠ 64 ∧ n.val ≠ 92 ∧ n.val ≠ 58 ∧ n.val ≠ 91 ∧ n.val ≠ 93 ∧ n.val ≠ 37) := by decide +kernel
theorem byte_not (c : UInt8) (h : namedB c = true ∨ c = 46) : 32 < c.toNat ∧ c.toNat < 127 ∧ c.toNat ≠ 47 ∧ c.toNat ≠ 63 ∧ c.toNat ≠ 35 ∧ c.toNat ≠ 64 ∧ c.toNat ≠ 92 ∧ c.toNat ≠ 58 ∧ c.toNat ≠ 91 ∧ c.toNat ≠ 93 ∧ c.toNat ≠ 37 := by
  have := byte_all ⟨c.toNat, c.toNat_lt⟩
  simp only [UInt8.ofNat_toNat] at this
  exact this h
theorem low_cap (c : UInt8) (h : Ascii.lowB c = c) : ¬ (65 ≤ c.toNat ∧ c.toNat ≤ 90) := by
  intro ⟨h1, h2⟩
  have := Ascii.lowB_toNat c
  rw [h] at this
  unfold Ascii.lowI at this
  rw [if_pos ⟨by omega, by omega⟩] at this
  omega
theorem lower_mem (l : List UInt8) (h : l = Ascii.lower l) (c : UInt8) (hc : c ∈ l) : Ascii.lowB c = c := by
  unfold Ascii.lower at h
  obtain ⟨j, hj, rfl⟩ := List.mem_iff_getElem.1 hc
  have h2 := congrArg (fun x => x[j]?) h
  simp only [List.getElem?_map, List.getElem?_eq_getElem hj, Option.map_some, Option.some.injEq] at h2
  exact h2.symm
end Go.Proofs.YtidmlhefdjpafaaDoor.Host

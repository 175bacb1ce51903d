/-
  A text whose letters a to f are capital tells the pieces that it tells; bytes changed one by one.
-/
import Derived.Test.YtgfhjigalefkmaaDoorSShown
namespace Go.Proofs.YtgfhjigalefkmaaDoor.Six
open Go.RowKit
set_option linter.unusedSimpArgs false
set_option linter.unusedVariables false
/-- A letter from a to f as a capital one. -/
def upF (c : UInt8) : UInt8 := if 97 ≤ c.toNat ∧ c.toNat ≤ 102 then c - 32 else c
theorem upF_all : ∀ n : Fin 256, hexV (upF (UInt8.ofNat n.val)) = hexV (UInt8.ofNat n.val) ∧ (upF (UInt8.ofNat n.val) = 58 ↔ UInt8.ofNat n.val = 58) ∧ ((97 ≤ n.val ∧ n.val ≤ 102) → (upF (UInt8.ofNat n.val)).toNat = n.val - 32) := by decide +kernel
theorem upF_at (c : UInt8) : hexV (upF c) = hexV c ∧ (upF c = 58 ↔ c = 58) ∧ ((97 ≤ c.toNat ∧ c.toNat ≤ 102) → (upF c).toNat = c.toNat - 32) := by
  have h := upF_all ⟨c.toNat, c.toNat_lt⟩
  simp only [UInt8.ofNat_toNat] at h
  exact h
theorem upF_hex (c : UInt8) : hexV (upF c) = hexV c := (upF_at c).1
theorem upF_colon (c : UInt8) : upF c = 58 ↔ c = 58 := (upF_at c).2.1
theorem upF_other (c : UInt8) (h : ¬ (97 ≤ c.toNat ∧ c.toNat ≤ 102)) : upF c = c := by unfold upF; rw [if_neg h]
/-- A change of bytes that a piece's text does not see. -/
structure Unseen (f : UInt8 → UInt8) : Prop where
  hex : ∀ c, hexV (f c) = hexV c
  colon : ∀ c, f c = 58 ↔ c = 58
theorem upF_unseen : Unseen upF := ⟨upF_hex, upF_colon⟩
theorem up_parts {f : UInt8 → UInt8} (hf : Unseen f) (l : List UInt8) : parts (l.map f) = (parts l).map (List.map f) := by
  induction l with
  | nil => rfl
  | cons c r ih =>
    rw [List.map_cons]
    unfold parts
    by_cases h : c = 58
    · rw [if_pos ((hf.colon c).2 h), if_pos h, ih]; rfl
    · rw [if_neg (fun e => h ((hf.colon c).1 e)), if_neg h, ih]
      cases hp : parts r with
      | nil => exact absurd hp (parts_ne r)
      | cons x t => rfl
theorem up_cut {f : UInt8 → UInt8} (hf : Unseen f) (l : List UInt8) : cutL (l.map f) = ((cutL l).1.map f, (cutL l).2.1.map f, (cutL l).2.2) := by
  fun_induction cutL l with
  | case1 r =>
    have e : f 58 = 58 := (hf.colon 58).2 rfl
    rw [List.map_cons, List.map_cons, e]
    rfl
  | case2 c r hne ih =>
    rw [List.map_cons, cutL_ne _ _ ?_, ih]
    · rfl
    · by_cases hc : c = 58
      · right
        intro h
        cases r with
        | nil => simp at h
        | cons d r =>
          simp only [List.map_cons, List.head?_cons, Option.some.injEq] at h
          have hd := (hf.colon d).1 h
          subst hc
          subst hd
          exact absurd rfl (hne r rfl)
      · exact .inl fun e => hc ((hf.colon c).1 e)
  | case3 => rfl
theorem up_okP {f : UInt8 → UInt8} (hf : Unseen f) (t : List UInt8) : okP (t.map f) = okP t := by
  unfold okP
  rw [List.length_map, List.all_map]
  congr 2
  refine congrArg (fun f => List.all t f) (funext fun c => ?_)
  show okC (f c) = okC c
  unfold okC
  rw [hf.hex]
theorem up_val {f : UInt8 → UInt8} (hf : Unseen f) (t : List UInt8) : valN (t.map f) = valN t := by
  unfold valN
  rw [List.foldl_map]
  simp only [hf.hex]
theorem up_okL {f : UInt8 → UInt8} (hf : Unseen f) (l : List UInt8) : okL (l.map f) = okL l := by
  unfold okL
  rw [up_parts hf, List.all_map, List.isEmpty_map]
  congr 1
  exact congrArg (fun f => List.all (parts l) f) (funext fun t => up_okP hf t)
theorem up_valL {f : UInt8 → UInt8} (hf : Unseen f) (l : List UInt8) : valL (l.map f) = valL l := by
  unfold valL
  rw [up_parts hf, List.map_map, List.isEmpty_map]
  congr 1
  exact List.map_congr_left fun t _ => up_val hf t
theorem up_parB {f : UInt8 → UInt8} (hf : Unseen f) (l : List UInt8) : parB (l.map f) = parB l := by
  unfold parB
  rw [up_cut hf]
  simp only [up_okL hf, up_valL hf]
theorem up_parI {f : UInt8 → UInt8} (hf : Unseen f) (l : List UInt8) : parI (l.map f) = parI l := by
  unfold parI
  rw [up_parB hf, up_cut hf]
  simp only [up_valL hf]

/-! ### Bytes changed one by one -/
/-- The first k changed. -/
def mixF (f : UInt8 → UInt8) (l : List UInt8) (k : Nat) : List UInt8 := (l.take k).map f ++ l.drop k
theorem mixF_length (f : UInt8 → UInt8) (l : List UInt8) (k : Nat) (h : k ≤ l.length) : (mixF f l k).length = l.length := by simp [mixF]; omega
theorem mixF_get? (f : UInt8 → UInt8) (l : List UInt8) (k : Nat) (h : k < l.length) : (mixF f l k)[k]? = some l[k] := by
  have hl : ((l.take k).map f).length = k := by simp; omega
  unfold mixF
  rw [List.getElem?_append_right (by omega), hl, Nat.sub_self, List.drop_eq_getElem_cons h]
  rfl
theorem mixF_get (f : UInt8 → UInt8) (l : List UInt8) (k : Nat) (h : k < l.length) (h' : k < (mixF f l k).length) : (mixF f l k)[k] = l[k] :=
  Option.some.inj ((List.getElem?_eq_getElem h').symm.trans (mixF_get? f l k h))
theorem mixF_set (f : UInt8 → UInt8) (l : List UInt8) (k : Nat) (h : k < l.length) : (mixF f l k).set k (f l[k]) = mixF f l (k + 1) := by
  unfold mixF
  have hl : ((l.take k).map f).length = k := by simp; omega
  rw [List.set_append_right _ _ (by omega), hl, Nat.sub_self, List.drop_eq_getElem_cons h, List.set_cons_zero, List.take_succ_eq_append_getElem h, List.map_append, List.append_assoc]
  rfl
theorem mixF_keep (f : UInt8 → UInt8) (l : List UInt8) (k : Nat) (h : k < l.length) (hc : f l[k] = l[k]) : mixF f l k = mixF f l (k + 1) := by
  unfold mixF
  rw [List.drop_eq_getElem_cons h, List.take_succ_eq_append_getElem h, List.map_append, List.append_assoc]
  simp [hc]
theorem mixF_zero (f : UInt8 → UInt8) (l : List UInt8) : mixF f l 0 = l := by simp [mixF]
theorem mixF_all (f : UInt8 → UInt8) (l : List UInt8) : mixF f l l.length = l.map f := by simp [mixF]
end Go.Proofs.YtgfhjigalefkmaaDoor.Six

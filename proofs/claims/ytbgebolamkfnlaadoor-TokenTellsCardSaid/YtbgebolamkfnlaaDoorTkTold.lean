/-
  Told(l); the chapter's example.
-/
import Derived.Test.YtbgebolamkfnlaaDoorTkLast
import Derived.Test.YtbgebolamkfnlaaDoorHdOut
namespace Go.Proofs.YtbgebolamkfnlaaDoor.Token
set_option linter.unusedSimpArgs false
set_option linter.unusedVariables false
set_option maxRecDepth 100000


open Go.RowKit Go.Shelf

open Url

open Path (Strs tx MaxAt)

open Head (F tb tb_of tb_list tb_toList tb_size Flds FAt trimB trim_any trim_len getT getB get_any)


def rpB : ByteArray := ⟨#[82, 101, 102, 101, 114, 114, 101, 114, 45, 80, 111, 108, 105, 99, 121]⟩

theorem rpB_is : rpB.data.toList = rp := rfl

set_option maxRecDepth 100000 in
set_option maxHeartbeats 2000000 in
theorem told_any (v : Value) (l : List F) (hl : l.length ≤ 100000) (hs : ∀ f ∈ l, f.1.length ≤ 1000000 ∧ f.2.length ≤ 1000000) (hg : (getT l rp).length ≤ 1000000) (m : Int) (w : World) (hm : TokAt m w) (h : Flds w v l) :
    Calls Tryd.prog 20 #[v] w fun e w' => e = .returned (.int .i64 (toldB l : Nat)) ∧ Below w.heap.size w w' := by
  have cG := get_any v l hl hs rpB (by decide) w h
  rw [rpB_is] at cG
  obtain ⟨a, c, rfl, -⟩ := h
  have cL := fun u (hu : TokAt m u) => last_any (tb (getT l rp)) (by rw [tb_size]; exact hg) m u hu
  rw [tb_list] at cL
  unfold toldB
  generalize lastB (getT l rp) = p at cL ⊢
  generalize tb (getT l rp) = G at cG cL
  clear hg
  go_enter Tryd.func20, Tryd.ntmps20
  go_wp2_with fail
  refine cG.mono ?_
  rintro e w1 ⟨rfl, hB1⟩
  go_wp2_with fail
  refine (cL w1 (hm.later hB1)).mono ?_
  rintro e w2 ⟨rfl, hB2⟩
  go_wp2
  go_ret
  exact ⟨rfl, Ascii.below2 hB1 hB2⟩

/-- Of few fields, and short ones. -/
theorem get_size (l : List F) (n : T) (h1 : l.length ≤ 61) (h2 : ∀ f ∈ l, f.1.length ≤ 300 ∧ f.2.length ≤ 300) : (getT l n).length ≤ 1000000 := by
  have h3 := Head.join_len (Head.allL l n) 300 (fun t ht => by obtain ⟨f, hf, rfl⟩ := Head.all_mem l n t ht; exact (h2 f hf).2)
  have h4 := Head.all_len l n
  have h5 : (Head.allL l n).length * (300 + 2) ≤ 61 * 302 := Nat.mul_le_mul (by omega) (by omega)
  show (Lib.join (Head.allL l n) [44, 32]).length ≤ 1000000
  omega

/-! ### The chapter's example -/

def exS : T := [111, 114, 105, 103, 105, 110, 44, 32, 115, 111, 109, 101, 116, 104, 105, 110, 103, 44, 32, 115, 97, 109, 101, 45, 111, 114, 105, 103, 105, 110, 44, 32, 101, 108, 115, 101]

def exL : List F := [([114, 101, 102, 101, 114, 114, 101, 114, 45, 112, 111, 108, 105, 99, 121], [111, 114, 105, 103, 105, 110, 44, 32, 120])]

theorem ex_last : lastB exS = 3 := by decide +kernel

theorem ex_pol : polB [79, 82, 73, 71, 73, 78] = 4 := by decide +kernel

theorem ex_name : nameI 8 = [117, 110, 115, 97, 102, 101, 45, 117, 114, 108] := by decide +kernel

theorem ex_told : toldB exL = 4 := by decide +kernel

theorem ex_get : (getT exL rp).length ≤ 1000000 := by decide +kernel

theorem ex_split : (splitL [97, 44, 98]).length = 2 := by decide +kernel

theorem ex_few : ∀ f ∈ exL, f.1.length ≤ 1000000 ∧ f.2.length ≤ 1000000 := by decide

set_option maxRecDepth 100000 in
set_option maxHeartbeats 8000000 in
theorem awake_calls (m : Int) (w : World) (hm : TokAt m w) :
    Calls Tryd.prog 9 #[] w fun e w' => e = .returned (.bool true) ∧ Below w.heap.size w w' := by
  have hB0 := (Below.refl w.heap.size w).alloc (Nat.le_refl _) (.cells #[.string ⟨#[114, 101, 102, 101, 114, 114, 101, 114, 45, 112, 111, 108, 105, 99, 121]⟩, .string ⟨#[111, 114, 105, 103, 105, 110, 44, 32, 120]⟩] 36)
  have hF0 := Head.flds_one w ⟨#[114, 101, 102, 101, 114, 114, 101, 114, 45, 112, 111, 108, 105, 99, 121]⟩ ⟨#[111, 114, 105, 103, 105, 110, 44, 32, 120]⟩
  rw [show [((⟨#[114, 101, 102, 101, 114, 114, 101, 114, 45, 112, 111, 108, 105, 99, 121]⟩ : ByteArray).data.toList, (⟨#[111, 114, 105, 103, 105, 110, 44, 32, 120]⟩ : ByteArray).data.toList)] = exL from rfl] at hF0
  have cL := fun u (hu : TokAt m u) => last_any ⟨#[111, 114, 105, 103, 105, 110, 44, 32, 115, 111, 109, 101, 116, 104, 105, 110, 103, 44, 32, 115, 97, 109, 101, 45, 111, 114, 105, 103, 105, 110, 44, 32, 101, 108, 115, 101]⟩ (by decide) m u hu
  rw [show (⟨#[111, 114, 105, 103, 105, 110, 44, 32, 115, 111, 109, 101, 116, 104, 105, 110, 103, 44, 32, 115, 97, 109, 101, 45, 111, 114, 105, 103, 105, 110, 44, 32, 101, 108, 115, 101]⟩ : ByteArray).data.toList = exS from rfl, ex_last] at cL
  have cP := fun u (hu : TokAt m u) => policy_any ⟨#[79, 82, 73, 71, 73, 78]⟩ (by decide) m u hu
  rw [show (⟨#[79, 82, 73, 71, 73, 78]⟩ : ByteArray).data.toList = [79, 82, 73, 71, 73, 78] from rfl, ex_pol] at cP
  have cN := fun u (hu : TokAt m u) => name_any 8 m u hu
  rw [ex_name, show tb [117, 110, 115, 97, 102, 101, 45, 117, 114, 108] = ⟨#[117, 110, 115, 97, 102, 101, 45, 117, 114, 108]⟩ from rfl] at cN
  have cS := fun u (hu : MaxAt m u) => split_any ⟨#[97, 44, 98]⟩ (by decide) m u hu
  rw [show (⟨#[97, 44, 98]⟩ : ByteArray).data.toList = [97, 44, 98] from rfl] at cS
  have h1 := hm.later hB0
  go_enter Tryd.func9, Tryd.ntmps9
  go_wp2_with fail
  generalize w.alloc (.cells #[.string ⟨#[114, 101, 102, 101, 114, 114, 101, 114, 45, 112, 111, 108, 105, 99, 121]⟩, .string ⟨#[111, 114, 105, 103, 105, 110, 44, 32, 120]⟩] 36) = w0 at hB0 hF0 h1 ⊢
  refine (cL _ h1).mono ?_
  rintro e w1 ⟨rfl, hB1⟩
  have h2 := h1.later hB1
  have hb1 := Ascii.below2 hB0 hB1
  have hF1 := hF0.later hB1
  clear cL h1 hB0 hB1 hF0
  go_wp2_with fail
  refine (cP _ h2).mono ?_
  rintro e w2 ⟨rfl, hB2⟩
  have h3 := h2.later hB2
  have hb2 := Ascii.below2 hb1 hB2
  have hF2 := hF1.later hB2
  clear cP h2 hb1 hB2 hF1
  go_wp2_with fail
  refine (cN _ h3).mono ?_
  rintro e w' ⟨rfl, rfl⟩
  clear cN
  go_wp2_with fail
  refine (told_any _ exL (by decide) ex_few ex_get m _ h3 hF2).mono ?_
  rw [ex_told]
  rintro e w3 ⟨rfl, hB3⟩
  have h4 := h3.later hB3
  have hb3 := Ascii.below2 hb2 hB3
  clear h3 hb2 hB3 hF2
  go_wp2_with fail
  refine (cS _ h4.max).mono ?_
  rintro e w4 ⟨v, rfl, hS, hB4⟩
  have hb4 := Ascii.below2 hb3 hB4
  obtain ⟨a, c, rfl, -⟩ := hS
  rw [ex_split]
  go_wp2
  go_ret
  exact ⟨rfl, hb4⟩

end Go.Proofs.YtbgebolamkfnlaaDoor.Token

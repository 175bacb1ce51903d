/-
  The document's functions of layer 8: Lower of longer texts, Dots, segments, Norm, Parse, May, Show.
-/
import Derived.Test.YtlkikfdbjpjpaaaGreatDoorURefA
import Derived.Test.YtlkikfdbjpjpaaaGreatDoorURefB
import Derived.Test.YtlkikfdbjpjpaaaGreatDoorURefD
namespace Go.Proofs.YtlkikfdbjpjpaaaGreatDoor.Url
set_option linter.unusedSimpArgs false
set_option linter.unusedVariables false
set_option maxRecDepth 100000


open Go.RowKit Go.Shelf

set_option maxRecDepth 100000
theorem refDots_big (s : ByteArray) (hs : s.size ≤ 30000) (n : Nat) (hn : Path.dotsN s.data.toList = n) (w : World) :
    Calls Tryz.prog 108 #[.string s] w fun e w' => e = .returned (.int .i64 (n : Int)) ∧ Below w.heap.size w w' := by
  obtain ⟨L, hL⟩ : ∃ L, tb (Ascii.lower s.data.toList) = L := ⟨_, rfl⟩
  have HL := Lib.hid (fun u => show Calls Tryz.prog 136 #[.string s] u fun e w' => e = .returned (.string L) ∧ Below u.heap.size u w' from hL ▸ Ascii.refLower_any s hs u)
  have hc := Path.dots_cases s.data.toList
  have hl : Path.low s.data.toList = L.toList := by rw [Path.tl, list_tb hL]; rfl
  rw [hn, hl, dot1_iff, dot2_iff] at hc
  clear hL hl hn
  go_enter Tryz.func108, Tryz.ntmps108
  go_wp2_with fail
  refine (HL.out _).mono ?_
  rintro e u1 ⟨rfl, hB1⟩
  clear HL
  rcases hc with ⟨rfl, h⟩ | ⟨rfl, h⟩ | ⟨rfl, h, h'⟩
  · rcases h with h | h
    · have q1 : (L.toList == [46]) = true := by rw [h]; rfl
      clear h
      go_wp2
      go_ret
      exact ⟨rfl, hB1⟩
    · have q1 : (L.toList == [46]) = false := by rw [h]; rfl
      have q2 : (L.toList == [37, 50, 101]) = true := by rw [h]; rfl
      clear h
      go_wp2
      go_ret
      exact ⟨rfl, hB1⟩
  · have q1 : (L.toList == [46]) = false := by rcases h with h | h | h | h <;> rw [h] <;> rfl
    have q2 : (L.toList == [37, 50, 101]) = false := by rcases h with h | h | h | h <;> rw [h] <;> rfl
    rcases h with h | h | h | h
    · have q3 : (L.toList == [46, 46]) = true := by rw [h]; rfl
      clear h
      go_wp2
      go_ret
      exact ⟨rfl, hB1⟩
    · have q3 : (L.toList == [46, 46]) = false := by rw [h]; rfl
      have q4 : (L.toList == [46, 37, 50, 101]) = true := by rw [h]; rfl
      clear h
      go_wp2
      go_ret
      exact ⟨rfl, hB1⟩
    · have q3 : (L.toList == [46, 46]) = false := by rw [h]; rfl
      have q4 : (L.toList == [46, 37, 50, 101]) = false := by rw [h]; rfl
      have q5 : (L.toList == [37, 50, 101, 46]) = true := by rw [h]; rfl
      clear h
      go_wp2
      go_ret
      exact ⟨rfl, hB1⟩
    · have q3 : (L.toList == [46, 46]) = false := by rw [h]; rfl
      have q4 : (L.toList == [46, 37, 50, 101]) = false := by rw [h]; rfl
      have q5 : (L.toList == [37, 50, 101, 46]) = false := by rw [h]; rfl
      have q6 : (L.toList == [37, 50, 101, 37, 50, 101]) = true := by rw [h]; rfl
      clear h
      go_wp2
      go_ret
      exact ⟨rfl, hB1⟩
  · have h : ¬ (L.toList = [46] ∨ L.toList = [37, 50, 101]) := fun e => h ((dot1_iff _).2 e)
    have h' : ¬ (L.toList = [46, 46] ∨ L.toList = [46, 37, 50, 101] ∨ L.toList = [37, 50, 101, 46] ∨ L.toList = [37, 50, 101, 37, 50, 101]) := fun e => h' ((dot2_iff _).2 e)
    simp only [not_or] at h h'
    have q1 : (L.toList == [46]) = false := beq_eq_false_iff_ne.2 h.1
    have q2 : (L.toList == [37, 50, 101]) = false := beq_eq_false_iff_ne.2 h.2
    have q3 : (L.toList == [46, 46]) = false := beq_eq_false_iff_ne.2 h'.1
    have q4 : (L.toList == [46, 37, 50, 101]) = false := beq_eq_false_iff_ne.2 h'.2.1
    have q5 : (L.toList == [37, 50, 101, 46]) = false := beq_eq_false_iff_ne.2 h'.2.2.1
    have q6 : (L.toList == [37, 50, 101, 37, 50, 101]) = false := beq_eq_false_iff_ne.2 h'.2.2.2
    clear h h'
    go_wp2
    go_ret
    exact ⟨rfl, hB1⟩

def GotL (w : World) (l : List T) (e : Ending) (w' : World) : Prop := ∃ v, e = .returned v ∧ Path.Strs w' v l ∧ Path.New w.heap.size v ∧ Below w.heap.size w w'

theorem cut_row {W : World} {B : Nat} {a : Option Addr} {n c : Nat} {l : List T} (hn : l.length = n + 1) (h : W.ownsRow B 9 1 (.slice a (n + 1) c) (n + 1) (l.map Path.tx)) : W.ownsRow B 9 1 (.slice a n c) n (l.dropLast.map Path.tx) := by
  rw [← hn] at h
  have := Path.owns_cut h
  rw [List.length_dropLast, hn, Nat.add_sub_cancel] at this
  exact this

theorem row_snoc {l : List T} {t : T} {E : ByteArray} (hE : tb t = E) : (l ++ [t]).map Path.tx = l.map Path.tx ++ [.string E] := by
  rw [List.map_append, ← hE]; rfl

end Go.Proofs.YtlkikfdbjpjpaaaGreatDoor.Url

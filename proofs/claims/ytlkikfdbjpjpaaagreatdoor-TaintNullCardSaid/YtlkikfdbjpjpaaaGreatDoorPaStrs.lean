/-
  Slices of texts in memory (Strs: the slice v holds the texts l), apart from paths: what every package with slices of texts wants; a clone of a text; the law's Few and the document's Same of texts.
-/
import Derived.Test.YtlkikfdbjpjpaaaGreatDoorProg
import Derived.WalkKit
import Derived.WalkSpells
import Derived.WalkLawsBesides
import Derived.Lib.Hide
import Derived.Lib.Walk
import Derived.Shelf.Abstract
import Derived.Deep.QuietTactic
import Derived.BigQuiet
import Derived.Deep.AppendLies
import Derived.Deep.RegionLaw
import Derived.RangeFuncNested
import Derived.RangeFuncBox
import Derived.OwnWalkIn
import Derived.SliceStrings
import Derived.Test.YtlkikfdbjpjpaaaGreatDoorShelf
namespace Go.Proofs.YtlkikfdbjpjpaaaGreatDoor.Path
set_option linter.unusedSimpArgs false
set_option linter.unusedVariables false
set_option maxRecDepth 100000


open Go.RowKit Go.Shelf


abbrev T := List UInt8

theorem drewN_below {B : Nat} {a w : World} (h : Below B a w) (n : Nat) : Below B a (w.drewN n) := ⟨h.os, h.tape, h.output, h.size, h.block⟩

/-- internal/bytealg.MaxLen holds an int. -/
def MaxAt (m : Int) (w : World) : Prop := w.cell? ⟨0, 0, none⟩ = some (.int .i64 m)

theorem MaxAt.later {m : Int} {w u : World} (h : MaxAt m w) (hB : Below w.heap.size w u) : MaxAt m u := by
  unfold MaxAt at *
  exact (hB.cell (p := ⟨0, 0, none⟩) (World.block_lt_of_cell? _ _ h)).trans h

theorem tl (s : ByteArray) : s.toList = s.data.toList := ByteArray.toList_eq s

theorem tx_of (s : ByteArray) : (⟨s.data.toList.toArray⟩ : ByteArray) = s := by cases s; simp

theorem size_tx (l : T) : (⟨l.toArray⟩ : ByteArray).size = l.length := rfl

/-- The slice v holds the texts l. -/
def Strs (W : World) (v : Value) (l : List T) : Prop :=
  ∃ a c, v = .slice a l.length c ∧ l.length ≤ c ∧ c ≤ maxLen ∧ (a = none → c = 0) ∧
    (l ≠ [] → ∃ b off, a = some ⟨b, off, none⟩ ∧ ∀ j (h : j < l.length), W.cell? ⟨b, off + j, none⟩ = some (.string ⟨(l[j]).toArray⟩))

theorem Strs.later {W W' : World} {v : Value} {l : List T} (h : Strs W v l) (hB : Below W.heap.size W W') : Strs W' v l := by
  obtain ⟨a, c, rfl, h1, h2, h3, h4⟩ := h
  refine ⟨a, c, rfl, h1, h2, h3, fun hl => ?_⟩
  obtain ⟨b, off, rfl, hc⟩ := h4 hl
  exact ⟨b, off, rfl, fun j hj => (hB.cell (p := ⟨b, off + j, none⟩) (World.block_lt_of_cell? _ _ (hc j hj))).trans (hc j hj)⟩

theorem Strs.nil (W : World) : Strs W (.slice none 0 0) [] := ⟨none, 0, rfl, Nat.le_refl _, Nat.zero_le _, fun _ => rfl, fun h => absurd rfl h⟩

theorem clone_any (s : ByteArray) (hs : s.size ≤ 281474976710656) (w : World) :
    Calls Tryz.prog 40 #[.string s] w fun e w' => e = .returned (.string s) ∧ Below w.heap.size w w' := by
  go_enter Tryz.func40, Tryz.ntmps40
  go_wp2_with fail
  refine (Tryz.stringslite_Clone s _ hs).mono ?_
  rintro e w1 ⟨rfl, hB⟩
  go_wp2
  go_ret
  exact ⟨rfl, hB⟩

/-! ### The law's Few, the document's Same -/

def fewB (l : List T) : Bool := decide (l.length ≤ 60) && l.all fun t => decide (t.length ≤ 300)

theorem few_iff (l : List T) : fewB l = true ↔ l.length ≤ 60 ∧ ∀ t ∈ l, t.length ≤ 300 := by
  unfold fewB
  rw [Bool.and_eq_true, List.all_eq_true, decide_eq_true_iff]
  simp

set_option maxRecDepth 100000 in
set_option maxHeartbeats 1000000 in
theorem few_any (v : Value) (l : List T) (w : World) (h : Strs w v l) :
    Calls Tryz.prog 27 #[v] w fun e w' => e = .returned (.bool (fewB l)) ∧ w = w' := by
  obtain ⟨a, c, rfl, h1, h2, h3, h4⟩ := h
  unfold maxLen at h2
  have hl : l.length ≤ 9223372036854775807 := by omega
  have H3 := Lib.hid h3
  have H4 := Lib.hid h4
  clear h3 h4
  go_enter Tryz.func27, Tryz.ntmps27
  go_wp2
  go_loop [3] (fun i => ∃ k : Nat, k ≤ l.length ∧ k ≤ 61 ∧ i = .int .i64 k ∧ ∀ j (hj : j < l.length), j < k → (l[j]).length ≤ 300) (fun i => l.length - (intOf i).toNat)
  case atStart => exact ⟨0, Nat.zero_le _, by omega, rfl, fun j _ h => absurd h (by omega)⟩
  case round =>
    obtain ⟨k, hk, hk61, rfl, hall⟩ := hrel
    have HA := Lib.hid hall
    clear hall
    by_cases hlt : k < l.length ∧ k ≤ 60
    · obtain ⟨hlt, h60⟩ := hlt
      obtain ⟨b, off, rfl, hcell⟩ := H4.out (by intro e; rw [e] at hlt; simp at hlt)
      have q1 : decide (k < l.length) = true := decide_eq_true hlt
      have q2 : decide ((k : Int) ≤ 60) = true := decide_eq_true (by omega)
      have g := hcell k hlt
      have hkc : k < c := by omega
      obtain ⟨t, ht⟩ : ∃ t, l[k] = t := ⟨_, rfl⟩
      rw [ht] at g
      have HT := Lib.hid ht
      clear hcell ht
      by_cases h300 : t.length ≤ 300
      · have q3 : decide ((300 : Int) < ((⟨t.toArray⟩ : ByteArray).size : Int)) = false := by rw [size_tx]; exact decide_eq_false (by omega)
        go_wp2
        go_round
        case rel => exact ⟨k + 1, by omega, by omega, by go_num, fun j hj hlt' => by
          rcases Nat.lt_or_ge j k with h | h
          · exact HA.out j hj h
          · obtain rfl : j = k := by omega
            rw [HT.out]; exact h300⟩
        case measure => simp [intOf]; omega
      · have q3 : decide ((300 : Int) < ((⟨t.toArray⟩ : ByteArray).size : Int)) = true := by rw [size_tx]; exact decide_eq_true (by omega)
        have hf : fewB l = false := by
          cases e : fewB l
          · rfl
          · exact absurd (((few_iff l).1 e).2 t (by rw [← HT.out]; exact List.getElem_mem _)) h300
        have HF := Lib.hid hf
        clear hf
        go_wp2
        go_ret
        exact ⟨by rw [HF.out]; rfl, rfl⟩
    · have hf : fewB l = decide (l.length ≤ 60) := by
        unfold fewB
        by_cases h60 : l.length ≤ 60
        · rw [decide_eq_true h60, Bool.true_and, List.all_eq_true]
          intro t ht
          obtain ⟨j, hj, rfl⟩ := List.getElem_of_mem ht
          exact decide_eq_true (HA.out j hj (by omega))
        · rw [decide_eq_false h60, Bool.false_and]
      have HF := Lib.hid hf
      clear hf
      rcases Nat.lt_or_ge k l.length with hlt' | hge
      · have q1 : decide (k < l.length) = true := decide_eq_true hlt'
        have q2 : decide ((k : Int) ≤ 60) = false := decide_eq_false (by omega)
        have q3 : decide ((l.length : Int) ≤ 60) = false := decide_eq_false (by omega)
        go_wp2
        go_ret
        exact ⟨by rw [HF.out]; rw [decide_eq_false (by omega)]; rfl, rfl⟩
      · have q1 : decide (k < l.length) = false := decide_eq_false (by omega)
        by_cases h60 : l.length ≤ 60
        · have q3 : decide ((l.length : Int) ≤ 60) = true := decide_eq_true (by omega)
          go_wp2
          go_ret
          exact ⟨by rw [HF.out]; rw [decide_eq_true (by omega)]; rfl, rfl⟩
        · have q3 : decide ((l.length : Int) ≤ 60) = false := decide_eq_false (by omega)
          go_wp2
          go_ret
          exact ⟨by rw [HF.out]; rw [decide_eq_false (by omega)]; rfl, rfl⟩

theorem same_next (l m : List T) (k : Nat) (h1 : k < l.length) (h2 : k < m.length) (h : l.take k = m.take k) (he : l[k] = m[k]) : l.take (k + 1) = m.take (k + 1) := by
  rw [List.take_succ_eq_append_getElem h1, List.take_succ_eq_append_getElem h2, h, he]

/-- A text as a value. -/
def tx (l : T) : Value := .string ⟨l.toArray⟩

theorem infoText : (Tryz.prog.info? 9).map (fun i => (i.zero, i.size, i.bytes)) = some (some (.string ⟨#[]⟩), 1, 16) := by kernel_rfl

theorem boxed_below {W W' : World} {B : Nat} {t : TypeId} {v : Value} (h : Boxed W B t v) (hB : Below W.heap.size W W') : Boxed W' B t v := (hB.block B h.lt).trans h

theorem owns_below {W W' : World} {base : Nat} {e : TypeId} {size : Nat} {v : Value} {k : Nat} {xs : List Value} (h : W.ownsRow base e size v k xs) (hB : Below W.heap.size W W') : W'.ownsRow base e size v k xs := by
  refine ⟨h.1, ?_⟩
  rcases h.2 with h' | ⟨g, cap, cur, rfl, hb, hg, h'⟩
  · exact .inl h'
  · exact .inr ⟨g, cap, cur, rfl, hb, (hB.block g (Array.getElem?_eq_some_iff.1 hg).1).trans hg, h'⟩

/-- A slice that owns its row, as a slice that holds texts. -/
theorem owns_strs {W : World} {B : Nat} {v : Value} {l : List T} (h : W.ownsRow B 9 1 v l.length (l.map tx)) : Strs W v l := by
  rcases h.2 with ⟨rfl, hn⟩ | ⟨g, cap, cur, rfl, _, hg, h1, h2, h3, h4⟩
  · obtain rfl : l = [] := List.length_eq_zero_iff.1 hn
    exact Strs.nil W
  · refine ⟨_, cap, rfl, h1, h2, (fun e => by cases e), fun _ => ⟨g, 0, rfl, fun j hj => ?_⟩⟩
    rw [World.cell?, hg]
    have e : cur[j]? = some (tx l[j]) := by
      have h5 : (cur.toList.take (l.length * 1))[j]? = (l.map tx)[j]? := by rw [h4]
      rw [List.getElem?_take_of_lt (by omega), List.getElem?_map, List.getElem?_eq_getElem hj] at h5
      simpa using h5
    simp [e, tx]

/-- A slice whose block was made later. -/
def New (B : Nat) (v : Value) : Prop := ∀ b o s n c, v = .slice (some ⟨b, o, s⟩) n c → B ≤ b

theorem New.mono {B A : Nat} {v : Value} (h : New B v) (hA : A ≤ B) : New A v := fun b o s n c e => Nat.le_trans hA (h b o s n c e)

theorem owns_new {W : World} {B : Nat} {v : Value} {l : List T} (h : W.ownsRow B 9 1 v l.length (l.map tx)) : New B v := by
  rcases h.2 with ⟨rfl, hn⟩ | ⟨g, cap, cur, rfl, hB, _⟩
  · intro b o s n c e; cases e
  · intro b o s n c e; cases e; exact hB

theorem owns_shape {W : World} {B : Nat} {v : Value} {n : Nat} {xs : List Value} (h : W.ownsRow B 9 1 v n xs) : ∃ a c, v = .slice a n c ∧ n ≤ c ∧ c ≤ maxLen ∧ (a = none → c = 0) := by
  rcases h.2 with ⟨rfl, rfl⟩ | ⟨g, cap, cur, rfl, _, hg, h1, h2, h3, h4⟩
  · exact ⟨none, 0, rfl, Nat.le_refl _, Nat.zero_le _, fun _ => rfl⟩
  · exact ⟨_, cap, rfl, h1, h2, fun e => by cases e⟩

theorem owns_cut {W : World} {B : Nat} {a : Option Addr} {c : Nat} {l : List T} (h : W.ownsRow B 9 1 (.slice a l.length c) l.length (l.map tx)) : W.ownsRow B 9 1 (.slice a (l.length - 1) c) l.dropLast.length (l.dropLast.map tx) := by
  refine ⟨by simp, ?_⟩
  rcases h.2 with ⟨e, hn⟩ | ⟨g, cap, cur, e, hb, hg, h1, h2, h3, h4⟩
  · obtain rfl : l = [] := List.length_eq_zero_iff.1 hn
    cases e
    exact .inl ⟨rfl, rfl⟩
  · cases e
    refine .inr ⟨g, _, cur, by simp, hb, hg, by simp; omega, h2, h3, ?_⟩
    have : l.dropLast.map tx = (l.map tx).take (l.length - 1) := by rw [List.dropLast_eq_take, List.map_take]
    rw [this, ← h4, List.take_take]
    congr 1
    simp

theorem strs1 {W : World} {v : Value} {x : T} (h : Strs W v [x]) : ∃ b o c, v = .slice (some ⟨b, o, none⟩) 1 c ∧ 1 ≤ c ∧ c ≤ maxLen ∧ W.cell? ⟨b, o, none⟩ = some (.string ⟨x.toArray⟩) := by
  obtain ⟨a, c, rfl, h1, h2, h3, h4⟩ := h
  obtain ⟨b, o, rfl, hc⟩ := h4 (by simp)
  exact ⟨b, o, c, rfl, h1, h2, hc 0 (by simp)⟩

theorem strs2 {W : World} {v : Value} {x y : T} (h : Strs W v [x, y]) : ∃ b o c, v = .slice (some ⟨b, o, none⟩) 2 c ∧ 2 ≤ c ∧ c ≤ maxLen ∧ W.cell? ⟨b, o, none⟩ = some (.string ⟨x.toArray⟩) ∧ W.cell? ⟨b, o + 1, none⟩ = some (.string ⟨y.toArray⟩) := by
  obtain ⟨a, c, rfl, h1, h2, h3, h4⟩ := h
  obtain ⟨b, o, rfl, hc⟩ := h4 (by simp)
  exact ⟨b, o, c, rfl, h1, h2, hc 0 (by simp), hc 1 (by simp)⟩

theorem strs_new2 (W : World) (x y : T) : Strs (W.alloc (.cells #[.string ⟨x.toArray⟩, .string ⟨y.toArray⟩] 9)) (.slice (some ⟨W.heap.size, 0, none⟩) 2 2) [x, y] := by
  refine ⟨_, 2, rfl, Nat.le_refl _, by decide, (fun e => by cases e), fun _ => ⟨W.heap.size, 0, rfl, fun j hj => ?_⟩⟩
  have h := World.alloc_heap_new W (.cells #[.string ⟨x.toArray⟩, .string ⟨y.toArray⟩] 9)
  rw [World.cell?, h]
  match j, hj with
  | 0, _ => rfl
  | 1, _ => rfl

theorem text_append (s t : ByteArray) : (s ++ t).data.toList = s.data.toList ++ t.data.toList := by
  rw [ByteArray.data_append, Array.toList_append]

open Go.ChangeShapes Go.WideShapes



theorem open_texts {H : Type} {enc : TypeId × Value → H} {W : World} {base : Nat} {spare : Nat → Bool} {held : Bool} {a : Option Addr} {len cap : Nat} {x : DataW H × List MemPlace}
    (h : ∃ fuel, DataW.trod enc Tryz.prog W base spare held fuel 25 (Value.cells (.slice a len cap)).toList = some x) : ∃ l, Strs W (.slice a len cap) l := by
  obtain ⟨fuel, hf⟩ := h
  rcases open_strings Tryz.underlying25 Tryz.underlying9 (by kernel_rfl) hf with ⟨hcs, _⟩ | ⟨x, l, c, zs, hcs, _, hl, hm, hz, _, hcell, hwz⟩
  · simp [Value.cells] at hcs
    obtain ⟨rfl, rfl, rfl⟩ := hcs
    exact ⟨[], Strs.nil W⟩
  · simp [Value.cells] at hcs
    obtain ⟨rfl, rfl, rfl⟩ := hcs
    have hzl : len ≤ zs.length := by rw [hz]; split <;> omega
    have hll : ((zs.take len).map (·.data.toList)).length = len := by simp; omega
    refine ⟨(zs.take len).map (·.data.toList), some x, cap, by rw [hll], by rw [hll]; exact hl, hm, (fun e => by cases e), fun hne => ?_⟩
    have hpos : 0 < zs.length := by
      rcases Nat.eq_zero_or_pos zs.length with h0 | h0
      · exact absurd (by rw [List.length_eq_zero_iff.1 h0]; simp) hne
      · exact h0
    obtain ⟨b, off, spot⟩ := x
    cases spot with
    | some q =>
      exfalso
      have := hcell 0 hpos
      simp only [Addr.add, if_true] at this
      rw [World.cell?] at this
      split at this <;> simp at this
    | none =>
      refine ⟨b, off, rfl, fun j hj => ?_⟩
      rw [hll] at hj
      have := hcell j (by omega)
      rw [add_plain] at this
      rw [this]
      simp [List.getD, show j < zs.length by omega, tx_of]

theorem weights_strs {H : Type} {P : Program} {e : TypeId} (zs : List ByteArray) (s : ByteArray) (hs : s ∈ zs) : s.data.toList.length ∈ DataW.weightsAll P e (strs zs : List (DataW H)) := by
  unfold strs
  induction zs with
  | nil => cases hs
  | cons z zs ih =>
    rw [List.map_cons, DataW.weightsAll]
    rcases List.mem_cons.1 hs with rfl | h
    · exact List.mem_append.2 (.inl (by simp [DataW.weights]))
    · exact List.mem_append.2 (.inr (ih h))

/-- Texts that came in, each as long as the form's reach allows. -/
theorem open_texts_wide {H : Type} {enc : TypeId × Value → H} {W : World} {base : Nat} {spare : Nat → Bool} {held : Bool} {a : Option Addr} {len cap : Nat} {x : DataW H × List MemPlace}
    (h : ∃ fuel, DataW.trod enc Tryz.prog W base spare held fuel 25 (Value.cells (.slice a len cap)).toList = some x) (hw : ∀ n ∈ x.1.weights Tryz.prog 25, n ≤ reachBytes) : ∃ l, Strs W (.slice a len cap) l ∧ ∀ t ∈ l, t.length ≤ 140737488351232 := by
  obtain ⟨fuel, hf⟩ := h
  rcases open_strings Tryz.underlying25 Tryz.underlying9 (by kernel_rfl) hf with ⟨hcs, _⟩ | ⟨x', l, c, zs, hcs, _, hl, hm, hz, hx, hcell, hwz⟩
  · simp [Value.cells] at hcs
    obtain ⟨rfl, rfl, rfl⟩ := hcs
    exact ⟨[], Strs.nil W, fun t ht => by cases ht⟩
  · simp [Value.cells] at hcs
    obtain ⟨rfl, rfl, rfl⟩ := hcs
    have hzl : len ≤ zs.length := by rw [hz]; split <;> omega
    have hll : ((zs.take len).map (·.data.toList)).length = len := by simp; omega
    refine ⟨(zs.take len).map (·.data.toList), ⟨some x', cap, by rw [hll], by rw [hll]; exact hl, hm, (fun e => by cases e), fun hne => ?_⟩, fun t ht => ?_⟩
    · have hpos : 0 < zs.length := by
        rcases Nat.eq_zero_or_pos zs.length with h0 | h0
        · exact absurd (by rw [List.length_eq_zero_iff.1 h0]; simp) hne
        · exact h0
      obtain ⟨b, off, spot⟩ := x'
      cases spot with
      | some q =>
        exfalso
        have := hcell 0 hpos
        simp only [Addr.add, if_true] at this
        rw [World.cell?] at this
        split at this <;> simp at this
      | none =>
        refine ⟨b, off, rfl, fun j hj => ?_⟩
        rw [hll] at hj
        have := hcell j (by omega)
        rw [add_plain] at this
        rw [this]
        simp [List.getD, show j < zs.length by omega, tx_of]
    · obtain ⟨z, hzm, rfl⟩ := List.mem_map.1 ht
      refine hw _ ?_
      rw [hx]
      have := weights_strs (H := H) (P := Tryz.prog) (e := 9) (zs.take len) z hzm
      simp only [DataW.weights, Tryz.underlying25, List.mem_cons, List.mem_append]
      exact .inr (.inl this)

end Go.Proofs.YtlkikfdbjpjpaaaGreatDoor.Path

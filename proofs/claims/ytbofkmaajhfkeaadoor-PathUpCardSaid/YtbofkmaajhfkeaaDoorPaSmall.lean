/-
  A slice of texts in memory; the walks of the small functions of package path (Dots, ahead) and of the law's Few and the document's Same.
-/
import Derived.Test.YtbofkmaajhfkeaaDoorPaFacts
import Derived.Test.YtbofkmaajhfkeaaDoorShelf
import Derived.WalkKit
import Derived.WalkSpells
import Derived.WalkLawsBesides
import Derived.Lib.Hide
import Derived.Lib.Walk
import Derived.Shelf.Abstract
import Derived.Deep.QuietTactic
import Derived.BigQuiet
namespace Go.Proofs.YtbofkmaajhfkeaaDoor.Path
open Go.RowKit Go.Shelf
set_option linter.unusedSimpArgs false
set_option linter.unusedVariables false

theorem drewN_below {B : Nat} {a w : World} (h : Below B a w) (n : Nat) : Below B a (w.drewN n) := ⟨h.os, h.tape, h.output, h.size, h.block⟩
/-- internal/bytealg.MaxLen holds an int. -/
def MaxAt (m : Int) (w : World) : Prop := w.cell? ⟨0, 0, none⟩ = some (.int .i64 m)
theorem MaxAt.later {m : Int} {w u : World} (h : MaxAt m w) (hB : Below w.heap.size w u) : MaxAt m u := by
  unfold MaxAt at *
  exact (hB.cell (p := ⟨0, 0, none⟩) (World.block_lt_of_cell? _ _ h)).trans h

theorem tl (s : ByteArray) : s.toList = s.data.toList := ByteArray.toList_eq s
theorem tx_of (s : ByteArray) : (⟨s.data.toList.toArray⟩ : ByteArray) = s := by cases s; simp
theorem size_tx (l : T) : (⟨l.toArray⟩ : ByteArray).size = l.length := rfl

/-- The builder's WriteString, by what the laying of strings.ReplaceAll holds. -/
theorem write_any (B b : Nat) (bs : List Value) (s : ByteArray) (w : World) (h : Lib.IsBuilder 40 5 B b bs w) (hlen : bs.length + s.size ≤ 140737488355328) (hBw : B ≤ w.heap.size) :
    Calls Tryd.prog 19 #[.pointer (some ⟨b, 0, none⟩), .string s] w fun e w' => e = .returned (.tuple #[.int .i64 s.size, .nilIface]) ∧ (Lib.BuilderAt 40 5 B b (.pointer (some ⟨b, 0, none⟩)) (bs ++ Lib.strCells s) w' ∧ Below B w w') :=
  Any.Builder_WriteString { Tryd.lays155 with } Tryd.Builder_Extra_155 B b bs s w h hlen hBw

/-- The slice v holds the texts l. -/
def Strs (W : World) (v : Value) (l : List T) : Prop :=
  ∃ a c, v = .slice a l.length c ∧ l.length ≤ c ∧ c ≤ maxLen ∧ (a = none → c = 0) ∧
    (l ≠ [] → ∃ b off, a = some ⟨b, off, none⟩ ∧ ∀ j (h : j < l.length), W.cell? ⟨b, off + j, none⟩ = some (.string ⟨(l[j]).toArray⟩))
theorem Strs.later {W W' : World} {v : Value} {l : List T} (h : Strs W v l) (hB : Below W.heap.size W W') : Strs W' v l := by
  obtain ⟨a, c, rfl, h1, h2, h3, h4⟩ := h
  refine ⟨a, c, rfl, h1, h2, h3, fun hl => ?_⟩
  obtain ⟨b, off, rfl, hc⟩ := h4 hl
  exact ⟨b, off, rfl, fun j hj => (hB.cell (p := ⟨b, off + j, none⟩) (World.block_lt_of_cell? _ _ (hc j hj))).trans (hc j hj)⟩
theorem Strs.nil (W : World) : Strs W (.slice none 0 0) [] := ⟨none, 0, rfl, Nat.le_refl _, Nat.zero_le _, fun _ => rfl, fun h => absurd rfl h⟩

set_option maxRecDepth 100000 in
set_option maxHeartbeats 1000000 in
theorem dots_any (s : ByteArray) (hs : s.size ≤ 1000000) (m : Int) (w : World) (hm : MaxAt m w) :
    Calls Tryd.prog 16 #[.string s] w fun e w' => e = .returned (.int .i64 (dotsN s.data.toList : Nat)) ∧ Below w.heap.size w w' := by
  go_enter Tryd.func16, Tryd.ntmps16
  go_wp2_with fail
  refine (Ascii.lower_calls s (by unfold maxLen; omega) (by omega) _).mono ?_
  rintro e w1 ⟨rfl, hB1⟩
  have hl : (⟨(Ascii.lower s.data.toList).toArray⟩ : ByteArray).size = s.size := by show (Ascii.lower s.data.toList).length = _; simp [Ascii.lower]
  have hcases := Lib.hid (dots_cases s.data.toList)
  unfold low at hcases
  obtain ⟨L, hL⟩ : ∃ L : ByteArray, (⟨(Ascii.lower s.data.toList).toArray⟩ : ByteArray) = L := ⟨_, rfl⟩
  have hLl : L.data.toList = Ascii.lower s.data.toList := by rw [← hL]
  rw [hL] at hl ⊢
  have hcount := Lib.countB_mul_le ⟨#[37, 50, 101]⟩ (by decide) L.size L (Nat.le_refl _)
  rw [show (⟨#[37, 50, 101]⟩ : ByteArray).size = 3 from rfl] at hcount
  have hr := Tryd.strings_ReplaceAll L ⟨#[37, 50, 101]⟩ ⟨#[46]⟩ m w1 (by omega) (hm.later hB1) (by decide) (by rw [show (⟨#[46]⟩ : ByteArray).size = 1 from rfl]; omega)
  rw [show (⟨#[37, 50, 101]⟩ : ByteArray).data.toList = p2e from rfl, show (⟨#[46]⟩ : ByteArray).data.toList = [46] from rfl, rep_all, hLl] at hr
  obtain ⟨R, hR⟩ : ∃ R : ByteArray, (⟨(rep (Ascii.lower s.data.toList)).toArray⟩ : ByteArray) = R := ⟨_, rfl⟩
  have hRl : R.toList = rep (Ascii.lower s.data.toList) := by rw [← hR, tl]
  rw [hR] at hr
  have hr' := Lib.hid hr
  clear hr
  rw [← hRl] at hcases
  clear hR hRl hL hLl hl hcount
  rcases hcases.out with ⟨hd, h⟩ | ⟨hd, h⟩ | ⟨hd, h, h'⟩ <;> have HD := Lib.hid hd <;> clear hd
  · have q1 : (R.toList == [46]) = true := by rw [h]; rfl
    clear h hcases
    go_wp2_with fail
    refine hr'.out.mono ?_
    rintro e w2 ⟨rfl, hB2⟩
    go_wp2
    go_ret
    exact ⟨by rw [HD.out]; rfl, hB1.trans (hB2.mono hB1.size)⟩
  · have q1 : (R.toList == [46]) = false := by rw [h]; rfl
    have q2 : (R.toList == [46, 46]) = true := by rw [h]; rfl
    clear h hcases
    go_wp2_with fail
    refine hr'.out.mono ?_
    rintro e w2 ⟨rfl, hB2⟩
    go_wp2
    go_ret
    exact ⟨by rw [HD.out]; rfl, hB1.trans (hB2.mono hB1.size)⟩
  · have q1 : (R.toList == [46]) = false := by simpa using h
    have q2 : (R.toList == [46, 46]) = false := by simpa using h'
    clear h h' hcases
    go_wp2_with fail
    refine hr'.out.mono ?_
    rintro e w2 ⟨rfl, hB2⟩
    go_wp2
    go_ret
    exact ⟨by rw [HD.out]; rfl, hB1.trans (hB2.mono hB1.size)⟩

/-- All but the last one. -/
theorem ahead_any (a : Option Addr) (n c : Nat) (hn : n ≤ c) (hc : c ≤ maxLen) (h0 : a = none → c = 0) (w : World) :
    Calls Tryd.prog 26 #[.slice a n c] w fun e w' => e = .returned (.slice a (n - 1) c) ∧ w = w' := by
  unfold maxLen at hc
  rcases Nat.eq_zero_or_pos n with rfl | hp
  · cases a with
    | none =>
      obtain rfl := h0 rfl
      go_enter Tryd.func26, Tryd.ntmps26
      go_wp2
      go_ret
      exact ⟨rfl, rfl⟩
    | some x =>
      clear h0
      go_enter Tryd.func26, Tryd.ntmps26
      go_wp2
      go_ret
      exact ⟨rfl, rfl⟩
  · obtain ⟨k, rfl⟩ : ∃ k, n = k + 1 := ⟨n - 1, by omega⟩
    cases a with
    | none => exact absurd (h0 rfl) (by omega)
    | some x =>
      clear h0 hp
      go_enter Tryd.func26, Tryd.ntmps26
      go_wp2
      go_ret
      exact ⟨rfl, rfl⟩

theorem clone_any (s : ByteArray) (hs : s.size ≤ 281474976710656) (w : World) :
    Calls Tryd.prog 24 #[.string s] w fun e w' => e = .returned (.string s) ∧ Below w.heap.size w w' := by
  go_enter Tryd.func24, Tryd.ntmps24
  go_wp2_with fail
  refine (Tryd.stringslite_Clone s _ hs).mono ?_
  rintro e w1 ⟨rfl, hB⟩
  go_wp2
  go_ret
  exact ⟨rfl, hB⟩

/-! ### The law's Few, the document's Same -/
def fewB (l : List T) : Bool := decide (l.length ≤ 60) && l.all fun t => decide (t.length ≤ 300)
theorem few_iff (l : List T) : fewB l = true ↔ l.length ≤ 60 ∧ ∀ t ∈ l, t.length ≤ 300 := by
  unfold fewB
  rw [Bool.and_eq_true, List.all_eq_true, decide_eq_true_iff]
  simp

set_option maxRecDepth 100000 in
set_option maxHeartbeats 1000000 in
theorem few_any (v : Value) (l : List T) (w : World) (h : Strs w v l) :
    Calls Tryd.prog 10 #[v] w fun e w' => e = .returned (.bool (fewB l)) ∧ w = w' := by
  obtain ⟨a, c, rfl, h1, h2, h3, h4⟩ := h
  unfold maxLen at h2
  have hl : l.length ≤ 9223372036854775807 := by omega
  have H3 := Lib.hid h3
  have H4 := Lib.hid h4
  clear h3 h4
  go_enter Tryd.func10, Tryd.ntmps10
  go_wp2
  go_loop [3] (fun i => ∃ k : Nat, k ≤ l.length ∧ k ≤ 61 ∧ i = .int .i64 k ∧ ∀ j (hj : j < l.length), j < k → (l[j]).length ≤ 300) (fun i => l.length - (intOf i).toNat)
  case atStart => exact ⟨0, Nat.zero_le _, by omega, rfl, fun j _ h => absurd h (by omega)⟩
  case round =>
    obtain ⟨k, hk, hk61, rfl, hall⟩ := hrel
    have HA := Lib.hid hall
    clear hall
    by_cases hlt : k < l.length ∧ k ≤ 60
    · obtain ⟨hlt, h60⟩ := hlt
      obtain ⟨b, off, rfl, hcell⟩ := H4.out (by intro e; rw [e] at hlt; simp at hlt)
      have q1 : decide (k < l.length) = true := decide_eq_true hlt
      have q2 : decide ((k : Int) ≤ 60) = true := decide_eq_true (by omega)
      have g := hcell k hlt
      have hkc : k < c := by omega
      obtain ⟨t, ht⟩ : ∃ t, l[k] = t := ⟨_, rfl⟩
      rw [ht] at g
      have HT := Lib.hid ht
      clear hcell ht
      by_cases h300 : t.length ≤ 300
      · have q3 : decide ((300 : Int) < ((⟨t.toArray⟩ : ByteArray).size : Int)) = false := by rw [size_tx]; exact decide_eq_false (by omega)
        go_wp2
        go_round
        case rel => exact ⟨k + 1, by omega, by omega, by go_num, fun j hj hlt' => by
          rcases Nat.lt_or_ge j k with h | h
          · exact HA.out j hj h
          · obtain rfl : j = k := by omega
            rw [HT.out]; exact h300⟩
        case measure => simp [intOf]; omega
      · have q3 : decide ((300 : Int) < ((⟨t.toArray⟩ : ByteArray).size : Int)) = true := by rw [size_tx]; exact decide_eq_true (by omega)
        have hf : fewB l = false := by
          cases e : fewB l
          · rfl
          · exact absurd (((few_iff l).1 e).2 t (by rw [← HT.out]; exact List.getElem_mem _)) h300
        have HF := Lib.hid hf
        clear hf
        go_wp2
        go_ret
        exact ⟨by rw [HF.out]; rfl, rfl⟩
    · have hf : fewB l = decide (l.length ≤ 60) := by
        unfold fewB
        by_cases h60 : l.length ≤ 60
        · rw [decide_eq_true h60, Bool.true_and, List.all_eq_true]
          intro t ht
          obtain ⟨j, hj, rfl⟩ := List.getElem_of_mem ht
          exact decide_eq_true (HA.out j hj (by omega))
        · rw [decide_eq_false h60, Bool.false_and]
      have HF := Lib.hid hf
      clear hf
      rcases Nat.lt_or_ge k l.length with hlt' | hge
      · have q1 : decide (k < l.length) = true := decide_eq_true hlt'
        have q2 : decide ((k : Int) ≤ 60) = false := decide_eq_false (by omega)
        have q3 : decide ((l.length : Int) ≤ 60) = false := decide_eq_false (by omega)
        go_wp2
        go_ret
        exact ⟨by rw [HF.out]; rw [decide_eq_false (by omega)]; rfl, rfl⟩
      · have q1 : decide (k < l.length) = false := decide_eq_false (by omega)
        by_cases h60 : l.length ≤ 60
        · have q3 : decide ((l.length : Int) ≤ 60) = true := decide_eq_true (by omega)
          go_wp2
          go_ret
          exact ⟨by rw [HF.out]; rw [decide_eq_true (by omega)]; rfl, rfl⟩
        · have q3 : decide ((l.length : Int) ≤ 60) = false := decide_eq_false (by omega)
          go_wp2
          go_ret
          exact ⟨by rw [HF.out]; rw [decide_eq_false (by omega)]; rfl, rfl⟩

theorem same_next (l m : List T) (k : Nat) (h1 : k < l.length) (h2 : k < m.length) (h : l.take k = m.take k) (he : l[k] = m[k]) : l.take (k + 1) = m.take (k + 1) := by
  rw [List.take_succ_eq_append_getElem h1, List.take_succ_eq_append_getElem h2, h, he]

set_option maxRecDepth 100000 in
set_option maxHeartbeats 2000000 in
theorem same_any (v u : Value) (l m : List T) (w : World) (h : Strs w v l) (h' : Strs w u m) :
    Calls Tryd.prog 12 #[v, u] w fun e w' => e = .returned (.bool (decide (l = m))) ∧ Below w.heap.size w w' := by
  obtain ⟨a, c, rfl, h1, h2, h3, h4⟩ := h
  obtain ⟨a', c', rfl, h1', h2', h3', h4'⟩ := h'
  unfold maxLen at h2 h2'
  have hl : l.length ≤ 9223372036854775807 := by omega
  have hl' : m.length ≤ 9223372036854775807 := by omega
  have H3 := Lib.hid h3
  have H4 := Lib.hid h4
  have H3' := Lib.hid h3'
  have H4' := Lib.hid h4'
  clear h3 h4 h3' h4'
  by_cases hlen : l.length = m.length
  · have q0 : ((l.length : Int) != (m.length : Int)) = false := by simp [hlen]
    have HL := Lib.hid hlen
    clear hlen
    go_enter Tryd.func12, Tryd.ntmps12
    go_wp2
    go_loopw [5] (fun i wr => ∃ k : Nat, k ≤ l.length ∧ i = .int .i64 k ∧ l.take k = m.take k ∧ Below w.heap.size w wr) (fun i _ => l.length - (intOf i).toNat)
    case atStart => exact ⟨0, Nat.zero_le _, rfl, rfl, Below.refl _ _⟩
    case round =>
      obtain ⟨k, hk, rfl, hall, hB⟩ := hrel
      have HA := Lib.hid hall
      clear hall
      by_cases hlt : k < l.length
      · have hltm : k < m.length := by rw [← HL.out]; exact hlt
        obtain ⟨b, off, rfl, hcell⟩ := H4.out (by intro e; rw [e] at hlt; simp at hlt)
        obtain ⟨b', off', rfl, hcell'⟩ := H4'.out (by intro e; rw [e] at hltm; simp at hltm)
        have g : wr.cell? ⟨b, off + k, none⟩ = some (.string ⟨(l[k]).toArray⟩) := (hB.cell (p := ⟨b, off + k, none⟩) (World.block_lt_of_cell? _ _ (hcell k hlt))).trans (hcell k hlt)
        have g' : wr.cell? ⟨b', off' + k, none⟩ = some (.string ⟨(m[k]).toArray⟩) := (hB.cell (p := ⟨b', off' + k, none⟩) (World.block_lt_of_cell? _ _ (hcell' k hltm))).trans (hcell' k hltm)
        have hkc : k < c := by omega
        have hkc' : k < c' := by omega
        obtain ⟨t, ht⟩ : ∃ t, l[k] = t := ⟨_, rfl⟩
        obtain ⟨t', ht'⟩ : ∃ t', m[k] = t' := ⟨_, rfl⟩
        rw [ht] at g
        rw [ht'] at g'
        have HT := Lib.hid ht
        have HT' := Lib.hid ht'
        clear hcell ht hcell' ht'
        by_cases he : t = t'
        · have q3 : (t == t') = true := by rw [he]; simp
          have q4 : (!(t == t')) = false := by rw [he]; simp
          have HE := Lib.hid he
          clear he
          go_wp2
          go_quiet (fail)
          go_wp2
          go_roundw
          case rel => exact ⟨k + 1, by omega, by go_num, same_next l m k hlt hltm HA.out (by rw [HT.out, HT'.out, HE.out]), drewN_below hB _⟩
          case measure => simp [intOf]; omega
        · have q3 : (t == t') = false := by simpa using he
          have q4 : (!(t == t')) = true := by simpa using he
          have hf : decide (l = m) = false := decide_eq_false (fun e => by subst e; exact he (by rw [← HT.out, ← HT'.out]))
          have HF := Lib.hid hf
          clear he hf
          go_wp2
          go_quiet (fail)
          go_wp2
          go_ret
          exact ⟨by rw [HF.out]; rfl, drewN_below hB _⟩
      · have hf : decide (l = m) = true := decide_eq_true (by
          have := HA.out
          rwa [List.take_of_length_le (by omega), List.take_of_length_le (by rw [← HL.out]; omega)] at this)
        have HF := Lib.hid hf
        clear hf
        go_wp2
        go_ret
        exact ⟨by rw [HF.out]; rfl, hB⟩
  · have q0 : ((l.length : Int) != (m.length : Int)) = true := by simp; omega
    have hf : decide (l = m) = false := decide_eq_false (fun e => hlen (by rw [e]))
    have HF := Lib.hid hf
    clear hf hlen
    go_enter Tryd.func12, Tryd.ntmps12
    go_wp2
    go_ret
    exact ⟨by rw [HF.out]; rfl, Below.refl _ _⟩

end Go.Proofs.YtbofkmaajhfkeaaDoor.Path

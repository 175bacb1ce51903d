/-
  Plain functions on bytes: what package ascii answers, as functions of lists. Nothing of the program.
  The walks of the small functions of package ascii: between, capital, Digit, Alpha, Hex, the two closures.
  The iterator each(s): every byte of the text, in order, for every loop body.
  Lower(s): the text with 32 more in place of each capital letter.
  cutAll(s, goes): the text without the bytes that go, here 9, 10 and 13.
  cutEnds(s, goes): the text without the bytes that go at its beginning and at its end, here those up to 32.
  Trim, Clean, Same, and the chapter's examples (awake).
  The chapter's examples answer as the chapter says (awake).
  Plain facts on what is lowered, trimmed and cleaned; 'nothing that was there has changed', step behind step.
  The document's answers for single bytes, and its Trim.
  The document's Trim.
  The document's Clean.
  The document's Lower, and Same.
-/
import Derived.Test.YtlkikfdbjpjpaaaGreatDoorProg
import Derived.KernelRfl
import Derived.WalkKit
import Derived.WalkSpells
import Derived.WalkLawsBesides
import Derived.Lib.Hide
import Derived.RangeFuncNested
import Derived.RangeFuncBound
import Derived.RangeFuncCalls
import Derived.RangeFuncLeaves
import Derived.RangeFuncBox
import Derived.Shelf.Abstract
import Derived.Shelf.RegionOpen
import Derived.OwnWalkIn
import Derived.TacticsInMore
import Derived.LoopNIn
import Derived.LoopIn
import Derived.Maps.AppendAt
import Derived.Deep.QuietTactic
import Derived.BigQuiet
namespace Go.Proofs.YtlkikfdbjpjpaaaGreatDoor.Ascii
set_option linter.unusedSimpArgs false
set_option linter.unusedVariables false
set_option maxRecDepth 100000


/-- Is it a capital letter? -/
def capB (c : Int) : Bool := decide (65 ≤ c) && decide (c ≤ 90)

/-- Is it a letter? -/
def alphaB (c : Int) : Bool := capB c || (decide (97 ≤ c) && decide (c ≤ 122))

/-- Is it a digit? -/
def digitB (c : Int) : Bool := decide (48 ≤ c) && decide (c ≤ 57)

/-- What it is worth to the base of 16. -/
def hexI (c : Int) : Int := if 48 ≤ c ∧ c ≤ 57 then c - 48 else if 97 ≤ c ∧ c ≤ 102 then c - 87 else if 65 ≤ c ∧ c ≤ 70 then c - 55 else -1

/-- A byte with 32 more, if it is a capital letter. -/
def lowI (c : Int) : Int := if 65 ≤ c ∧ c ≤ 90 then c + 32 else c

def lowB (c : UInt8) : UInt8 := if capB c.toNat then c + 32 else c

def lower (l : List UInt8) : List UInt8 := l.map lowB

/-- Up to 32. -/
def lowish (c : UInt8) : Bool := decide (c.toNat ≤ 32)

/-- 9, 10 or 13. -/
def breakB (c : UInt8) : Bool := c.toNat == 9 || c.toNat == 10 || c.toNat == 13

def dropEnd (l : List UInt8) : List UInt8 := (l.reverse.dropWhile lowish).reverse

def trim (l : List UInt8) : List UInt8 := dropEnd (l.dropWhile lowish)

def clean (l : List UInt8) : List UInt8 := (trim l).filter fun c => !breakB c

theorem lowB_toNat (c : UInt8) : ((lowB c).toNat : Int) = lowI c.toNat := by
  unfold lowB lowI capB
  have h := c.toNat_lt
  by_cases h1 : 65 ≤ (c.toNat : Int) ∧ (c.toNat : Int) ≤ 90
  · rw [if_pos (by simp [h1.1, h1.2]), if_pos h1]
    rw [UInt8.toNat_add]
    simp
    omega
  · rw [if_neg (by simp; omega), if_neg h1]

theorem capB_iff {c : Int} (h : capB c = true) : 65 ≤ c ∧ c ≤ 90 := by simpa [capB] using h

theorem lower_snoc (l : List UInt8) (c : UInt8) : lower (l ++ [c]) = lower l ++ [lowB c] := by simp [lower]

/-- What stands from the first byte above 32 on. -/
def outL (l : List UInt8) : List UInt8 := l.dropWhile lowish

/-- How much of that stays. -/
def endN (l : List UInt8) : Nat := (dropEnd (outL l)).length

theorem outL_skip (l : List UInt8) (x : UInt8) (h : lowish x = true) (h0 : outL l = []) : outL (l ++ [x]) = [] := by
  unfold outL at *
  rw [List.dropWhile_append, h0]
  simp [h]

theorem outL_add (l : List UInt8) (x : UInt8) (h : lowish x = false ∨ outL l ≠ []) : outL (l ++ [x]) = outL l ++ [x] := by
  unfold outL at *
  rw [List.dropWhile_append]
  rcases h with h | h
  · by_cases h0 : l.dropWhile lowish = []
    · rw [h0]; simp [h]
    · rw [if_neg (by simpa using h0)]
  · rw [if_neg (by simpa using h)]

theorem dropEnd_ws (l : List UInt8) (x : UInt8) (h : lowish x = true) : dropEnd (l ++ [x]) = dropEnd l := by
  unfold dropEnd
  rw [List.reverse_append]
  simp [h]

theorem dropEnd_no (l : List UInt8) (x : UInt8) (h : lowish x = false) : dropEnd (l ++ [x]) = l ++ [x] := by
  unfold dropEnd
  rw [List.reverse_append]
  simp [h]

theorem dropEnd_prefix (l : List UInt8) : dropEnd l <+: l := by
  unfold dropEnd
  have h : l.reverse.dropWhile lowish <:+ l.reverse := List.dropWhile_suffix _
  have := List.reverse_prefix.2 h
  simpa using this

theorem outL_length (l : List UInt8) : (outL l).length ≤ l.length := (List.dropWhile_suffix lowish).length_le

theorem endN_le (l : List UInt8) : endN l ≤ (outL l).length := (dropEnd_prefix _).length_le

theorem trim_take (l : List UInt8) : trim l = (outL l).take (endN l) := List.prefix_iff_eq_take.1 (dropEnd_prefix (outL l))

theorem endN_skip (l : List UInt8) (x : UInt8) (h : lowish x = true) (h0 : outL l = []) : endN (l ++ [x]) = endN l := by
  unfold endN
  rw [outL_skip l x h h0, h0]

theorem endN_ws (l : List UInt8) (x : UInt8) (h : lowish x = true) (h0 : outL l ≠ []) : endN (l ++ [x]) = endN l := by
  unfold endN
  rw [outL_add l x (.inr h0), dropEnd_ws _ _ h]

theorem endN_no (l : List UInt8) (x : UInt8) (h : lowish x = false) : endN (l ++ [x]) = (outL l).length + 1 := by
  unfold endN
  rw [outL_add l x (.inl h), dropEnd_no _ _ h]
  simp

theorem lowish_int (x : UInt8) : decide ((x.toNat : Int) ≤ 32) = lowish x := by
  unfold lowish
  rw [Bool.eq_iff_iff]
  simp
  omega



open Go.RowKit


set_option maxHeartbeats 400000 in
theorem between_any (c lo hi : Int) (w : World) :
    Calls Tryz.prog 152 #[.int .u8 c, .int .u8 lo, .int .u8 hi] w fun e w' => e = .returned (.bool (decide (lo ≤ c) && decide (c ≤ hi))) ∧ w = w' := by
  by_cases h1 : lo ≤ c
  · by_cases h2 : c ≤ hi
    · go_enter Tryz.func152, Tryz.ntmps152
      go_wp2
      go_ret
      exact ⟨by simp [h1, h2], rfl⟩
    · have h3 : decide (c ≤ hi) = false := by simpa using h2
      go_enter Tryz.func152, Tryz.ntmps152
      go_wp2
      go_ret
      exact ⟨by simp [h1, h2], rfl⟩
  · have h3 : decide (lo ≤ c) = false := by simpa using h1
    go_enter Tryz.func152, Tryz.ntmps152
    go_wp2
    go_ret
    exact ⟨by simp [h1], rfl⟩

set_option maxHeartbeats 400000 in
theorem capital_any (c : Int) (w : World) :
    Calls Tryz.prog 122 #[.int .u8 c] w fun e w' => e = .returned (.bool (capB c)) ∧ w = w' := by
  go_enter Tryz.func122, Tryz.ntmps122
  go_wp2_with (go_at_call 152; refine (between_any _ _ _ _).mono ?_; rintro e w' ⟨rfl, rfl⟩)
  go_ret
  exact ⟨rfl, rfl⟩

set_option maxHeartbeats 400000 in
theorem digit_any (c : Int) (w : World) :
    Calls Tryz.prog 121 #[.int .u8 c] w fun e w' => e = .returned (.bool (digitB c)) ∧ w = w' := by
  go_enter Tryz.func121, Tryz.ntmps121
  go_wp2_with (go_at_call 152; refine (between_any _ _ _ _).mono ?_; rintro e w' ⟨rfl, rfl⟩)
  go_ret
  exact ⟨rfl, rfl⟩

set_option maxHeartbeats 400000 in
theorem alpha_any (c : Int) (w : World) :
    Calls Tryz.prog 120 #[.int .u8 c] w fun e w' => e = .returned (.bool (alphaB c)) ∧ w = w' := by
  cases hc : capB c
  · go_enter Tryz.func120, Tryz.ntmps120
    go_wp2_with (first | (go_at_call 122; refine (capital_any _ _).mono ?_; rintro e w' ⟨rfl, rfl⟩) | (go_at_call 152; refine (between_any _ _ _ _).mono ?_; rintro e w' ⟨rfl, rfl⟩))
    go_ret
    exact ⟨by simp [alphaB, hc], rfl⟩
  · go_enter Tryz.func120, Tryz.ntmps120
    go_wp2_with (first | (go_at_call 122; refine (capital_any _ _).mono ?_; rintro e w' ⟨rfl, rfl⟩) | (go_at_call 152; refine (between_any _ _ _ _).mono ?_; rintro e w' ⟨rfl, rfl⟩))
    go_ret
    exact ⟨by simp [alphaB, hc], rfl⟩

set_option maxHeartbeats 800000 in
theorem hex_any (c : Int) (h0 : 0 ≤ c) (h1 : c ≤ 255) (w : World) :
    Calls Tryz.prog 224 #[.int .u8 c] w fun e w' => e = .returned (.int .i64 (hexI c)) ∧ w = w' := by
  by_cases d1 : 48 ≤ c ∧ c ≤ 57
  · obtain ⟨g1, g2⟩ := d1
    go_enter Tryz.func224, Tryz.ntmps224
    go_wp2
    go_ret
    refine ⟨?_, rfl⟩
    simp [hexI, g1, g2]
  · have b1 : digitB c = false := by unfold digitB; rw [Bool.and_eq_false_iff]; simp; omega
    by_cases d2 : 97 ≤ c ∧ c ≤ 102
    · have hv := Lib.hid (show hexI c = c - 87 by unfold hexI; rw [if_neg d1, if_pos d2])
      have b2 : (decide (97 ≤ c) && decide (c ≤ 102)) = true := by simp [d2.1, d2.2]
      obtain ⟨g1, g2⟩ := d2
      clear d1
      go_enter Tryz.func224, Tryz.ntmps224
      go_wp2_with (first | (go_at_call 121; refine (digit_any _ _).mono ?_; rintro e w' ⟨rfl, rfl⟩) | (go_at_call 152; refine (between_any _ _ _ _).mono ?_; rintro e w' ⟨rfl, rfl⟩))
      go_ret
      refine ⟨?_, rfl⟩
      rw [hv.out]
      simp
      omega
    · have b2 : (decide (97 ≤ c) && decide (c ≤ 102)) = false := by rw [Bool.and_eq_false_iff]; simp; omega
      by_cases d3 : 65 ≤ c ∧ c ≤ 70
      · have hv := Lib.hid (show hexI c = c - 55 by unfold hexI; rw [if_neg d1, if_neg d2, if_pos d3])
        have b3 : (decide (65 ≤ c) && decide (c ≤ 70)) = true := by simp [d3.1, d3.2]
        obtain ⟨g1, g2⟩ := d3
        clear d1 d2
        go_enter Tryz.func224, Tryz.ntmps224
        go_wp2_with (first | (go_at_call 121; refine (digit_any _ _).mono ?_; rintro e w' ⟨rfl, rfl⟩) | (go_at_call 152; refine (between_any _ _ _ _).mono ?_; rintro e w' ⟨rfl, rfl⟩))
        go_ret
        refine ⟨?_, rfl⟩
        rw [hv.out]
        simp
        omega
      · have hv := Lib.hid (show hexI c = -1 by unfold hexI; rw [if_neg d1, if_neg d2, if_neg d3])
        have b3 : (decide (65 ≤ c) && decide (c ≤ 70)) = false := by rw [Bool.and_eq_false_iff]; simp; omega
        clear d1 d2 d3
        go_enter Tryz.func224, Tryz.ntmps224
        go_wp2_with (first | (go_at_call 121; refine (digit_any _ _).mono ?_; rintro e w' ⟨rfl, rfl⟩) | (go_at_call 152; refine (between_any _ _ _ _).mono ?_; rintro e w' ⟨rfl, rfl⟩))
        go_ret
        refine ⟨?_, rfl⟩
        rw [hv.out]
        rfl

set_option maxHeartbeats 400000 in
theorem upto1_any (c b : Int) (p : Addr) (w : World) (hc : w.cell? p = some (.int .u8 b)) :
    Calls Tryz.prog 132 #[.int .u8 c, .pointer (some p)] w fun e w' => e = .returned (.bool (decide (c ≤ b))) ∧ w = w' := by
  go_enter Tryz.func132, Tryz.ntmps132
  go_wp2
  go_ret
  exact ⟨rfl, rfl⟩

set_option maxHeartbeats 400000 in
theorem oneof1_any (c x y z : Int) (p q r : Addr) (w : World) (hx : w.cell? p = some (.int .u8 x)) (hy : w.cell? q = some (.int .u8 y)) (hz : w.cell? r = some (.int .u8 z)) :
    Calls Tryz.prog 102 #[.int .u8 c, .pointer (some p), .pointer (some q), .pointer (some r)] w fun e w' => e = .returned (.bool (c == x || c == y || c == z)) ∧ w = w' := by
  cases h1 : (c == x)
  · cases h2 : (c == y)
    · go_enter Tryz.func102, Tryz.ntmps102
      go_wp2
      go_ret
      exact ⟨by simp, rfl⟩
    · go_enter Tryz.func102, Tryz.ntmps102
      go_wp2
      go_ret
      exact ⟨by simp, rfl⟩
  · go_enter Tryz.func102, Tryz.ntmps102
    go_wp2
    go_ret
    exact ⟨by simp, rfl⟩



open Go.RowKit Go.Shelf

attribute [local go_sem] Oper.semAt_some

/-- A byte as a value. -/
def u8v (x : UInt8) : Value := .int .u8 (x.toNat : Int)

/-- A slice of bytes that the call owns, as a text. -/
theorem conv_owned {W : World} {base : Nat} {v : Value} {k : Nat} {l : List UInt8} (h : W.ownsRow base 5 1 v k (l.map u8v)) : (convert 81 9 v).run Tryz.prog W = .ok (.string ⟨l.toArray⟩) W := by
  have hl : l.length = k := by simpa using h.1
  rcases h.2 with ⟨rfl, rfl⟩ | ⟨g, cap, cur, rfl, _, hg, _, _, hcs, htk⟩
  · obtain rfl : l = [] := List.length_eq_zero_iff.1 hl
    exact run_convert_bytes_nil W 81 5 Tryz.underlying81 Tryz.underlying5 0 0 9 Tryz.underlying9
  · subst hl
    refine run_convert_bytes_back W 81 9 5 ⟨g, 0, none⟩ cap l Tryz.underlying81 Tryz.underlying5 Tryz.underlying9 ?_
    intro j hj
    have e : (⟨g, 0, none⟩ : Addr).add j = ⟨g, j, none⟩ := by unfold Addr.add; split <;> simp_all
    rw [e]
    have h1 : cur[j]? = some (u8v l[j]) := by
      have h2 : (cur.toList.take (l.length * 1))[j]? = (l.map u8v)[j]? := by rw [htk]
      rw [List.getElem?_take_of_lt (by omega), List.getElem?_map, List.getElem?_eq_getElem hj] at h2
      simpa using h2
    simp [World.cell?, hg, h1, u8v]

/-- The box that holds the text holds it still. -/
def KeepsText (Bs : Nat) (s : ByteArray) (W W' : World) : Prop := W.cell? ⟨Bs, 0, none⟩ = some (.string s) → W'.cell? ⟨Bs, 0, none⟩ = some (.string s)

theorem keepsText_t {Bs : Nat} {s : ByteArray} {A B C : World} (h : KeepsText Bs s A B) (k : KeepsText Bs s B C) : KeepsText Bs s A C := fun x => k (h x)

theorem keepsText_b {Bs : Nat} {s : ByteArray} {w : World} (W : World) (l : Nat) (o o' : Obj) (_ : w.heap.size ≤ l) (h : W.heap[l]? = some o) (hc : o.isCells = false) (_ : o.isWalk = false) : KeepsText Bs s W (W.putObj l o') :=
  fun x => cell_kept x (grownBy_putObj' W l o') (fun r e => by cases e; exact ⟨o, h, hc⟩)

theorem take_snoc (s : ByteArray) (k : Nat) (h : k < s.size) : s.data.toList.take (k + 1) = s.data.toList.take k ++ [s[k]] := by
  rw [List.take_succ_eq_append_getElem (by simpa using h)]; rfl

set_option maxRecDepth 100000 in
set_option maxHeartbeats 2000000 in
theorem each1_in (F : Fence) (n : Nat) (h31 : F.fn 131) (hro : F.round = none) (hn : 1 ≤ n) (l Bs : Nat) (s : ByteArray) (hs : s.size ≤ maxLen) (J Jx : List UInt8 → World → Prop)
    (hY : ∀ pre x W, J pre W → pre.length < s.size → YieldAt F (n - 1) Tryz.prog l #[.int .u8 (x.toNat : Int)] W fun e W' =>
      (e = .returned (.bool true) ∧ J (pre ++ [x]) W' ∧ KeepsText Bs s W W') ∨ (e = .returned (.bool false) ∧ Jx (pre ++ [x]) W'))
    (W : World) (hBs : W.cell? ⟨Bs, 0, none⟩ = some (.string s)) (h0 : J [] W) :
    CallsIn F n Tryz.prog 131 #[.func (.yield l) #[] #[], .pointer (some ⟨Bs, 0, none⟩)] W fun e W' => (∃ v, e = .returned v) ∧
      ((∃ ys, ys = s.data.toList ∧ J ys W') ∨ (∃ pre, pre <+: s.data.toList ∧ Jx pre W')) := by
  unfold maxLen at hs
  refine callsIn_of_wp Tryz.func131 rfl h31 ?_ hro
  simp only [Tryz.ntmps131, List.size_toArray, List.length_cons, List.length_nil, Nat.reduceAdd, Nat.reduceSub, Array.replicate_succ, Array.replicate_zero, List.push_toArray, List.append_toArray, List.nil_append, List.cons_append]
  gi_wp2
  gi_loopw [6] (fun i wr => ∃ k : Nat, k ≤ s.size ∧ i = .int .i64 k ∧ J (s.data.toList.take k) wr ∧ wr.cell? ⟨Bs, 0, none⟩ = some (.string s))
    (fun i _ => s.size - (intOf i).toNat)
  case atStart => exact ⟨0, Nat.zero_le _, rfl, h0, hBs⟩
  case round =>
    obtain ⟨k, hk, rfl, hJs, hcx⟩ := hrel
    by_cases hlt : k < s.size
    · have hl : (s.data.toList.take k).length < s.size := by
        rw [List.length_take]; have : s.data.toList.length = s.size := rfl; omega
      obtain ⟨fn, tmps, assign, body, hy, hR⟩ := hY _ s[k] wr hJs hl
      clear hl
      gi_wp2
      refine hR.mono ?_
      rintro e W3 (⟨rfl, hJ3, hk3⟩ | ⟨rfl, hJx3⟩)
      · gi_wp2
        go_roundw
        case rel => exact ⟨k + 1, by omega, by simp, by rw [take_snoc s k hlt]; exact hJ3, hk3 hcx⟩
        case measure => simp [intOf]; omega
      · gi_wp2
        refine bodyPost_ret (results_none rfl _ _ _) rfl ?_
        exact ⟨⟨_, rfl⟩, .inr ⟨_, by rw [← take_snoc s k hlt]; exact List.take_prefix _ _, hJx3⟩⟩
    · obtain rfl : k = s.size := by omega
      gi_wp2
      go_end0
      exact ⟨⟨_, rfl⟩, .inl ⟨_, by rw [List.take_of_length_le (by show s.data.toList.length ≤ _; exact Nat.le_refl _)], hJs⟩⟩

set_option maxHeartbeats 1000000 in
theorem each_in (F : Fence) (n : Nat) (h26 : F.fn 99) (hro : F.round = none) (s : ByteArray) (w : World) :
    CallsIn F n Tryz.prog 99 #[.string s] w fun e w' => e = .returned (.func (.func 131) #[] #[.pointer (some ⟨w.heap.size, 0, none⟩)]) ∧ w.alloc (.cells #[.string s] 9) = w' := by
  refine callsIn_of_wp Tryz.func99 rfl h26 ?_ hro
  simp only [Tryz.ntmps99, List.size_toArray, List.length_cons, List.length_nil, Nat.reduceAdd, Nat.reduceSub, Array.replicate_succ, Array.replicate_zero, List.push_toArray, List.append_toArray, List.nil_append, List.cons_append]
  gi_wp2
  go_ret
  exact ⟨rfl, rfl⟩

theorem each_stops (F : Fence) (n : Nat) (h31 : F.fn 131) (hro : F.round = none) (hn : 1 ≤ n) (Bs : Nat) (s : ByteArray) (hs : s.size ≤ maxLen) (w : World) (hBs : Bs < w.heap.size) (hc : w.cell? ⟨Bs, 0, none⟩ = some (.string s)) :
    SeqStopsK F n Tryz.prog 131 #[.pointer (some ⟨Bs, 0, none⟩)] (fun x : UInt8 => #[Value.int .u8 (x.toNat : Int)]) (KeepsText Bs s) (fun ys => ys = s.data.toList) (fun pre => pre <+: s.data.toList) s.size w :=
  fun l J Jx W hW _ _ hY h0 => each1_in F n h31 hro hn l Bs s hs J Jx hY W ((hW.cell (p := ⟨Bs, 0, none⟩) hBs).trans hc) h0



attribute [local go_sem] Oper.semAt_some

theorem Tryz.info5 : (Tryz.prog.info? 5).map (fun i => (i.zero, i.size, i.bytes)) = some (some (.int .u8 0), 1, 1) := by kernel_rfl

set_option maxRecDepth 100000 in
set_option maxHeartbeats 2000000 in
theorem lower_in (s : ByteArray) (hs : s.size ≤ maxLen) (hb47 : s.size ≤ 140737488355328) (w : World) :
    CallsIn Fence.wide 5 Tryz.prog 95 #[.string s] w fun e W' => e = .returned (.string ⟨(lower s.data.toList).toArray⟩) ∧ Below w.heap.size w W' := by
  obtain ⟨i0, hi, hz0, hz1, hz2⟩ := info_parts Tryz.info5
  refine callsIn_of_wp_marks Tryz.func95 rfl trivial ?_ rfl
  simp only [Tryz.ntmps95, List.size_toArray, List.length_cons, List.length_nil, Nat.reduceAdd, Nat.reduceSub, Array.replicate_succ, Array.replicate_zero, List.push_toArray, List.append_toArray, List.nil_append, List.cons_append]
  gi_wp2_with (first | (gi_at_make; refine wpListIn_make_own _ rfl _ _ 81 rfl w.heap.size 5 i0 (.int .u8 0) 1 Tryz.underlying81 hi hz0 hz1 _ _ _ s.size rfl rfl rfl (by rw [hz2]; omega) hs (Nat.le_refl _) ?_; intro w1 hown0 hg0) | (refine ⟨trivial, ?_⟩; gi_at_call 99; refine (each_in Fence.wide _ trivial rfl _ _).mono ?_; rintro e w' ⟨rfl, rfl⟩))
  have bO := Boxed.new w1 81 (.slice (some ⟨w.heap.size, 0, none⟩) 0 s.size)
  have bS := Boxed.new (w1.alloc (.cells #[.slice (some ⟨w.heap.size, 0, none⟩) 0 s.size] 81)) 9 (.string s)
  rw [World.size_alloc] at bS
  have hB1 : Below w.heap.size w w1 := (Below.refl _ w).grown hg0 (Nat.le_refl _) (fun j e => by cases e)
  have hsz := hB1.size
  have hB0 : Below w.heap.size w ((w1.alloc (.cells #[.slice (some ⟨w.heap.size, 0, none⟩) 0 s.size] 81)).alloc (.cells #[.string s] 9)) := (hB1.alloc hsz _).alloc (by simp; omega) _
  refine wpIn_rangeFunc_ownG rfl (by omega) (gf := 131) (lb := #[.pointer (some ⟨w1.heap.size + 1, 0, none⟩)]) rfl trivial (enters_of Tryz.func131 (by kernel_rfl) rfl)
    (each_stops Fence.wide 4 trivial rfl (by omega) (w1.heap.size + 1) s hs _ (by simp) bS.cell) keepsText_t keepsText_b (Below.refl _ _) (fun _ => rfl)
    (fun pre W => (∃ v, Boxed W w1.heap.size 81 v ∧ W.ownsRow w.heap.size 5 1 v (lower pre).length ((lower pre).map u8v) ∧ True) ∧ Boxed W (w1.heap.size + 1) 9 (.string s) ∧ Below w.heap.size w W)
    (fun _ _ _ => False)
    (OwnFrom.and (Own.from (holdsRow_own w.heap.size w1.heap.size 81 5 1 (fun pre => (lower pre).length) (fun pre => (lower pre).map u8v) (fun _ _ => True)) _) (OwnFrom.and (Own.from (boxed_own _ _ _) _) (ownFrom_below (Nat.le_refl _) (by simp; omega))))
    (fun _ _ _ _ _ hs _ _ => hs)
    ⟨⟨_, bO.alloc _, (hown0.alloc _).alloc _, trivial⟩, bS, hB0⟩
    (fun x => { tmps := #[.string s, undef, .string ⟨#[]⟩, .pointer (some ⟨w1.heap.size, 0, none⟩), .int .u8 (x.toNat : Int), .string s, .int .i64 s.size, .slice (some ⟨w.heap.size, 0, none⟩) 0 s.size, .string s, .func (.func 131) #[] #[.pointer (some ⟨w1.heap.size + 1, 0, none⟩)], .int .u8 (x.toNat : Int), undef, undef, undef, undef, undef, undef, undef, undef, undef, undef], defers := [] }) ?assign ?body ?done ?stop
  case assign =>
    intro l x W K hK
    gi_wp2
    exact hK
  case body =>
    rintro l pre x W ⟨⟨v, hv, hrow, _⟩, hS, hB⟩ hlt
    have hc := hv.cell
    have hpl : (lower pre).length = pre.length := List.length_map _
    have hx := x.toNat_lt
    have hb2 : (lower pre).length + 1 ≤ maxLen := by unfold maxLen at hs ⊢; omega
    have hb3 : ((lower pre).length + 1) * 1 ≤ 140737488355328 := by omega
    clear hpl
    cases hcap : capB x.toNat
    · gi_wp2_with (first | (refine ⟨trivial, ?_⟩; gi_at_call 122; refine (CallsIn.inRound l (callsIn_wide.2 (capital_any _ _))).mono ?_; rintro e w' ⟨rfl, rfl⟩) | (gi_at_builtin; refine wpListIn_append_own _ rfl _ _ 81 rfl w.heap.size 5 i0 (.int .u8 0) 1 1 Tryz.underlying81 hi hz0 hz1 hz2 rfl (by decide) _ _ _ rfl (hrow.alloc _) ⟨W.heap.size, 0, none⟩ 1 1 [.int .u8 (x.toNat : Int)] rfl rfl (cell_one_new _ _ _) (by simp [Value.oneCell']) hb2 hb3 (by have := hB.size; simp; omega) ?_; intro v' w2 hown' hgrow _; obtain ⟨g', cap', rfl⟩ := ownsRow_succ hown'; obtain ⟨hv1, hv2, hr2, hk2, hbe⟩ := hv.appended (by decide) hrow hB.size hsz hown' hgrow; have hc1 := hv1.cell; have hf1 := hv1.frozen; have hS2 := ((hS.alloc _).kept hgrow (hS.not_row (by decide) hrow)).other (B' := w1.heap.size) (by omega) (.slice (some ⟨g', 0, none⟩) ((lower pre).length + 1) cap')))
      exact ⟨hk2.from _, fun _ => hS2.cell, ⟨_, hv2, by rw [lower_snoc]; simpa [u8v, lowB, hcap] using hr2, trivial⟩, hS2, hB.trans hbe⟩
    · obtain ⟨h65, h90⟩ := capB_iff hcap
      have hlow := Lib.hid (lowB_toNat x)
      gi_wp2_with (first | (refine ⟨trivial, ?_⟩; gi_at_call 122; refine (CallsIn.inRound l (callsIn_wide.2 (capital_any _ _))).mono ?_; rintro e w' ⟨rfl, rfl⟩) | (gi_at_builtin; refine wpListIn_append_own _ rfl _ _ 81 rfl w.heap.size 5 i0 (.int .u8 0) 1 1 Tryz.underlying81 hi hz0 hz1 hz2 rfl (by decide) _ _ _ rfl (hrow.alloc _) ⟨W.heap.size, 0, none⟩ 1 1 [.int .u8 ((x.toNat : Int) + 32)] rfl rfl (cell_one_new _ _ _) (by simp [Value.oneCell']) hb2 hb3 (by have := hB.size; simp; omega) ?_; intro v' w2 hown' hgrow _; obtain ⟨g', cap', rfl⟩ := ownsRow_succ hown'; obtain ⟨hv1, hv2, hr2, hk2, hbe⟩ := hv.appended (by decide) hrow hB.size hsz hown' hgrow; have hc1 := hv1.cell; have hf1 := hv1.frozen; have hS2 := ((hS.alloc _).kept hgrow (hS.not_row (by decide) hrow)).other (B' := w1.heap.size) (by omega) (.slice (some ⟨g', 0, none⟩) ((lower pre).length + 1) cap')))
      exact ⟨hk2.from _, fun _ => hS2.cell, ⟨_, hv2, by rw [lower_snoc]; simpa [u8v, hlow.out, lowI, h65, h90] using hr2, trivial⟩, hS2, hB.trans hbe⟩
  case done =>
    rintro D ys W hD rfl ⟨⟨v, hv, hrow, _⟩, hS, hB⟩ hK
    have hc := hv.cell
    have hcv := conv_owned hrow
    gi_wp2
    refine ⟨by simp, .inl ⟨_, _, rfl, run_takeDeferred hK, ?_⟩⟩
    exact ⟨_, results_tmp rfl _ _ _, rfl, hB.trans (belowK_b (w := w) (Nat.le_refl _) W D _ _ (by simp at hD; omega) hK rfl rfl)⟩
  case stop =>
    rintro D c pre W _ _ h _
    exact h.elim

theorem lower_calls (s : ByteArray) (hs : s.size ≤ maxLen) (hb47 : s.size ≤ 140737488355328) (w : World) :
    Calls Tryz.prog 95 #[.string s] w fun e W' => e = .returned (.string ⟨(lower s.data.toList).toArray⟩) ∧ Below w.heap.size w W' :=
  callsIn_wide.1 (lower_in s hs hb47 w)



attribute [local go_sem] Oper.semAt_some

theorem Tryz.info5' : (Tryz.prog.info? 5).map (fun i => (i.zero, i.size, i.bytes)) = some (some (.int .u8 0), 1, 1) := by kernel_rfl

theorem breakB_int (x : UInt8) : ((x.toNat : Int) == 9 || (x.toNat : Int) == 10 || (x.toNat : Int) == 13) = breakB x := by
  unfold breakB
  rw [Bool.eq_iff_iff]
  simp
  omega

/-- What stays. -/
def stays (l : List UInt8) : List UInt8 := l.filter fun c => !breakB c

theorem stays_snoc_no (l : List UInt8) (c : UInt8) (h : breakB c = true) : stays (l ++ [c]) = stays l := by simp [stays, h]

theorem stays_snoc_yes (l : List UInt8) (c : UInt8) (h : breakB c = false) : stays (l ++ [c]) = stays l ++ [c] := by simp [stays, h]

theorem stays_length (l : List UInt8) : (stays l).length ≤ l.length := List.length_filter_le _ _

set_option maxRecDepth 100000 in
set_option maxHeartbeats 2000000 in
theorem cutAll_in (s : ByteArray) (hs : s.size ≤ maxLen) (hb47 : s.size ≤ 140737488355328) (pa pb pd : Addr) (w : World) (qa : w.cell? pa = some (.int .u8 9)) (qb : w.cell? pb = some (.int .u8 10)) (qd : w.cell? pd = some (.int .u8 13)) :
    CallsIn Fence.wide 5 Tryz.prog 68 #[.string s, .func (.func 102) #[] #[.pointer (some pa), .pointer (some pb), .pointer (some pd)]] w fun e W' => e = .returned (.string ⟨(stays s.data.toList).toArray⟩) ∧ Below w.heap.size w W' := by
  obtain ⟨i0, hi, hz0, hz1, hz2⟩ := info_parts Tryz.info5'
  have la := World.block_lt_of_cell? _ _ qa
  have lb := World.block_lt_of_cell? _ _ qb
  have ld := World.block_lt_of_cell? _ _ qd
  refine callsIn_of_wp_marks Tryz.func68 rfl trivial ?_ rfl
  simp only [Tryz.ntmps68, List.size_toArray, List.length_cons, List.length_nil, Nat.reduceAdd, Nat.reduceSub, Array.replicate_succ, Array.replicate_zero, List.push_toArray, List.append_toArray, List.nil_append, List.cons_append]
  gi_wp2_with (first | (gi_at_make; refine wpListIn_make_own _ rfl _ _ 81 rfl w.heap.size 5 i0 (.int .u8 0) 1 Tryz.underlying81 hi hz0 hz1 _ _ _ s.size rfl rfl rfl (by rw [hz2]; omega) hs (by simp) ?_; intro w1 hown0 hg0) | (refine ⟨trivial, ?_⟩; gi_at_call 99; refine (each_in Fence.wide _ trivial rfl _ _).mono ?_; rintro e w' ⟨rfl, rfl⟩))
  rw [World.size_alloc] at hown0
  have bF := (Boxed.new w 77 (.func (.func 102) #[] #[.pointer (some pa), .pointer (some pb), .pointer (some pd)])).kept hg0 (by simp)
  have bO := Boxed.new w1 81 (.slice (some ⟨w.heap.size + 1, 0, none⟩) 0 s.size)
  have bS := Boxed.new (w1.alloc (.cells #[.slice (some ⟨w.heap.size + 1, 0, none⟩) 0 s.size] 81)) 9 (.string s)
  rw [World.size_alloc] at bS
  have hB1 : Below w.heap.size w w1 := ((Below.refl _ w).alloc (Nat.le_refl _) _).grown hg0 (by simp) (fun j e => by cases e)
  have hsz := hB1.size
  have hlt0 := bF.lt
  have hB0 : Below w.heap.size w ((w1.alloc (.cells #[.slice (some ⟨w.heap.size + 1, 0, none⟩) 0 s.size] 81)).alloc (.cells #[.string s] 9)) := (hB1.alloc hsz _).alloc (by simp; omega) _
  refine wpIn_rangeFunc_ownG rfl (by omega) (gf := 131) (lb := #[.pointer (some ⟨w1.heap.size + 1, 0, none⟩)]) rfl trivial (enters_of Tryz.func131 (by kernel_rfl) rfl)
    (each_stops Fence.wide 4 trivial rfl (by omega) (w1.heap.size + 1) s hs _ (by simp) bS.cell) keepsText_t keepsText_b (Below.refl _ _) (fun _ => rfl)
    (fun pre W => (∃ v, Boxed W w1.heap.size 81 v ∧ W.ownsRow w.heap.size 5 1 v (stays pre).length ((stays pre).map u8v) ∧ True) ∧ Boxed W (w1.heap.size + 1) 9 (.string s) ∧ Boxed W w.heap.size 77 (.func (.func 102) #[] #[.pointer (some pa), .pointer (some pb), .pointer (some pd)]) ∧ Below w.heap.size w W)
    (fun _ _ _ => False)
    (OwnFrom.and (Own.from (holdsRow_own w.heap.size w1.heap.size 81 5 1 (fun pre => (stays pre).length) (fun pre => (stays pre).map u8v) (fun _ _ => True)) _) (OwnFrom.and (Own.from (boxed_own _ _ _) _) (OwnFrom.and (Own.from (boxed_own _ _ _) _) (ownFrom_below (Nat.le_refl _) (by simp; omega)))))
    (fun _ _ _ _ _ hs _ _ => hs)
    ⟨⟨_, bO.alloc _, (hown0.alloc _).alloc _, trivial⟩, bS, (bF.alloc _).alloc _, hB0⟩
    (fun x => { tmps := #[.string s, .func (.func 102) #[] #[.pointer (some pa), .pointer (some pb), .pointer (some pd)], undef, .pointer (some ⟨w.heap.size, 0, none⟩), .string ⟨#[]⟩, .pointer (some ⟨w1.heap.size, 0, none⟩), .int .u8 (x.toNat : Int), .string s, .int .i64 s.size, .slice (some ⟨w.heap.size + 1, 0, none⟩) 0 s.size, .string s, .func (.func 131) #[] #[.pointer (some ⟨w1.heap.size + 1, 0, none⟩)], .int .u8 (x.toNat : Int), undef, undef, undef, undef, undef, undef, undef, undef, undef, undef], defers := [] }) ?assign ?body ?done ?stop
  case assign =>
    intro l x W K hK
    gi_wp2
    exact hK
  case body =>
    rintro l pre x W ⟨⟨v, hv, hrow, _⟩, hS, hF, hB⟩ hlt
    have hc := hv.cell
    have hcF := hF.cell
    have qa' := (hB.cell la).trans qa
    have qb' := (hB.cell lb).trans qb
    have qd' := (hB.cell ld).trans qd
    have hpl := stays_length pre
    have hb2 : (stays pre).length + 1 ≤ maxLen := by unfold maxLen at hs ⊢; omega
    have hb3 : ((stays pre).length + 1) * 1 ≤ 140737488355328 := by omega
    clear hpl
    have hbr := Lib.hid (show ((x.toNat : Int) == 9 || (x.toNat : Int) == 10 || (x.toNat : Int) == 13) = breakB x from breakB_int x)
    cases hbk : breakB x
    · have hgo : ((x.toNat : Int) == 9 || (x.toNat : Int) == 10 || (x.toNat : Int) == 13) = false := hbr.out.trans hbk
      gi_wp2_with (first | (refine ⟨trivial, ?_⟩; gi_at_call 102; refine (CallsIn.inRound l (callsIn_wide.2 (oneof1_any _ _ _ _ _ _ _ _ qa' qb' qd'))).mono ?_; rintro e w' ⟨rfl, rfl⟩) | (gi_at_builtin; refine wpListIn_append_own _ rfl _ _ 81 rfl w.heap.size 5 i0 (.int .u8 0) 1 1 Tryz.underlying81 hi hz0 hz1 hz2 rfl (by decide) _ _ _ rfl (hrow.alloc _) ⟨W.heap.size, 0, none⟩ 1 1 [.int .u8 (x.toNat : Int)] rfl rfl (cell_one_new _ _ _) (by simp [Value.oneCell']) hb2 hb3 (by have := hB.size; simp; omega) ?_; intro v' w2 hown' hgrow _; obtain ⟨g', cap', rfl⟩ := ownsRow_succ hown'; obtain ⟨hv1, hv2, hr2, hk2, hbe⟩ := hv.appended (by decide) hrow hB.size hsz hown' hgrow; have hc1 := hv1.cell; have hf1 := hv1.frozen; have hS2 := ((hS.alloc _).kept hgrow (hS.not_row (by decide) hrow)).other (B' := w1.heap.size) (by omega) (.slice (some ⟨g', 0, none⟩) ((stays pre).length + 1) cap'); have hF2 := ((hF.alloc _).kept hgrow (hF.not_row (by decide) hrow)).other (B' := w1.heap.size) (by omega) (.slice (some ⟨g', 0, none⟩) ((stays pre).length + 1) cap')))
      exact ⟨hk2.from _, fun _ => hS2.cell, ⟨_, hv2, by rw [stays_snoc_yes _ _ hbk]; simpa [u8v] using hr2, trivial⟩, hS2, hF2, hB.trans hbe⟩
    · have hgo : ((x.toNat : Int) == 9 || (x.toNat : Int) == 10 || (x.toNat : Int) == 13) = true := hbr.out.trans hbk
      gi_wp2_with (first | (refine ⟨trivial, ?_⟩; gi_at_call 102; refine (CallsIn.inRound l (callsIn_wide.2 (oneof1_any _ _ _ _ _ _ _ _ qa' qb' qd'))).mono ?_; rintro e w' ⟨rfl, rfl⟩) | (gi_at_builtin; refine wpListIn_append_own _ rfl _ _ 81 rfl w.heap.size 5 i0 (.int .u8 0) 1 1 Tryz.underlying81 hi hz0 hz1 hz2 rfl (by decide) _ _ _ rfl (hrow.alloc _) ⟨W.heap.size, 0, none⟩ 1 1 [.int .u8 (x.toNat : Int)] rfl rfl (cell_one_new _ _ _) (by simp [Value.oneCell']) hb2 hb3 (by have := hB.size; simp; omega) ?_; intro v' w2 hown' hgrow _; obtain ⟨g', cap', rfl⟩ := ownsRow_succ hown'; obtain ⟨hv1, hv2, hr2, hk2, hbe⟩ := hv.appended (by decide) hrow hB.size hsz hown' hgrow; have hc1 := hv1.cell; have hf1 := hv1.frozen; have hS2 := ((hS.alloc _).kept hgrow (hS.not_row (by decide) hrow)).other (B' := w1.heap.size) (by omega) (.slice (some ⟨g', 0, none⟩) ((stays pre).length + 1) cap'); have hF2 := ((hF.alloc _).kept hgrow (hF.not_row (by decide) hrow)).other (B' := w1.heap.size) (by omega) (.slice (some ⟨g', 0, none⟩) ((stays pre).length + 1) cap')))
      exact ⟨KeepsFrom.refl _ _, fun h => h, ⟨v, hv, by rw [stays_snoc_no _ _ hbk]; exact hrow, trivial⟩, hS, hF, hB⟩
  case done =>
    rintro D ys W hD rfl ⟨⟨v, hv, hrow, _⟩, hS, hF, hB⟩ hK
    have hc := hv.cell
    have hcv := conv_owned hrow
    gi_wp2
    refine ⟨by simp, .inl ⟨_, _, rfl, run_takeDeferred hK, ?_⟩⟩
    exact ⟨_, results_tmp rfl _ _ _, rfl, hB.trans (belowK_b (w := w) (Nat.le_refl _) W D _ _ (by simp at hD; omega) hK rfl rfl)⟩
  case stop =>
    rintro D c pre W _ _ h _
    exact h.elim

theorem cutAll_calls (s : ByteArray) (hs : s.size ≤ maxLen) (hb47 : s.size ≤ 140737488355328) (pa pb pd : Addr) (w : World) (qa : w.cell? pa = some (.int .u8 9)) (qb : w.cell? pb = some (.int .u8 10)) (qd : w.cell? pd = some (.int .u8 13)) :
    Calls Tryz.prog 68 #[.string s, .func (.func 102) #[] #[.pointer (some pa), .pointer (some pb), .pointer (some pd)]] w fun e W' => e = .returned (.string ⟨(stays s.data.toList).toArray⟩) ∧ Below w.heap.size w W' :=
  callsIn_wide.1 (cutAll_in s hs hb47 pa pb pd w qa qb qd)



attribute [local go_sem] Oper.semAt_some

theorem Tryz.info5'' : (Tryz.prog.info? 5).map (fun i => (i.zero, i.size, i.bytes)) = some (some (.int .u8 0), 1, 1) := by kernel_rfl

theorem ownsRow_take {W : World} {base : Nat} {e : TypeId} {g k cap m : Nat} {xs : List Value} (h : W.ownsRow base e 1 (.slice (some ⟨g, 0, none⟩) k cap) k xs) (hm : m ≤ k) : W.ownsRow base e 1 (.slice (some ⟨g, 0, none⟩) m cap) m (xs.take m) := by
  obtain ⟨h1, h2⟩ := h
  refine ⟨by rw [List.length_take]; omega, ?_⟩
  rcases h2 with ⟨e, _⟩ | ⟨g', cap', cur, e, hb, hg, hk, hc, hz, ht⟩
  · cases e
  · cases e
    refine .inr ⟨g, cap, cur, rfl, hb, hg, by omega, hc, hz, ?_⟩
    rw [← ht, List.take_take]
    congr 1
    omega

set_option maxRecDepth 100000 in
set_option maxHeartbeats 2000000 in
theorem cutEnds_in (s : ByteArray) (hs : s.size ≤ maxLen) (hb47 : s.size ≤ 140737488355328) (pa : Addr) (w : World) (qa : w.cell? pa = some (.int .u8 32)) :
    CallsIn Fence.wide 5 Tryz.prog 100 #[.string s, .func (.func 132) #[] #[.pointer (some pa)]] w fun e W' => e = .returned (.string ⟨(trim s.data.toList).toArray⟩) ∧ Below w.heap.size w W' := by
  obtain ⟨i0, hi, hz0, hz1, hz2⟩ := info_parts Tryz.info5''
  have la := World.block_lt_of_cell? _ _ qa
  refine callsIn_of_wp_marks Tryz.func100 rfl trivial ?_ rfl
  simp only [Tryz.ntmps100, List.size_toArray, List.length_cons, List.length_nil, Nat.reduceAdd, Nat.reduceSub, Array.replicate_succ, Array.replicate_zero, List.push_toArray, List.append_toArray, List.nil_append, List.cons_append]
  gi_wp2_with (first | (gi_at_make; refine wpListIn_make_own _ rfl _ _ 81 rfl w.heap.size 5 i0 (.int .u8 0) 1 Tryz.underlying81 hi hz0 hz1 _ _ _ s.size rfl rfl rfl (by rw [hz2]; omega) hs (by simp) ?_; intro w1 hown0 hg0) | (refine ⟨trivial, ?_⟩; gi_at_call 99; refine (each_in Fence.wide _ trivial rfl _ _).mono ?_; rintro e w' ⟨rfl, rfl⟩))
  rw [World.size_alloc] at hown0
  have bF := (Boxed.new w 77 (.func (.func 132) #[] #[.pointer (some pa)])).kept hg0 (by simp)
  have bO := Boxed.new w1 81 (.slice (some ⟨w.heap.size + 1, 0, none⟩) 0 s.size)
  have bE := Boxed.new (w1.alloc (.cells #[.slice (some ⟨w.heap.size + 1, 0, none⟩) 0 s.size] 81)) 3 (.int .i64 0)
  have bS := Boxed.new ((w1.alloc (.cells #[.slice (some ⟨w.heap.size + 1, 0, none⟩) 0 s.size] 81)).alloc (.cells #[.int .i64 0] 3)) 9 (.string s)
  rw [World.size_alloc] at bE
  rw [World.size_alloc, World.size_alloc] at bS
  have hB1 : Below w.heap.size w w1 := ((Below.refl _ w).alloc (Nat.le_refl _) _).grown hg0 (by simp) (fun j e => by cases e)
  have hsz := hB1.size
  have hlt0 := bF.lt
  have hB0 : Below w.heap.size w (((w1.alloc (.cells #[.slice (some ⟨w.heap.size + 1, 0, none⟩) 0 s.size] 81)).alloc (.cells #[.int .i64 0] 3)).alloc (.cells #[.string s] 9)) := ((hB1.alloc hsz _).alloc (by simp; omega) _).alloc (by simp; omega) _
  refine wpIn_rangeFunc_ownG rfl (by omega) (gf := 131) (lb := #[.pointer (some ⟨w1.heap.size + 1 + 1, 0, none⟩)]) rfl trivial (enters_of Tryz.func131 (by kernel_rfl) rfl)
    (each_stops Fence.wide 4 trivial rfl (by omega) (w1.heap.size + 1 + 1) s hs _ (by simp) bS.cell) keepsText_t keepsText_b (Below.refl _ _) (fun _ => rfl)
    (fun pre W => (∃ v, Boxed W w1.heap.size 81 v ∧ W.ownsRow w.heap.size 5 1 v (outL pre).length ((outL pre).map u8v) ∧ ∃ g cap, v = .slice (some ⟨g, 0, none⟩) (outL pre).length cap) ∧ Boxed W (w1.heap.size + 1 + 1) 9 (.string s) ∧ Boxed W w.heap.size 77 (.func (.func 132) #[] #[.pointer (some pa)]) ∧ Boxed W (w1.heap.size + 1) 3 (.int .i64 (endN pre)) ∧ Below w.heap.size w W)
    (fun _ _ _ => False)
    (OwnFrom.and (Own.from (holdsRow_own w.heap.size w1.heap.size 81 5 1 (fun pre => (outL pre).length) (fun pre => (outL pre).map u8v) (fun pre v => ∃ g cap, v = .slice (some ⟨g, 0, none⟩) (outL pre).length cap)) _) (OwnFrom.and (Own.from (boxed_own _ _ _) _) (OwnFrom.and (Own.from (boxed_own _ _ _) _) (OwnFrom.and (Own.from (boxed_own _ _ (fun pre => .int .i64 (endN pre))) _) (ownFrom_below (Nat.le_refl _) (by simp; omega))))))
    (fun _ _ _ _ _ hs _ _ => hs)
    ⟨⟨_, (bO.alloc _).alloc _, ((hown0.alloc _).alloc _).alloc _, _, _, rfl⟩, bS, ((bF.alloc _).alloc _).alloc _, bE.alloc _, hB0⟩
    (fun x => { tmps := #[.string s, .func (.func 132) #[] #[.pointer (some pa)], undef, .pointer (some ⟨w.heap.size, 0, none⟩), .string ⟨#[]⟩, .pointer (some ⟨w1.heap.size, 0, none⟩), .pointer (some ⟨w1.heap.size + 1, 0, none⟩), .int .u8 (x.toNat : Int), .string s, .int .i64 s.size, .slice (some ⟨w.heap.size + 1, 0, none⟩) 0 s.size, .string s, .func (.func 131) #[] #[.pointer (some ⟨w1.heap.size + 1 + 1, 0, none⟩)], .int .u8 (x.toNat : Int), undef, undef, undef, undef, undef, undef, undef, undef, undef, undef, undef, undef, undef, undef, undef, undef, undef, undef, undef, undef, undef, undef], defers := [] }) ?assign ?body ?done ?stop
  case assign =>
    intro l x W K hK
    gi_wp2
    exact hK
  case body =>
    rintro l pre x W ⟨⟨v, hv, hrow, g, cap, rfl⟩, hS, hF, hE, hB⟩ hlt
    have hc := hv.cell
    have hcF := hF.cell
    have qa' := (hB.cell la).trans qa
    have hpl := outL_length pre
    have hb2 : (outL pre).length + 1 ≤ maxLen := by unfold maxLen at hs ⊢; omega
    have hb3 : ((outL pre).length + 1) * 1 ≤ 140737488355328 := by omega
    clear hpl
    have hbr := Lib.hid (lowish_int x)
    cases hlo : lowish x
    · have hgo : decide ((x.toNat : Int) ≤ 32) = false := hbr.out.trans hlo
      gi_wp2_with (first | (refine ⟨trivial, ?_⟩; gi_at_call 132; refine (CallsIn.inRound l (callsIn_wide.2 (upto1_any _ 32 _ _ (by first | exact qa' | exact qa2)))).mono ?_; rintro e w' ⟨rfl, rfl⟩) | (gi_at_builtin; refine wpListIn_append_own _ rfl _ _ 81 rfl w.heap.size 5 i0 (.int .u8 0) 1 1 Tryz.underlying81 hi hz0 hz1 hz2 rfl (by decide) _ _ _ rfl (hrow.alloc _) ⟨W.heap.size, 0, none⟩ 1 1 [.int .u8 (x.toNat : Int)] rfl rfl (cell_one_new _ _ _) (by simp [Value.oneCell']) hb2 hb3 (by have := hB.size; simp; omega) ?_; intro v' w2 hown' hgrow _; obtain ⟨g', cap', rfl⟩ := ownsRow_succ hown'; obtain ⟨hv1, hv2, hr2, hk2, hbe⟩ := hv.appended (by decide) hrow hB.size hsz hown' hgrow; have hc1 := hv1.cell; have hf1 := hv1.frozen; have hS2 := ((hS.alloc _).kept hgrow (hS.not_row (by decide) hrow)).other (B' := w1.heap.size) (by omega) (.slice (some ⟨g', 0, none⟩) ((outL pre).length + 1) cap'); have hF2 := ((hF.alloc _).kept hgrow (hF.not_row (by decide) hrow)).other (B' := w1.heap.size) (by omega) (.slice (some ⟨g', 0, none⟩) ((outL pre).length + 1) cap'); have hE2 := ((hE.alloc _).kept hgrow (hE.not_row (by decide) hrow)).other (B' := w1.heap.size) (by omega) (.slice (some ⟨g', 0, none⟩) ((outL pre).length + 1) cap'); have hcF2 := hF2.cell; have hcE2 := hE2.cell; have hfE2 := hE2.frozen; have hc2 := hv2.cell; have qa2 := (hbe.cell la).trans qa'))
      exact ⟨(hk2.trans (KeepsOthers.setCell _ _ _)).from _, fun _ => (hS2.other (by omega) _).cell, ⟨_, hv2.other (by omega) _, by rw [outL_add _ _ (.inl hlo)]; simpa [u8v] using hr2.kept (grownBy_setCell' _ _ _) (.inr (hE2.not_row (by decide) hr2).symm), g', cap', by rw [outL_add _ _ (.inl hlo)]; simp⟩, hS2.other (by omega) _, hF2.other (by omega) _, by rw [endN_no _ _ hlo]; exact hE2.set _, hB.trans (hbe.setCell (p := ⟨w1.heap.size + 1, 0, none⟩) (by show w.heap.size ≤ w1.heap.size + 1; omega) _)⟩
    · have hgo : decide ((x.toNat : Int) ≤ 32) = true := hbr.out.trans hlo
      by_cases h0 : outL pre = []
      · have eO := Lib.hid ((outL_skip pre x hlo h0).trans h0.symm)
        have eE := Lib.hid (endN_skip pre x hlo h0)
        have ht : (((outL pre).length : Int) == 0) = true := by rw [h0]; rfl
        clear h0
        gi_wp2_with (first | (refine ⟨trivial, ?_⟩; gi_at_call 132; refine (CallsIn.inRound l (callsIn_wide.2 (upto1_any _ 32 _ _ (by first | exact qa' | exact qa2)))).mono ?_; rintro e w' ⟨rfl, rfl⟩) | (gi_at_builtin; refine wpListIn_append_own _ rfl _ _ 81 rfl w.heap.size 5 i0 (.int .u8 0) 1 1 Tryz.underlying81 hi hz0 hz1 hz2 rfl (by decide) _ _ _ rfl (hrow.alloc _) ⟨W.heap.size, 0, none⟩ 1 1 [.int .u8 (x.toNat : Int)] rfl rfl (cell_one_new _ _ _) (by simp [Value.oneCell']) hb2 hb3 (by have := hB.size; simp; omega) ?_; intro v' w2 hown' hgrow _; obtain ⟨g', cap', rfl⟩ := ownsRow_succ hown'; obtain ⟨hv1, hv2, hr2, hk2, hbe⟩ := hv.appended (by decide) hrow hB.size hsz hown' hgrow; have hc1 := hv1.cell; have hf1 := hv1.frozen; have hS2 := ((hS.alloc _).kept hgrow (hS.not_row (by decide) hrow)).other (B' := w1.heap.size) (by omega) (.slice (some ⟨g', 0, none⟩) ((outL pre).length + 1) cap'); have hF2 := ((hF.alloc _).kept hgrow (hF.not_row (by decide) hrow)).other (B' := w1.heap.size) (by omega) (.slice (some ⟨g', 0, none⟩) ((outL pre).length + 1) cap'); have hE2 := ((hE.alloc _).kept hgrow (hE.not_row (by decide) hrow)).other (B' := w1.heap.size) (by omega) (.slice (some ⟨g', 0, none⟩) ((outL pre).length + 1) cap'); have hcF2 := hF2.cell; have hcE2 := hE2.cell; have hfE2 := hE2.frozen; have hc2 := hv2.cell; have qa2 := (hbe.cell la).trans qa'))
        exact ⟨KeepsFrom.refl _ _, fun h => h, ⟨_, hv, by rw [eO.out]; exact hrow, g, cap, by rw [eO.out]⟩, hS, hF, by rw [eE.out]; exact hE, hB⟩
      · have eO := Lib.hid (outL_add pre x (.inr h0))
        have eE := Lib.hid (endN_ws pre x hlo h0)
        have ht : (((outL pre).length : Int) == 0) = false := by
          rw [beq_eq_false_iff_ne]
          intro h
          exact h0 (List.length_eq_zero_iff.1 (by omega))
        clear h0
        gi_wp2_with (first | (refine ⟨trivial, ?_⟩; gi_at_call 132; refine (CallsIn.inRound l (callsIn_wide.2 (upto1_any _ 32 _ _ (by first | exact qa' | exact qa2)))).mono ?_; rintro e w' ⟨rfl, rfl⟩) | (gi_at_builtin; refine wpListIn_append_own _ rfl _ _ 81 rfl w.heap.size 5 i0 (.int .u8 0) 1 1 Tryz.underlying81 hi hz0 hz1 hz2 rfl (by decide) _ _ _ rfl (hrow.alloc _) ⟨W.heap.size, 0, none⟩ 1 1 [.int .u8 (x.toNat : Int)] rfl rfl (cell_one_new _ _ _) (by simp [Value.oneCell']) hb2 hb3 (by have := hB.size; simp; omega) ?_; intro v' w2 hown' hgrow _; obtain ⟨g', cap', rfl⟩ := ownsRow_succ hown'; obtain ⟨hv1, hv2, hr2, hk2, hbe⟩ := hv.appended (by decide) hrow hB.size hsz hown' hgrow; have hc1 := hv1.cell; have hf1 := hv1.frozen; have hS2 := ((hS.alloc _).kept hgrow (hS.not_row (by decide) hrow)).other (B' := w1.heap.size) (by omega) (.slice (some ⟨g', 0, none⟩) ((outL pre).length + 1) cap'); have hF2 := ((hF.alloc _).kept hgrow (hF.not_row (by decide) hrow)).other (B' := w1.heap.size) (by omega) (.slice (some ⟨g', 0, none⟩) ((outL pre).length + 1) cap'); have hE2 := ((hE.alloc _).kept hgrow (hE.not_row (by decide) hrow)).other (B' := w1.heap.size) (by omega) (.slice (some ⟨g', 0, none⟩) ((outL pre).length + 1) cap'); have hcF2 := hF2.cell; have hcE2 := hE2.cell; have hfE2 := hE2.frozen; have hc2 := hv2.cell; have qa2 := (hbe.cell la).trans qa'))
        exact ⟨hk2.from _, fun _ => hS2.cell, ⟨_, hv2, by rw [eO.out]; simpa [u8v] using hr2, g', cap', by rw [eO.out]; simp⟩, hS2, hF2, by rw [eE.out]; exact hE2, hB.trans hbe⟩
  case done =>
    rintro D ys W hD rfl ⟨⟨v, hv, hrow, g, cap, rfl⟩, hS, hF, hE, hB⟩ hK
    have hc := hv.cell
    have hcE := hE.cell
    have hle := endN_le s.data.toList
    have hcap : (outL s.data.toList).length ≤ cap ∧ cap ≤ maxLen := by
      rcases hrow.2 with ⟨e, _⟩ | ⟨_, _, _, e, _, _, h1, h2, _⟩
      · cases e
      · cases e; exact ⟨h1, h2⟩
    obtain ⟨hcap1, hcap2⟩ := hcap
    unfold maxLen at hcap2
    have hown2 := ownsRow_take hrow hle
    rw [← List.map_take, ← trim_take] at hown2
    have hcv := conv_owned hown2
    gi_wp2
    refine ⟨by simp, .inl ⟨_, _, rfl, run_takeDeferred hK, ?_⟩⟩
    exact ⟨_, results_tmp rfl _ _ _, rfl, hB.trans (belowK_b (w := w) (Nat.le_refl _) W D _ _ (by simp at hD; omega) hK rfl rfl)⟩
  case stop =>
    rintro D c pre W _ _ h _
    exact h.elim

theorem cutEnds_calls (s : ByteArray) (hs : s.size ≤ maxLen) (hb47 : s.size ≤ 140737488355328) (pa : Addr) (w : World) (qa : w.cell? pa = some (.int .u8 32)) :
    Calls Tryz.prog 100 #[.string s, .func (.func 132) #[] #[.pointer (some pa)]] w fun e W' => e = .returned (.string ⟨(trim s.data.toList).toArray⟩) ∧ Below w.heap.size w W' :=
  callsIn_wide.1 (cutEnds_in s hs hb47 pa w qa)




set_option maxHeartbeats 400000 in
theorem upTo_calls (b : Int) (w : World) :
    Calls Tryz.prog 101 #[.int .u8 b] w fun e w' => e = .returned (.func (.func 132) #[] #[.pointer (some ⟨w.heap.size, 0, none⟩)]) ∧ w.alloc (.cells #[.int .u8 b] 5) = w' := by
  go_enter Tryz.func101, Tryz.ntmps101
  go_wp2
  go_ret
  exact ⟨rfl, rfl⟩

set_option maxHeartbeats 400000 in
theorem oneOf_calls (a b d : Int) (w : World) :
    Calls Tryz.prog 70 #[.int .u8 a, .int .u8 b, .int .u8 d] w fun e w' => e = .returned (.func (.func 102) #[] #[.pointer (some ⟨w.heap.size, 0, none⟩), .pointer (some ⟨w.heap.size + 1, 0, none⟩), .pointer (some ⟨w.heap.size + 2, 0, none⟩)]) ∧ ((w.alloc (.cells #[.int .u8 a] 5)).alloc (.cells #[.int .u8 b] 5)).alloc (.cells #[.int .u8 d] 5) = w' := by
  go_enter Tryz.func70, Tryz.ntmps70
  go_wp2
  go_ret
  exact ⟨rfl, rfl⟩

set_option maxHeartbeats 400000 in
theorem trim_calls (s : ByteArray) (hs : s.size ≤ maxLen) (hb47 : s.size ≤ 140737488355328) (w : World) :
    Calls Tryz.prog 69 #[.string s] w fun e W' => e = .returned (.string ⟨(trim s.data.toList).toArray⟩) ∧ Below w.heap.size w W' := by
  have bP := Boxed.new w 5 (.int .u8 32)
  have hB := Lib.hid ((Below.refl w.heap.size w).alloc (Nat.le_refl _) (.cells #[.int .u8 32] 5))
  go_enter Tryz.func69, Tryz.ntmps69
  go_wp2_with (first | (go_at_call 101; refine (upTo_calls _ _).mono ?_; rintro e w' ⟨rfl, rfl⟩) | (go_at_call 100; refine (cutEnds_calls _ hs hb47 _ _ bP.cell).mono ?_; rintro e w' ⟨rfl, hB2⟩))
  go_ret
  exact ⟨rfl, hB.out.trans (hB2.mono (by simp))⟩

theorem trim_length (l : List UInt8) : (trim l).length ≤ l.length := by
  rw [trim_take, List.length_take]
  have := outL_length l
  omega

set_option maxHeartbeats 400000 in
theorem clean_calls (s : ByteArray) (hs : s.size ≤ maxLen) (hb47 : s.size ≤ 140737488355328) (w : World) :
    Calls Tryz.prog 45 #[.string s] w fun e W' => e = .returned (.string ⟨(clean s.data.toList).toArray⟩) ∧ Below w.heap.size w W' := by
  have hl := trim_length s.data.toList
  have hz : (⟨(trim s.data.toList).toArray⟩ : ByteArray).size = (trim s.data.toList).length := rfl
  have hz2 : s.data.toList.length = s.size := rfl
  have k1 : (⟨(trim s.data.toList).toArray⟩ : ByteArray).size ≤ maxLen := by omega
  have k2 : (⟨(trim s.data.toList).toArray⟩ : ByteArray).size ≤ 140737488355328 := by omega
  clear hl hz hz2
  have K1 := Lib.hid k1
  have K2 := Lib.hid k2
  clear k1 k2
  go_enter Tryz.func45, Tryz.ntmps45
  go_wp2_with fail
  refine (trim_calls s hs hb47 _).mono ?_
  rintro e w1 ⟨rfl, hB1⟩
  go_wp2_with fail
  refine (oneOf_calls _ _ _ _).mono ?_
  rintro e w' ⟨rfl, rfl⟩
  have b1 := ((Boxed.new w1 5 (.int .u8 9)).alloc (.cells #[.int .u8 10] 5)).alloc (.cells #[.int .u8 13] 5)
  have b2 := (Boxed.new (w1.alloc (.cells #[.int .u8 9] 5)) 5 (.int .u8 10)).alloc (.cells #[.int .u8 13] 5)
  have b3 := Boxed.new ((w1.alloc (.cells #[.int .u8 9] 5)).alloc (.cells #[.int .u8 10] 5)) 5 (.int .u8 13)
  rw [World.size_alloc] at b2
  rw [World.size_alloc, World.size_alloc] at b3
  go_wp2_with fail
  refine (cutAll_calls _ K1.out K2.out _ _ _ _ b1.cell b2.cell b3.cell).mono ?_
  rintro e w2 ⟨rfl, hB2⟩
  have hB3 := Lib.hid (hB1.trans (((((Below.refl w.heap.size w1).alloc hB1.size (.cells #[.int .u8 9] 5)).alloc (by have := hB1.size; simp; omega) (.cells #[.int .u8 10] 5)).alloc (by have := hB1.size; simp; omega) (.cells #[.int .u8 13] 5)).trans (hB2.mono (by have := hB1.size; simp; omega))))
  go_wp2
  go_ret
  exact ⟨rfl, hB3.out⟩




theorem ex_lower (w : World) : Calls Tryz.prog 95 #[.string ⟨#[65, 45, 98]⟩] w fun e W' => e = .returned (.string ⟨#[97, 45, 98]⟩) ∧ Below w.heap.size w W' := by
  have h : (lower (⟨#[65, 45, 98]⟩ : ByteArray).data.toList).toArray = #[97, 45, 98] := by decide +kernel
  have := lower_calls ⟨#[65, 45, 98]⟩ (by decide +kernel) (by decide +kernel) w
  rwa [h] at this

theorem ex_clean (w : World) : Calls Tryz.prog 45 #[.string ⟨#[32, 97, 9, 98, 10]⟩] w fun e W' => e = .returned (.string ⟨#[97, 98]⟩) ∧ Below w.heap.size w W' := by
  have h : (clean (⟨#[32, 97, 9, 98, 10]⟩ : ByteArray).data.toList).toArray = #[97, 98] := by decide +kernel
  have := clean_calls ⟨#[32, 97, 9, 98, 10]⟩ (by decide +kernel) (by decide +kernel) w
  rwa [h] at this

theorem ex_trim (w : World) : Calls Tryz.prog 69 #[.string ⟨#[32, 97, 32, 98, 32]⟩] w fun e W' => e = .returned (.string ⟨#[97, 32, 98]⟩) ∧ Below w.heap.size w W' := by
  have h : (trim (⟨#[32, 97, 32, 98, 32]⟩ : ByteArray).data.toList).toArray = #[97, 32, 98] := by decide +kernel
  have := trim_calls ⟨#[32, 97, 32, 98, 32]⟩ (by decide +kernel) (by decide +kernel) w
  rwa [h] at this

theorem ex_hex (w : World) : Calls Tryz.prog 224 #[.int .u8 70] w fun e W' => e = .returned (.int .i64 15) ∧ w = W' := by
  have h : hexI 70 = 15 := by decide +kernel
  have := hex_any 70 (by omega) (by omega) w
  rwa [h] at this

theorem ex_alpha (w : World) : Calls Tryz.prog 120 #[.int .u8 122] w fun e W' => e = .returned (.bool true) ∧ w = W' := by
  have h : alphaB 122 = true := by decide +kernel
  have := alpha_any 122 w
  rwa [h] at this

theorem ex_digit (w : World) : Calls Tryz.prog 121 #[.int .u8 48] w fun e W' => e = .returned (.bool true) ∧ w = W' := by
  have h : digitB 48 = true := by decide +kernel
  have := digit_any 48 w
  rwa [h] at this




theorem below2 {w u1 u2 : World} (h1 : Below w.heap.size w u1) (h2 : Below u1.heap.size u1 u2) : Below w.heap.size w u2 := h1.trans (h2.mono h1.size)

theorem below3 {w u1 u2 u3 : World} (h1 : Below w.heap.size w u1) (h2 : Below u1.heap.size u1 u2) (h3 : Below u2.heap.size u2 u3) : Below w.heap.size w u3 := below2 (below2 h1 h2) h3

theorem below4 {w u1 u2 u3 u4 : World} (h1 : Below w.heap.size w u1) (h2 : Below u1.heap.size u1 u2) (h3 : Below u2.heap.size u2 u3) (h4 : Below u3.heap.size u3 u4) : Below w.heap.size w u4 := below2 (below3 h1 h2 h3) h4

theorem below7 {w u1 u2 u3 u4 u5 u6 u7 : World} (h1 : Below w.heap.size w u1) (h2 : Below u1.heap.size u1 u2) (h3 : Below u2.heap.size u2 u3) (h4 : Below u3.heap.size u3 u4) (h5 : Below u4.heap.size u4 u5) (h6 : Below u5.heap.size u5 u6) (h7 : Below u6.heap.size u6 u7) : Below w.heap.size w u7 :=
  below4 (below4 h1 h2 h3 h4) h5 h6 h7

/-- A region that draws its order, whose operations read no memory and whose callees change nothing that was there. -/
theorem wp_region_quiet_below {P : Program} {id : Nat} {Q : Exit → Act → World → Prop} {a : Act} {w : World} {l : List Oper} (hm : P.follows .mixedOrders = true) (hB : Region.lexB .any l.toArray = true)
    (h : wpQuiet P l.toArray (fun u => Below w.heap.size w u) (fun a' => ∀ u, Below w.heap.size w u → Q .normal a' u) l a) : (Code.region id l.toArray true).wp P Q a w :=
  wp_region_quiet (C := fun u => Below w.heap.size w u) hm hB (Below.refl _ w).drew (by simpa using h)

theorem lowB_lowB (c : UInt8) : lowB (lowB c) = lowB c := by
  apply UInt8.toNat_inj.1
  have h1 := lowB_toNat c
  have h2 := lowB_toNat (lowB c)
  have h : lowI (lowI c.toNat) = lowI c.toNat := by unfold lowI; repeat' split
                                                    all_goals omega
  rw [h1] at h2
  omega

theorem lower_lower (l : List UInt8) : lower (lower l) = lower l := by
  simp [lower, Function.comp_def, lowB_lowB]

theorem outL_head (l : List UInt8) : outL l = [] ∨ ∃ c r, outL l = c :: r ∧ lowish c = false := by
  unfold outL
  cases h : l.dropWhile lowish with
  | nil => exact .inl rfl
  | cons c r =>
    refine .inr ⟨c, r, rfl, ?_⟩
    have := List.head?_dropWhile_not lowish l
    rw [h] at this
    simpa using this

theorem dropEnd_last (l : List UInt8) : dropEnd l = [] ∨ ∃ r c, dropEnd l = r ++ [c] ∧ lowish c = false := by
  unfold dropEnd
  cases h : l.reverse.dropWhile lowish with
  | nil => exact .inl rfl
  | cons c r =>
    refine .inr ⟨r.reverse, c, by simp, ?_⟩
    have := List.head?_dropWhile_not lowish l.reverse
    rw [h] at this
    simpa using this

/-- A text that neither begins nor ends by a byte up to 32. -/
def Tight (l : List UInt8) : Prop := l = [] ∨ (∃ c r, l = c :: r ∧ lowish c = false) ∧ ∃ r c, l = r ++ [c] ∧ lowish c = false

theorem tight_trim (l : List UInt8) : Tight (trim l) := by
  rcases dropEnd_last (outL l) with h | ⟨r, c, h, hc⟩
  · exact .inl h
  · refine .inr ⟨?_, r, c, h, hc⟩
    rcases outL_head l with h0 | ⟨d, q, h0, hd⟩
    · have : trim l = dropEnd [] := by unfold trim; rw [← h0]; rfl
      have e : trim l = r ++ [c] := h
      rw [this] at e
      simp [dropEnd] at e
    · obtain ⟨t, ht⟩ := dropEnd_prefix (outL l)
      have e : trim l = dropEnd (outL l) := rfl
      rw [e]
      rw [h] at ht
      rw [h]
      rw [h0] at ht
      cases r with
      | nil => simp at ht; exact ⟨c, [], rfl, hc⟩
      | cons a r => simp at ht; exact ⟨a, r ++ [c], rfl, by rw [ht.1]; exact hd⟩

theorem trim_tight (l : List UInt8) (h : Tight l) : trim l = l := by
  rcases h with rfl | ⟨⟨c, r, h, hc⟩, r', c', h', hc'⟩
  · rfl
  · have e : outL l = l := by rw [h]; simp [outL, hc]
    unfold trim
    show dropEnd (outL l) = l
    rw [e, h', dropEnd_no _ _ hc']

theorem trim_trim (l : List UInt8) : trim (trim l) = trim l := trim_tight _ (tight_trim l)

theorem lowish_break (c : UInt8) (h : lowish c = false) : breakB c = false := by
  unfold lowish at h
  unfold breakB
  simp at h ⊢
  omega

theorem tight_stays (l : List UInt8) (h : Tight l) : Tight (stays l) := by
  rcases h with rfl | ⟨⟨c, r, h, hc⟩, r', c', h', hc'⟩
  · exact .inl rfl
  · refine .inr ⟨⟨c, stays r, ?_, hc⟩, stays r', c', ?_, hc'⟩
    · rw [h]; simp [stays, lowish_break c hc]
    · rw [h', stays_snoc_yes _ _ (lowish_break c' hc')]

theorem clean_eq (l : List UInt8) : clean l = stays (trim l) := rfl

theorem tight_clean (l : List UInt8) : Tight (clean l) := tight_stays _ (tight_trim l)

theorem stays_stays (l : List UInt8) : stays (stays l) = stays l := by
  unfold stays
  rw [List.filter_filter]
  simp

theorem clean_clean (l : List UInt8) : clean (clean l) = clean l := by
  rw [clean_eq (clean l), trim_tight _ (tight_clean l), clean_eq, stays_stays]




set_option maxHeartbeats 800000 in
theorem refDigit_any (c : Int) (w : World) :
    Calls Tryz.prog 134 #[.int .u8 c] w fun e w' => e = .returned (.bool (digitB c)) ∧ w = w' := by
  by_cases h1 : 48 ≤ c
  · by_cases h2 : c ≤ 57
    · have hv := Lib.hid (show digitB c = true by simp [digitB, h1, h2])
      go_enter Tryz.func134, Tryz.ntmps134
      go_wp2
      go_ret
      exact ⟨by rw [hv.out]; simp [h2], rfl⟩
    · have hv := Lib.hid (show digitB c = false by simp [digitB, h2])
      have h3 : decide (c ≤ 57) = false := by simpa using h2
      clear h2
      go_enter Tryz.func134, Tryz.ntmps134
      go_wp2
      go_ret
      exact ⟨by rw [hv.out]; simp, rfl⟩
  · have hv := Lib.hid (show digitB c = false by simp [digitB, h1])
    have h3 : decide (48 ≤ c) = false := by simpa using h1
    clear h1
    go_enter Tryz.func134, Tryz.ntmps134
    go_wp2
    go_ret
    exact ⟨by rw [hv.out]; simp, rfl⟩




def strSize : Value → Nat
  | .string b => b.size
  | _ => 0

theorem extract_list (c : ByteArray) (a b : Nat) : (c.extract a b).data.toList = (c.data.toList.take b).drop a := by
  rw [ByteArray.data_extract, Array.toList_extract, List.extract_eq_take_drop]
  rw [List.take_drop]
  by_cases h : a ≤ b
  · rw [show a + (b - a) = b by omega]
  · rw [List.drop_of_length_le (by rw [List.length_take]; omega), List.drop_of_length_le (by rw [List.length_take]; omega)]

theorem trim_first (c : ByteArray) (h : 0 < c.size) (hl : (c[0].toNat : Int) ≤ 32) : trim (c.extract 1 c.size).data.toList = trim c.data.toList := by
  rw [extract_list, List.take_of_length_le (by exact Nat.le_refl _)]
  have e : c.data.toList = c[0] :: c.data.toList.drop 1 := List.drop_eq_getElem_cons (l := c.data.toList) (i := 0) h
  conv => rhs; rw [e]
  have hlo : lowish c[0] = true := by simp [lowish]; omega
  show dropEnd (outL _) = dropEnd (outL (c[0] :: _))
  rw [show outL (c[0] :: c.data.toList.drop 1) = outL (c.data.toList.drop 1) by simp [outL, hlo]]

theorem snoc_last (c : ByteArray) (h : 0 < c.size) : c.data.toList = c.data.toList.take (c.size - 1) ++ [c[c.size - 1]] := by
  have := List.take_succ_eq_append_getElem (l := c.data.toList) (i := c.size - 1) (by show c.size - 1 < c.size; omega)
  rw [show c.size - 1 + 1 = c.size by omega, List.take_of_length_le (by exact Nat.le_refl _)] at this
  exact this

theorem trim_last (c : ByteArray) (h : 0 < c.size) (hl : (c[c.size - 1].toNat : Int) ≤ 32) : trim (c.extract 0 (c.size - 1)).data.toList = trim c.data.toList := by
  rw [extract_list, List.drop_zero]
  conv => rhs; rw [snoc_last c h]
  have hlo : lowish c[c.size - 1] = true := by simp [lowish]; omega
  show dropEnd (outL _) = dropEnd (outL (_ ++ [_]))
  by_cases h0 : outL (c.data.toList.take (c.size - 1)) = []
  · rw [outL_skip _ _ hlo h0, h0]
  · rw [outL_add _ _ (.inr h0), dropEnd_ws _ _ hlo]

/-- Empty, or it begins by a byte above 32. -/
def Front (c : ByteArray) : Prop := ∀ h : 0 < c.size, 32 < (c[0].toNat : Int)

theorem front_last (c : ByteArray) (h : Front c) (h0 : 0 < c.size) : Front (c.extract 0 (c.size - 1)) := by
  intro hz
  have e : (c.extract 0 (c.size - 1)).data.toList[0]? = some (c.extract 0 (c.size - 1))[0] := List.getElem?_eq_getElem (l := (c.extract 0 (c.size - 1)).data.toList) (i := 0) hz
  have e2 : c.data.toList[0]? = some c[0] := List.getElem?_eq_getElem (l := c.data.toList) (i := 0) h0
  have hz' : 0 < c.size - 1 := by simp at hz; omega
  rw [extract_list, List.drop_zero, List.getElem?_take_of_lt hz', e2] at e
  rw [← Option.some.inj e]
  exact h h0

theorem tight_of (c : ByteArray) (h : Front c) (hl : ∀ h : 0 < c.size, 32 < (c[c.size - 1].toNat : Int)) : Tight c.data.toList := by
  by_cases h0 : 0 < c.size
  · have f := h h0
    have g := hl h0
    refine .inr ⟨⟨c[0], c.data.toList.drop 1, List.drop_eq_getElem_cons (l := c.data.toList) (i := 0) h0, by simp [lowish]; omega⟩, c.data.toList.take (c.size - 1), c[c.size - 1], snoc_last c h0, by simp [lowish]; omega⟩
  · refine .inl (List.eq_nil_of_length_eq_zero ?_)
    show c.size = 0
    omega

theorem trim_done (c s : ByteArray) (ht : Tight c.data.toList) (h : trim c.data.toList = trim s.data.toList) : c = ⟨(trim s.data.toList).toArray⟩ := by
  rw [← h, trim_tight _ ht]




theorem take_all (b : ByteArray) : b.data.toList.take b.size = b.data.toList := List.take_of_length_le (by exact Nat.le_refl _)




/-- Block g holds the bytes l, and they may be written. -/
def Held (W : World) (g : Nat) (l : List UInt8) : Prop := ∀ j (h : j < l.length), W.cell? ⟨g, j, none⟩ = some (.int .u8 (l[j].toNat : Int)) ∧ W.frozen? ⟨g, j, none⟩ = false

theorem held_set {W : World} {g : Nat} {l : List UInt8} (h : Held W g l) (k : Nat) (hk : k < l.length) (x : UInt8) : Held (W.setCell ⟨g, k, none⟩ (.int .u8 (x.toNat : Int))) g (l.set k x) := by
  intro j hj
  have hj' : j < l.length := by simpa using hj
  refine ⟨?_, by rw [World.frozen?_setCell]; exact (h j hj').2⟩
  by_cases e : j = k
  · subst e
    rw [World.cell?_setCell_same (h := (h j hj').1)]
    simp
  · rw [World.cell?_setCell_other (h := fun h => e (by cases h; rfl)), (h j hj').1]
    rw [List.getElem_set_ne (by omega)]

/-- The first k lowered. -/
def mixed (l : List UInt8) (k : Nat) : List UInt8 := lower (l.take k) ++ l.drop k

theorem mixed_length (l : List UInt8) (k : Nat) (h : k ≤ l.length) : (mixed l k).length = l.length := by
  simp [mixed, lower]; omega

theorem mixed_get? (l : List UInt8) (k : Nat) (h : k < l.length) : (mixed l k)[k]? = some l[k] := by
  have hl : (lower (l.take k)).length = k := by simp [lower]; omega
  unfold mixed
  rw [List.getElem?_append_right (by omega), hl, Nat.sub_self, List.drop_eq_getElem_cons h]
  rfl

theorem mixed_get (l : List UInt8) (k : Nat) (h : k < l.length) (h' : k < (mixed l k).length) : (mixed l k)[k] = l[k] :=
  Option.some.inj ((List.getElem?_eq_getElem h').symm.trans (mixed_get? l k h))

theorem mixed_set (l : List UInt8) (k : Nat) (h : k < l.length) : (mixed l k).set k (lowB l[k]) = mixed l (k + 1) := by
  unfold mixed
  have hl : (lower (l.take k)).length = k := by simp [lower]; omega
  rw [List.set_append_right _ _ (by omega), hl, Nat.sub_self, List.drop_eq_getElem_cons h, List.set_cons_zero, List.take_succ_eq_append_getElem h, lower_snoc, List.append_assoc]
  rfl

theorem mixed_keep (l : List UInt8) (k : Nat) (h : k < l.length) (hc : lowB l[k] = l[k]) : mixed l k = mixed l (k + 1) := by
  unfold mixed
  rw [List.drop_eq_getElem_cons h, List.take_succ_eq_append_getElem h, lower_snoc, List.append_assoc, hc]
  rfl

theorem mixed_zero (l : List UInt8) : mixed l 0 = l := by simp [mixed, lower]

theorem mixed_all (l : List UInt8) : mixed l l.length = lower l := by simp [mixed]

theorem held_new (w : World) (s : ByteArray) (cap : Nat) : Held (w.alloc (.cells (bytesRow s cap) 5 ((bytesRow s cap).size, (bytesRow s cap).size + 1))) w.heap.size s.data.toList := by
  intro j hj
  have hj' : j < s.data.size := by simpa using hj
  refine ⟨?_, ?_⟩
  · rw [World.cell?_alloc_mark, bytesRow_at s cap j hj']
    simp
  · rw [World.frozen?_alloc_mark]
    have : (bytesRow s cap).size = s.data.size + (cap - s.size) := by simp [bytesRow]
    simp
    omega

set_option maxRecDepth 100000 in
set_option maxHeartbeats 2000000 in
theorem refLower_wide (s : ByteArray) (hs : s.size ≤ 140737488351232) (w : World) :
    Calls Tryz.prog 136 #[.string s] w fun e w' => e = .returned (.string ⟨(lower s.data.toList).toArray⟩) ∧ Below w.heap.size w w' := by
  have hcv := run_bytes_of_string w 9 81 5 s Tryz.underlying9 Tryz.underlying81 Tryz.underlying5 (P := Tryz.prog)
  generalize grownCap w s.size 0 5 = cap at hcv
  go_enter Tryz.func136, Tryz.ntmps136
  go_wp2
  have hB0 : Below w.heap.size w (w.alloc (.cells (bytesRow s cap) 5 ((bytesRow s cap).size, (bytesRow s cap).size + 1))).drew := ((Below.refl _ w).alloc (Nat.le_refl _) _).drew
  have hH0 : Held (w.alloc (.cells (bytesRow s cap) 5 ((bytesRow s cap).size, (bytesRow s cap).size + 1))).drew w.heap.size (mixed s.data.toList 0) := by rw [mixed_zero]; exact held_new w s cap
  clear hcv
  have hsz : s.data.toList.length = s.size := rfl
  have HSZ := Lib.hid hsz
  clear hsz
  go_loopw [4] (fun i wr => ∃ k : Nat, k ≤ s.size ∧ i = .int .i64 k ∧ Held wr w.heap.size (mixed s.data.toList k) ∧ Below w.heap.size w wr) (fun i _ => s.size - (intOf i).toNat)
  case atStart => exact ⟨0, Nat.zero_le _, rfl, hH0, hB0⟩
  case round =>
    clear hH0 hB0
    obtain ⟨k, hk, rfl, hH, hw⟩ := hrel
    have HH := Lib.hid hH
    clear hH
    by_cases hlt : k < s.size
    · have hkl : k < s.data.toList.length := hlt
      have hml : k < (mixed s.data.toList k).length := by rw [mixed_length _ _ (Nat.le_of_lt hkl)]; exact hkl
      obtain ⟨hc0, hf⟩ := HH.out k hml
      rw [mixed_get _ _ hkl] at hc0
      have hc : wr.cell? ⟨w.heap.size, k, none⟩ = some (.int .u8 ((s[k]'hlt).toNat : Int)) := hc0
      clear hc0
      have t1 : (k : Int) < s.size := by omega
      clear hkl hml
      cases hcap : capB s[k].toNat
      · have hv := Lib.hid (mixed_keep s.data.toList k hlt (by show lowB s[k] = s[k]; unfold lowB; rw [hcap]; rfl))
        have h2 : decide (65 ≤ (s[k].toNat : Int)) = false ∨ (decide (65 ≤ (s[k].toNat : Int)) = true ∧ decide ((s[k].toNat : Int) ≤ 90) = false) := by
          simp [capB] at hcap
          simp
          omega
        clear hcap
        rcases h2 with d1 | ⟨d1, d2⟩
        all_goals
          go_wp2
          go_roundw
          case rel => exact ⟨k + 1, by omega, by go_num, by rw [← hv.out]; exact HH.out, hw⟩
          case measure => simp [intOf]; omega
      · obtain ⟨h65, h90⟩ := capB_iff hcap
        have d1 : decide (65 ≤ (s[k].toNat : Int)) = true := by simpa using h65
        have d2 : decide ((s[k].toNat : Int) ≤ 90) = true := by simpa using h90
        have hlow := Lib.hid (show ((lowB s[k]).toNat : Int) = (s[k].toNat : Int) + 32 by rw [lowB_toNat]; unfold lowI; rw [if_pos ⟨h65, h90⟩])
        clear hcap
        go_wp2
        go_roundw
        case rel =>
          refine ⟨k + 1, by omega, by go_num, ?_, hw.setCell (p := ⟨w.heap.size, k, none⟩) (Nat.le_refl _) _⟩
          have hml : k < (mixed s.data.toList k).length := by rw [mixed_length _ _ (Nat.le_of_lt hlt)]; exact hlt
          have h3 := held_set HH.out k hml (lowB s[k])
          rw [hlow.out] at h3
          have h4 := mixed_set s.data.toList k hlt
          rw [← h4]
          exact h3
        case measure => simp [intOf]; omega
    · obtain rfl : k = s.size := by omega
      have hH := HH.out
      rw [← HSZ.out, mixed_all] at hH
      have hll : (lower s.data.toList).length = s.size := List.length_map _
      have hcv := run_convert_bytes_back (P := Tryz.prog) wr 81 9 5 ⟨w.heap.size, 0, none⟩ cap (lower s.data.toList) Tryz.underlying81 Tryz.underlying5 Tryz.underlying9 (fun j hj => by
        have e : (⟨w.heap.size, 0, none⟩ : Addr).add j = ⟨w.heap.size, j, none⟩ := by unfold Addr.add; split <;> simp_all
        rw [e]; exact (hH j hj).1)
      rw [hll] at hcv
      clear hH hll
      go_wp2
      go_ret
      exact ⟨rfl, hw⟩

theorem refLower_any (s : ByteArray) (hs : s.size ≤ 30000) (w : World) :
    Calls Tryz.prog 136 #[.string s] w fun e w' => e = .returned (.string ⟨(lower s.data.toList).toArray⟩) ∧ Below w.heap.size w w' :=
  refLower_wide s (by omega) w

end Go.Proofs.YtlkikfdbjpjpaaaGreatDoor.Ascii

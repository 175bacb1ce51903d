/-
  strings.IndexAny and strings.ContainsAny at three bytes below 128, of every text (bytes from 128 on, too); strings.Trim at blanks and tabs.
-/
import Derived.Laws.Runes
import Derived.Laws.RangeAny
import Derived.Lib.OthersKept
import Derived.Shelf.Strings.SlTrimAscii
import Derived.Shelf.Strings.IndexAnyAll
import Derived.Deep.RegionWith
import Derived.BigRegion
import Derived.WalkMore
import Derived.LoopN
import Derived.Test.YtbgebolamkfnlaaDoorHdName
namespace Go.Proofs.YtbgebolamkfnlaaDoor.Head
set_option linter.unusedSimpArgs false
set_option linter.unusedVariables false
set_option maxRecDepth 100000


open Go.RowKit Go.Shelf

open Url


def bads3 : ByteArray := ⟨#[0, 10, 13]⟩

theorem bads_idx (c : UInt8) (h : 128 ≤ c.toNat) (l : T) (hl : ∀ x ∈ l, x.toNat < 128) : Lib.indexByte l c = -1 := by
  induction l with
  | nil => rfl
  | cons a l ih =>
    have ha : (a == c) = false := by
      rw [beq_eq_false_iff_ne]
      rintro rfl
      have := hl a (by simp); omega
    unfold Lib.indexByte
    rw [ha, ih fun x hx => hl x (by simp [hx])]
    rfl

theorem two_bytes {E : ByteArray} (h : E.size = 2) : ∃ a b, E = ⟨#[a, b]⟩ := by
  obtain ⟨⟨l⟩⟩ := E
  match l, h with
  | [a, b], _ => exact ⟨a, b, rfl⟩

theorem three_bytes {E : ByteArray} (h : E.size = 3) : ∃ a b c, E = ⟨#[a, b, c]⟩ := by
  obtain ⟨⟨l⟩⟩ := E
  match l, h with
  | [a, b, c], _ => exact ⟨a, b, c, rfl⟩

theorem four_bytes {E : ByteArray} (h : E.size = 4) : ∃ a b c d, E = ⟨#[a, b, c, d]⟩ := by
  obtain ⟨⟨l⟩⟩ := E
  match l, h with
  | [a, b, c, d], _ => exact ⟨a, b, c, d, rfl⟩

theorem then_ret (K : Act → World → Prop) (Q : Exit → Act → World → Prop) (a : Act) (w : World) : Exit.then K Q .ret a w = Q .ret a w := rfl

theorem block_ret (n : Nat) (Q : Exit → Act → World → Prop) (a : Act) (w : World) : Exit.inBlock n Q .ret a w = Q .ret a w := rfl

theorem then_exit (n : Nat) (K : Act → World → Prop) (Q : Exit → Act → World → Prop) (a : Act) (w : World) : Exit.then K Q (.exit n) a w = Q (.exit n) a w := rfl

theorem block_exit (n : Nat) (Q : Exit → Act → World → Prop) (a : Act) (w : World) : Exit.inBlock n Q (.exit n) a w = Q .normal a w := if_pos rfl

theorem bads_low (x : UInt8) (h : x ∈ (⟨#[0, 10, 13]⟩ : ByteArray).data.toList) : x.toNat < 128 := by
  simp at h
  rcases h with rfl | rfl | rfl <;> decide

theorem idx_high (s : ByteArray) (hs : ∀ x ∈ s.data.toList, x.toNat < 128) (c : UInt8) (hc : 128 ≤ c.toNat) (w : World) :
    Calls Tryd.prog 78 #[.string s, .int .u8 (c.toNat : Int)] w fun e w' => e = .returned (.int .i64 (-1)) ∧ w' = w := by
  have h := Tryd.strings_IndexByte s (c.toNat : Int) w
  rw [byte_back, bads_idx c hc _ hs] at h
  exact h

set_option maxRecDepth 100000 in
set_option maxHeartbeats 4000000 in
theorem rune_high (r : Int) (hv : Utf8.valid r = true) (h128 : 128 ≤ r) (hne : r ≠ 65533) (w : World) :
    Calls Tryd.prog 70 #[.string ⟨#[0, 10, 13]⟩, .int .i32 r] w fun e w' => e = .returned (.int .i64 (-1)) ∧ Below w.heap.size w w' := by
  obtain ⟨h2, h4, hl⟩ := encode_facts r hv h128
  have hvr : Lib.validRune r = true := by
    rw [← hv, validRune_eq]
    rfl
  have hcv := Tryd.utf8_ValidRune r w
  rw [hvr] at hcv
  have q00 : decide (0 ≤ r) = true := decide_eq_true (by omega)
  have q0 : decide (r < 128) = false := decide_eq_false (by omega)
  have q1 : (r == 65533) = false := by simpa using hne
  have cvt := run_convert_int_string (P := Tryd.prog) w 21 9 .i32 r (by kernel_rfl) Tryd.underlying9
  generalize hE : Utf8.encode r = E at h2 h4 hl cvt
  have HE := Lib.hid hE
  have h3 : E.size = 2 ∨ E.size = 3 ∨ E.size = 4 := by omega
  clear hvr
  rcases h3 with h3 | h3 | h3
  · obtain ⟨a, b, rfl⟩ := two_bytes h3
    have hb : 128 ≤ ((⟨#[a, b]⟩ : ByteArray)[1]'(by show 1 < 2; omega)).toNat := hl (by show 1 < 2; omega)
    clear hl h2 h4 h3
    have hw : IntKind.i64.wrap 2 = 2 := by decide
    have q2 : ((((⟨#[0, 10, 13]⟩ : ByteArray)[1]).toNat : Int) != (((⟨#[a, b]⟩ : ByteArray)[1]'(by show 1 < 2; omega)).toNat : Int)) = true := by
      rw [show (((⟨#[0, 10, 13]⟩ : ByteArray)[1]).toNat : Int) = 10 from rfl]
      rw [bne_iff_ne]; omega
    go_enter Tryd.func70, Tryd.ntmps70
    go_wp2_with (go_at_call 79; refine hcv.mono ?_; rintro e w1 ⟨rfl, hw1⟩; rw [hw1])
    go_step3
    go_wp2
    refine wp_loop_rounds 1 ?_
    rw [rounds_succ]
    go_wp2
    go_step3
    go_wp2
    go_quiet (fail)
    have hB1 := Lib.hid (Path.drewN_below (Below.refl w.heap.size w) nq)
    generalize w.drewN nq = W1 at hB1 ⊢
    go_wp2
    go_quiet ((go_at_call 78; exact Calls.quiet_of_same (idx_high _ (fun x hx => bads_low x (mem_extract hx)) _ hb _)))
    have hB2 := Lib.hid (Path.drewN_below hB1.out nq)
    generalize W1.drewN nq = W2 at hB2 ⊢
    iterate 24 (first | go_values | go_skip | go_guarded | go_step | go_upon | go_in | go_back)
    rw [then_ret, then_ret, Exit.noGoto_ret, block_ret, then_ret, block_ret, then_ret, Exit.noGoto_ret, block_ret]
    refine bodyPost_ret (results_tmp rfl _ _ _) rfl ?_
    exact ⟨rfl, hB2.out⟩
  · obtain ⟨a, b, c, rfl⟩ := three_bytes h3
    have hb : 128 ≤ ((⟨#[a, b, c]⟩ : ByteArray)[2]'(by show 2 < 3; omega)).toNat := hl (by show 2 < 3; omega)
    clear hl h2 h4 h3
    have hw : IntKind.i64.wrap 3 = 3 := by decide
    have q2 : ((((⟨#[0, 10, 13]⟩ : ByteArray)[2]).toNat : Int) != (((⟨#[a, b, c]⟩ : ByteArray)[2]'(by show 2 < 3; omega)).toNat : Int)) = true := by
      rw [show (((⟨#[0, 10, 13]⟩ : ByteArray)[2]).toNat : Int) = 13 from rfl]
      rw [bne_iff_ne]; omega
    go_enter Tryd.func70, Tryd.ntmps70
    go_wp2_with (go_at_call 79; refine hcv.mono ?_; rintro e w1 ⟨rfl, hw1⟩; rw [hw1])
    go_step3
    go_wp2
    refine wp_loop_rounds 1 ?_
    rw [rounds_succ]
    go_wp2
    go_step3
    go_wp2
    go_quiet (fail)
    have hB1 := Lib.hid (Path.drewN_below (Below.refl w.heap.size w) nq)
    generalize w.drewN nq = W1 at hB1 ⊢
    go_wp2
    go_quiet ((go_at_call 78; exact Calls.quiet_of_same (idx_high _ (fun x hx => absurd (show x ∈ ([] : List UInt8) from hx) (by simp)) _ hb _)))
    have hB2 := Lib.hid (Path.drewN_below hB1.out nq)
    generalize W1.drewN nq = W2 at hB2 ⊢
    iterate 24 (first | go_values | go_skip | go_guarded | go_step | go_upon | go_in | go_back)
    rw [then_ret, then_ret, Exit.noGoto_ret, block_ret, then_ret, block_ret, then_ret, Exit.noGoto_ret, block_ret]
    refine bodyPost_ret (results_tmp rfl _ _ _) rfl ?_
    exact ⟨rfl, hB2.out⟩
  · obtain ⟨a, b, c, d, rfl⟩ := four_bytes h3
    have hb : 128 ≤ ((⟨#[a, b, c, d]⟩ : ByteArray)[3]'(by show 3 < 4; omega)).toNat := hl (by show 3 < 4; omega)
    clear hl h2 h4 h3
    go_enter Tryd.func70, Tryd.ntmps70
    go_wp2_with (go_at_call 79; refine hcv.mono ?_; rintro e w1 ⟨rfl, hw1⟩; rw [hw1])
    go_step3
    go_wp2
    refine wp_loop_rounds 1 ?_
    rw [rounds_succ]
    iterate 20 (first | go_values | go_skip | go_guarded | go_step | go_upon | go_in | go_back)
    rw [then_exit, then_exit, block_exit]
    go_wp2
    rw [Exit.noGoto_ret, block_ret]
    refine bodyPost_ret (results_tmp rfl _ _ _) rfl ?_
    exact ⟨rfl, Below.refl _ _⟩

set_option maxRecDepth 100000 in
set_option maxHeartbeats 4000000 in
theorem rune_err (w : World) :
    Calls Tryd.prog 70 #[.string ⟨#[0, 10, 13]⟩, .int .i32 65533] w fun e w' => e = .returned (.int .i64 (-1)) ∧ Below w.heap.size w w' := by
  go_enter Tryd.func70, Tryd.ntmps70
  go_wp2
  go_loopw [5, 6] (fun _ _ wr => ∃ pos : Nat, pos ≤ 3 ∧ wr.heap[w.heap.size]? = some (.stringIter ⟨#[0, 10, 13]⟩ pos) ∧ Below w.heap.size w wr) (fun _ _ wr => 3 - wr.iterPos w.heap.size)
  case atStart => exact ⟨0, by omega, World.iter_heap w _ 0, (Below.refl _ w).alloc (Nat.le_refl _) _⟩
  case round =>
    obtain ⟨pos, hp, hit, hB⟩ := hrel
    by_cases hlt : pos < (⟨#[0, 10, 13]⟩ : ByteArray).size
    · have hx : ((⟨#[0, 10, 13]⟩ : ByteArray)[pos]'hlt).toNat < 128 := bads_low _ (get_mem _ _ hlt)
      have hnx : ∀ ty, (Instr.next (.pointer (some ⟨w.heap.size, 0, none⟩)) true ty).run Tryd.prog wr = _ := fun ty => Lib.run_next_ascii_at wr w.heap.size _ pos ty hit hlt hx
      have hit2 := Lib.iterAt_heap wr w.heap.size _ pos (pos + 1) hit
      have hB2 := Lib.below_iterAt hB (k := w.heap.size) (Nat.le_refl _) (⟨#[0, 10, 13]⟩ : ByteArray) (pos + 1)
      have HP := Lib.hid (show wr.iterPos w.heap.size = pos by simp only [World.iterPos, hit])
      have hlt3 : pos < 3 := hlt
      have q1 : ((((⟨#[0, 10, 13]⟩ : ByteArray)[pos]'hlt).toNat : Int) == 65533) = false := by
        rw [beq_eq_false_iff_ne]; omega
      generalize ((⟨#[0, 10, 13]⟩ : ByteArray)[pos]'hlt).toNat = x at hnx q1 hx
      clear hlt hit hB
      generalize wr.iterAt w.heap.size ⟨#[0, 10, 13]⟩ (pos + 1) = W at hnx hit2 hB2
      go_wp2
      go_roundw
      case rel => exact ⟨pos + 1, by omega, hit2, hB2⟩
      case measure =>
        simp only [World.iterPos, hit2]
        have := HP.out
        simp only [World.iterPos] at this
        omega
    · have hnx : ∀ ty, (Instr.next (.pointer (some ⟨w.heap.size, 0, none⟩)) true ty).run Tryd.prog wr = _ := fun ty => Lib.run_next_end_at wr w.heap.size _ pos ty hit hlt
      go_wp2
      go_ret
      exact ⟨rfl, hB⟩

theorem dec_valid (s : ByteArray) (i : Nat) : Utf8.valid ((Utf8.decode s i).1 : Int) = true := by
  have hb : ∀ k, (s.get! (i + k)).toNat < 256 := fun k => (s.get! (i + k)).toNat_lt
  have h0 := hb 0; have h1 := hb 1
  simp only [Utf8.decode]
  repeat' split
  all_goals simp_all [Utf8.runeError, Utf8.valid]
  all_goals omega

theorem dec_bytes (s : ByteArray) (i : Nat) (h : i < s.size) (ha : 128 ≤ (s[i]'h).toNat) (k : Nat) (hk : k < (Utf8.decode s i).2) : 128 ≤ (s.get! (i + k)).toNat := by
  have hn : ¬ (s[i]'h).toNat < 128 := by omega
  have h0 := get_at s i h
  revert hk
  simp only [Utf8.decode, h0, hn, if_false]
  repeat' split
  all_goals
    intro hk
    match k, hk with
    | 0, _ => rw [h0]; exact ha
    | 1, _ => simp_all <;> omega
    | 2, _ => simp_all <;> omega
    | 3, _ => simp_all <;> omega
    | k + 4, hk => simp at hk <;> omega

theorem bads_in (x : UInt8) (h : x.toNat < 128) : decide (0 ≤ Lib.indexByte bads x) = bads.contains x := (Lib.contains_iff_indexByte bads x).symm

theorem bads_out (x : UInt8) (h : 128 ≤ x.toNat) : bads.contains x = false := by
  cases e : bads.contains x
  · rfl
  · simp [bads] at e
    rcases e with rfl | rfl | rfl <;> revert h <;> decide

theorem get_bang (s : ByteArray) (i : Nat) (h : i < s.size) : s.get! i = s[i] := get_at s i h

/-- Behind one more character no bad byte stands yet. -/
theorem no_more (s : ByteArray) (pos : Nat) (hp : pos < s.size) (ha : 128 ≤ (s[pos]'hp).toNat) (h : (s.data.toList.take pos).any bads.contains = false) : (s.data.toList.take (pos + (Utf8.decode s pos).2)).any bads.contains = false := by
  rw [List.any_eq_false] at h ⊢
  intro x hx
  obtain ⟨j, hj, rfl⟩ := List.getElem_of_mem hx
  rw [List.length_take] at hj
  rw [List.getElem_take]
  have hjs : j < s.size := by have : s.data.toList.length = s.size := rfl; omega
  rcases Nat.lt_or_ge j pos with hlt | hge
  · have hl : j < (s.data.toList.take pos).length := by rw [List.length_take]; omega
    have := h _ (List.getElem_mem hl)
    rw [List.getElem_take] at this
    exact this
  · obtain ⟨k, rfl⟩ : ∃ k, j = pos + k := ⟨j - pos, by omega⟩
    have hb := dec_bytes s pos hp ha k (by omega)
    rw [get_bang s (pos + k) hjs] at hb
    rw [show s.data.toList[pos + k] = s[pos + k] from rfl, bads_out _ hb]
    decide

theorem no_step (s : ByteArray) (pos : Nat) (hp : pos < s.size) (hb : bads.contains s[pos] = false) (h : (s.data.toList.take pos).any bads.contains = false) : (s.data.toList.take (pos + 1)).any bads.contains = false := by
  rw [Ascii.take_snoc s pos hp, List.any_append, h]
  simpa using hb

theorem yes_some (s : ByteArray) (pos : Nat) (hp : pos < s.size) (hb : bads.contains s[pos] = true) : s.data.toList.any bads.contains = true := by
  rw [List.any_eq_true]
  exact ⟨s[pos], get_mem s pos hp, hb⟩

theorem no_end (s : ByteArray) (pos : Nat) (hp : ¬ pos < s.size) (h : (s.data.toList.take pos).any bads.contains = false) : s.data.toList.any bads.contains = false := by
  rwa [List.take_of_length_le (by show s.size ≤ pos; omega)] at h

theorem idx_any (l : T) (cs : T) : decide (0 ≤ Lib.indexAny l cs) = l.any cs.contains := by
  induction l with
  | nil => rfl
  | cons b l ih =>
    have hg := Lib.indexAny_ge cs l
    unfold Lib.indexAny
    rw [List.any_cons, ← ih]
    cases hb : cs.contains b
    · by_cases h : Lib.indexAny l cs = -1
      · rw [h]; rfl
      · have : (Lib.indexAny l cs == -1) = false := by simpa using h
        simp [this]
        omega
    · simp

theorem h116 : (Tryd.prog.info? 59).map (fun i => (i.zero, i.size)) = some (some (.agg (Array.replicate 256 (.bool false))), 256) := by kernel_rfl

theorem bads_128 : ∀ (j : Nat) b, (⟨#[0, 10, 13]⟩ : ByteArray).data.toList[j]? = some b → b.toNat < 128 := fun j b h => bads_low b (List.mem_of_getElem? h)

theorem blanks_128 : ∀ (j : Nat) b, (⟨#[32, 9]⟩ : ByteArray).data.toList[j]? = some b → b.toNat < 128 := ascii_of_all (by decide)

/-- A text without the blanks and tabs at its ends. -/
theorem trim_any (s : ByteArray) (hs : s.size ≤ 1000000) (w : World) :
    Calls Tryd.prog 27 #[.string s, .string ⟨#[32, 9]⟩] w fun e w' => e = .returned (.string ⟨(trimB s.data.toList).toArray⟩) ∧ Below w.heap.size w w' :=
  Any.strings_Trim_laid Tryd.lays160 h116 s ⟨#[32, 9]⟩ w (by omega) (by decide) blanks_128

end Go.Proofs.YtbgebolamkfnlaaDoor.Head

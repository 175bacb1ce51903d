/-
  A number's text to the base of 16, as strconv's FormatInt makes it (read: math/bits.deBruijn64tab at one place).
-/
import Derived.Test.YtgfhjigalefkmaaDoorSFacts
import Derived.Test.YtgfhjigalefkmaaDoorShelf
import Derived.Laws.BitsAllLaws
import Derived.BigRegion
namespace Go.Proofs.YtgfhjigalefkmaaDoor.Six
open Go.RowKit
set_option linter.unusedSimpArgs false
set_option linter.unusedVariables false
set_option maxRecDepth 100000 in
theorem tz64_any (w : World) (hm : w.cell? ⟨5, 15, none⟩ = some (.int .u8 4)) : Calls Tryd.prog 68 #[.int .u64 16] w fun e w' => e = .returned (.int .i64 4) ∧ w = w' := by
  have h1 : bits BinOp.and IntKind.u64 16 (IntKind.u64.wrap (-16)) = 16 := by decide +kernel
  have h2 : IntKind.u64.wrap (16 * 285870213051353865) / 288230376151711744 = 15 := by decide +kernel
  go_enter Tryd.func68, Tryd.ntmps68
  go_wp2
  go_ret
  exact ⟨rfl, rfl⟩
set_option maxRecDepth 100000 in
theorem tz_any (w : World) (hm : w.cell? ⟨5, 15, none⟩ = some (.int .u8 4)) : Calls Tryd.prog 63 #[.int .u64 16] w fun e w' => e = .returned (.int .i64 4) ∧ w = w' := by
  have hc := tz64_any w hm
  go_enter Tryd.func63, Tryd.ntmps63
  go_wp2_with (go_at_call 68; refine hc.mono ?_; rintro e w' ⟨rfl, rfl⟩)
  go_ret
  exact ⟨rfl, rfl⟩
set_option maxRecDepth 100000 in
set_option maxHeartbeats 1000000 in
theorem pow_any (w : World) : Calls Tryd.prog 62 #[.int .i64 16] w fun e w' => e = .returned (.bool true) ∧ w = w' := by
  have h1 : bits BinOp.and IntKind.i64 16 15 = 0 := by decide +kernel
  go_enter Tryd.func62, Tryd.ntmps62
  go_wp2
  go_ret
  exact ⟨rfl, rfl⟩

theorem u64_and15 (n : Nat) (h : n ≤ 65535) : bits .and .u64 (n : Int) 15 = ((n % 16 : Nat) : Int) := by
  have h15 : (BitVec.ofInt 64 15).toNat = 2 ^ 4 - 1 := by decide
  have key : (BitVec.ofInt 64 (n : Int) &&& BitVec.ofInt 64 15).toNat = n % 16 := by
    rw [BitVec.toNat_and, BitVec.toNat_ofInt, h15, Nat.and_two_pow_sub_one_eq_mod]
    omega
  show IntKind.u64.wrap ((BitVec.ofInt 64 (n : Int) &&& BitVec.ofInt 64 15).toNat : Nat) = _
  rw [key]
  rw [IntKind.wrap_u64]
  omega
/-- The last D.length bytes of 65 are told. -/
def lay65 (D : List UInt8) : List UInt8 := List.replicate (65 - D.length) 0 ++ D
theorem lay65_len (D : List UInt8) (h : D.length ≤ 65) : (lay65 D).length = 65 := by simp [lay65]; omega
theorem lay65_set (D : List UInt8) (h : D.length < 65) (x : UInt8) : (lay65 D).set (65 - D.length - 1) x = lay65 (x :: D) := by
  unfold lay65
  obtain ⟨m, hm⟩ : ∃ m, 65 - D.length = m + 1 := ⟨65 - D.length - 1, by omega⟩
  rw [hm, List.length_cons, show 65 - (D.length + 1) = m by omega, show m + 1 - 1 = m by omega, List.set_append, if_pos (by simp)]
  rw [List.replicate_succ', List.set_append, if_neg (by simp)]
  simp
theorem lay65_drop (D : List UInt8) (h : D.length ≤ 65) : (lay65 D).drop (65 - D.length) = D := by
  unfold lay65
  rw [List.drop_left' (by simp)]
theorem lay65_new (w : World) : Ascii.Held (w.alloc (.cells Tryd.zeroCells84 84)) w.heap.size (lay65 []) := by
  intro j hj
  rw [lay65_len _ (by simp)] at hj
  rw [World.cell?_alloc_at _ _ _ _ rfl, World.frozen?_alloc_at _ _ _ _ rfl]
  have key : Tryd.zeroCells84 = (List.replicate 65 (Value.int .u8 0)).toArray := by kernel_rfl
  have e : (lay65 [])[j]'(by rw [lay65_len _ (by simp)]; exact hj) = 0 := by unfold lay65; rw [List.getElem_append_left (by simpa using hj), List.getElem_replicate]
  rw [e, key, List.getElem?_toArray, List.getElem?_replicate, if_pos hj]
  exact ⟨rfl, by simp⟩
theorem dig_all : ∀ d : Fin 16, (⟨#[48, 49, 50, 51, 52, 53, 54, 55, 56, 57, 97, 98, 99, 100, 101, 102, 103, 104, 105, 106, 107, 108, 109, 110, 111, 112, 113, 114, 115, 116, 117, 118, 119, 120, 121, 122]⟩ : ByteArray)[d.val]'(Nat.lt_trans d.isLt (by decide)) = hexC d.val := by decide +kernel
theorem cut65 (g m : Nat) (h : m ≤ 64) (w : World) : (Instr.sliceAt 84 (.pointer (some ⟨g, 0, none⟩)) (some (.int .i64 m)) none none).run Tryd.prog w = .ok (.slice (some ⟨g, m, none⟩) (65 - m) (65 - m)) w := by
  have hl : Tryd.prog.arrayLen 84 = 65 := by kernel_rfl
  rw [run_sliceAt_array_l w 84 _ (by kernel_rfl) .i64 m (by omega) (by rw [hl]; omega), hl]
  have hs : (sizeOf (Tryd.prog.elem 84)).run Tryd.prog w = .ok 1 w := by kernel_rfl
  rw [hs]
  have : ¬ 65 = (m : Int).toNat := by omega
  have h2 : ¬ 65 = m := by omega
  simp [slicedAt, Result.andThen, h2, Addr.add]
  intro h0
  rw [h0]
set_option maxRecDepth 100000 in
set_option maxHeartbeats 4000000 in
theorem bits_any (n : Nat) (hn : n ≤ 65535) (w : World) (hm : w.cell? ⟨5, 15, none⟩ = some (.int .u8 4)) :
    Calls Tryd.prog 51 #[.slice none 0 0, .int .u64 n, .int .i64 16, .bool false, .bool false] w fun e W' => e = .returned (.tuple #[.slice none 0 0, .string ⟨(hexN n).toArray⟩]) ∧ Below w.heap.size w W' := by
  have HM := Lib.hid (show (w.alloc (.cells Tryd.zeroCells84 84)).cell? ⟨5, 15, none⟩ = some (.int .u8 4) by
    rw [World.cell?_alloc_past _ _ _ (World.block_lt_of_cell? _ _ hm)]; exact hm)
  clear hm
  go_enter Tryd.func51, Tryd.ntmps51
  go_wp2_with (first | (go_at_call 62; refine (pow_any _).mono ?_; rintro e w' ⟨rfl, rfl⟩) | (go_at_call 63; refine (tz_any _ HM.out).mono ?_; rintro e w' ⟨rfl, rfl⟩))
  have hB0 : Below w.heap.size w (w.alloc (.cells Tryd.zeroCells84 84)) := (Below.refl _ w).alloc (Nat.le_refl _) _
  have hH0 := lay65_new w
  go_loopw [1, 13] (fun u i wr => ∃ (D : List UInt8) (k : Nat), u = .int .u64 (k : Nat) ∧ i = .int .i64 (65 - (D.length : Int)) ∧ k ≤ 65535 ∧ Hid (hexN n = hexN k ++ D) ∧ Hid (Ascii.Held wr w.heap.size (lay65 D)) ∧ Below w.heap.size w wr) (fun u _ _ => (intOf u).toNat)
  case atStart => exact ⟨[], n, rfl, rfl, hn, Lib.hid (by simp), Lib.hid hH0, hB0⟩
  case round =>
    clear hH0 hB0 HM
    obtain ⟨D, k, rfl, rfl, hk, HN, HH, hw⟩ := hrel
    have hD : D.length ≤ 3 := by
      have h1 := congrArg List.length HN.out
      have h2 := hexN_len 3 n (by omega)
      have h3 := hexN_pos k
      rw [List.length_append] at h1
      omega
    obtain ⟨m, hmD⟩ : ∃ m : Nat, 65 - D.length = m + 1 := ⟨64 - D.length, by omega⟩
    have e1 : (65 - (D.length : Int)) - 1 = (m : Int) := by omega
    have hml : m < (lay65 D).length := by rw [lay65_len _ (by omega)]; omega
    obtain ⟨hc, hf⟩ := HH.out m hml
    generalize (lay65 D)[m].toNat = old at hc
    by_cases h16 : k < 16
    · have t1 : decide (16 ≤ (k : Int)) = false := decide_eq_false (by omega)
      have hx := Lib.hid (dig_all ⟨k, h16⟩)
      have hsl := cut65 w.heap.size m (by omega)
      have hset := Ascii.held_set HH.out m hml (hexC k)
      rw [show m = 65 - D.length - 1 by omega, lay65_set D (by omega) (hexC k), show 65 - D.length - 1 = m by omega] at hset
      have hdr := lay65_drop (hexC k :: D) (by simp; omega)
      have hlen : 65 - m = (hexC k :: D).length := by simp; omega
      have hcv := run_convert_bytes_back (P := Tryd.prog) (wr.setCell ⟨w.heap.size, m, none⟩ (.int .u8 ((hexC k).toNat : Int))) 31 9 5 ⟨w.heap.size, m, none⟩ (65 - m) (hexC k :: D) Tryd.underlying31 Tryd.underlying5 Tryd.underlying9 (fun j hj => by
        have e : (⟨w.heap.size, m, none⟩ : Addr).add j = ⟨w.heap.size, m + j, none⟩ := by unfold Addr.add; split <;> simp_all
        have hj2 : m + j < (lay65 (hexC k :: D)).length := by rw [lay65_len _ (by simp; omega)]; simp at hj; omega
        rw [e, (hset (m + j) hj2).1]
        have e3 : (hexC k :: D)[j] = (lay65 (hexC k :: D))[m + j] := by
          have h4 : 65 - (hexC k :: D).length = m := by simp; omega
          rw [h4] at hdr
          have h5 : ((lay65 (hexC k :: D)).drop m)[j]'(by simp; omega) = (lay65 (hexC k :: D))[m + j] := by simp
          rw [← h5]
          simp only [hdr]
        rw [e3])
      rw [← hlen] at hcv
      have HR := Lib.hid (show hexN n = hexC k :: D by rw [HN.out, hexN_lt h16]; rfl)
      clear hset hdr hlen
      have hx2 := hx.out
      simp only at hx2
      go_wp2
      go_ret2
      refine ⟨?_, hw.setCell (p := ⟨w.heap.size, m, none⟩) (Nat.le_refl _) _⟩
      rw [HR.out]
      rfl
    · have t1 : decide (16 ≤ (k : Int)) = true := decide_eq_true (by omega)
      have hb := u64_and15 k hk
      have hx := dig_all ⟨k % 16, by omega⟩
      simp only at hx
      have HX := Lib.hid hx
      clear hx
      go_wp2
      go_roundw
      case rel =>
        refine ⟨hexC (k % 16) :: D, k / 16, by go_num, by simp; omega, by omega, Lib.hid ?_, Lib.hid ?_, hw.setCell (p := ⟨w.heap.size, m, none⟩) (Nat.le_refl _) _⟩
        · rw [HN.out, hexN_ge h16]; simp
        · rw [HX.out]
          have hset := Ascii.held_set HH.out m hml (hexC (k % 16))
          rw [show m = 65 - D.length - 1 by omega, lay65_set D (by omega) (hexC (k % 16)), show 65 - D.length - 1 = m by omega] at hset
          exact hset
      case measure => simp [intOf]; omega

set_option maxRecDepth 100000 in
set_option maxHeartbeats 1000000 in
theorem format_in (n : Nat) (hn : n ≤ 65535) (w : World) (hm : w.cell? ⟨5, 15, none⟩ = some (.int .u8 4)) :
    Calls Tryd.prog 35 #[.int .i64 n, .int .i64 16] w fun e W' => e = .returned (.string ⟨(hexN n).toArray⟩) ∧ Below w.heap.size w W' := by
  have hb := bits_any n hn w hm
  have t1 : decide ((n : Int) < 0) = false := decide_eq_false (by omega)
  clear hm
  go_enter Tryd.func35, Tryd.ntmps35
  go_wp2_with (go_at_call 51; refine hb.mono ?_; rintro e w' ⟨rfl, hB⟩)
  go_ret
  exact ⟨rfl, hB⟩
set_option maxRecDepth 100000 in
set_option maxHeartbeats 1000000 in
/-- strconv.FormatInt at base 16. -/
theorem format_any (n : Nat) (hn : n ≤ 65535) (x : ByteArray) (hx : (⟨(hexN n).toArray⟩ : ByteArray) = x) (w : World) (hm : w.cell? ⟨5, 15, none⟩ = some (.int .u8 4)) :
    Calls Tryd.prog 30 #[.int .i64 n, .int .i64 16] w fun e W' => e = .returned (.string x) ∧ Below w.heap.size w W' := by
  subst hx
  have hb := format_in n hn w hm
  clear hm hn
  go_enter Tryd.func30, Tryd.ntmps30
  go_wp2_with (go_at_call 35; refine hb.mono ?_; rintro e w' ⟨rfl, hB⟩)
  go_ret
  exact ⟨rfl, hB⟩
end Go.Proofs.YtgfhjigalefkmaaDoor.Six

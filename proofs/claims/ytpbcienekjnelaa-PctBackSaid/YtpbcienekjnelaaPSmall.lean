/-
  The walks of the small functions of package pct: IndexByte, the closures, with, sets, member, put.
-/
import Derived.Test.YtpbcienekjnelaaProg
import Derived.Test.YtpbcienekjnelaaAscii
import Derived.WalkKit
import Derived.WalkSpells
import Derived.WalkLawsBesides
import Derived.RangeFuncNested
import Derived.Lib.Hide
import Derived.Lib.Bytealg
import Derived.Lib.Walk
import Derived.Shelf.Abstract
import Derived.Laws.EntriesVeiled
namespace Go.Proofs.Ytpbcienekjnelaa.Pct
open Go.RowKit
set_option linter.unusedSimpArgs false
set_option linter.unusedVariables false

/-- The bytes up to 31, and from 127 on. -/
def baseB (c : UInt8) : Bool := decide (c.toNat ≤ 31) || decide (127 ≤ c.toNat)
def more1 : List UInt8 := [32, 34, 60, 62, 96]
def more2 : List UInt8 := [32, 34, 35, 39, 60, 62]
def more3 : List UInt8 := [63, 94, 96, 123, 125]
def more4 : List UInt8 := [47, 58, 59, 61, 64, 91, 92, 93, 124]
def in1 (c : UInt8) : Bool := baseB c || more1.contains c
def in2 (c : UInt8) : Bool := baseB c || more2.contains c
def in3 (c : UInt8) : Bool := in2 c || more3.contains c
def in4 (c : UInt8) : Bool := in3 c || more4.contains c
/-- Is a byte in a set? -/
def inB (set : Int) (c : UInt8) : Bool :=
  if set = 0 then baseB c else if set = 1 then in1 c else if set = 2 then in2 c else if set = 3 then in3 c else if set = 4 then in4 c else false

theorem idx_mem (l : List UInt8) (c : UInt8) : decide (0 ≤ Lib.indexByte l c) = l.contains c := by
  induction l with
  | nil => rfl
  | cons a l ih =>
    have h := Lib.indexByte_ge l c
    unfold Lib.indexByte
    rw [List.contains_cons, ← ih]
    by_cases e : a = c
    · subst e; simp
    · have e1 : (a == c) = false := by simpa using e
      have e2 : (c == a) = false := by simpa using fun h => e h.symm
      rw [e1, e2]
      by_cases e3 : Lib.indexByte l c = -1
      · rw [e3]; rfl
      · have e4 : (Lib.indexByte l c == -1) = false := by simpa using e3
        rw [e4]
        simp
        omega
theorem byte_back (x : UInt8) : ((x.toNat : Int)).toNat.toUInt8 = x := by
  rw [Int.toNat_natCast]; exact UInt8.ofNat_toNat

set_option maxHeartbeats 400000 in
theorem liteIndex_any (s : ByteArray) (c : Int) (w : World) :
    Calls Try.prog 34 #[.string s, .int .u8 c] w fun e w' => e = .returned (.int .i64 (Lib.indexByte s.data.toList c.toNat.toUInt8)) ∧ w = w' := by
  go_enter Try.func34, Try.ntmps34
  go_wp2
  rw [run_callFunc_extern Try.func35 (by kernel_rfl) (by kernel_rfl) (by kernel_rfl) (e := Extern.BytealgIndexByte.indexByte) (by kernel_rfl), Lib.run_indexByteString]
  simp only [Result.andThen]
  rw [Oper.upon_value]
  go_wp2
  go_ret
  exact ⟨rfl, rfl⟩

set_option maxHeartbeats 400000 in
theorem index_any (s : ByteArray) (c : Int) (w : World) :
    Calls Try.prog 33 #[.string s, .int .u8 c] w fun e w' => e = .returned (.int .i64 (Lib.indexByte s.data.toList c.toNat.toUInt8)) ∧ w = w' := by
  go_enter Try.func33, Try.ntmps33
  go_wp2_with (go_at_call 34; refine (liteIndex_any _ _ _).mono ?_; rintro e w' ⟨rfl, rfl⟩)
  go_ret
  exact ⟨rfl, rfl⟩

/-- What a closure of the package tells, in every world in which all that lay lies as it was. -/
def Tells (g : Nat) (lb : Array Value) (p : UInt8 → Bool) (w : World) : Prop :=
  ∀ (W : World) (x : UInt8), Below w.heap.size w W → Calls Try.prog g (#[.int .u8 (x.toNat : Int)] ++ lb) W fun e w' => e = .returned (.bool (p x)) ∧ W = w'

set_option maxHeartbeats 400000 in
theorem none_any (x : UInt8) (w : World) :
    Calls Try.prog 25 #[.int .u8 (x.toNat : Int)] w fun e w' => e = .returned (.bool false) ∧ w = w' := by
  go_enter Try.func25, Try.ntmps25
  go_wp2
  go_ret
  exact ⟨rfl, rfl⟩

theorem base_int (x : UInt8) : baseB x = (decide ((x.toNat : Int) ≤ 31) || decide (127 ≤ (x.toNat : Int))) := by
  unfold baseB
  rw [Bool.eq_iff_iff]
  simp
  omega

set_option maxHeartbeats 400000 in
theorem base_any (x : UInt8) (w : World) :
    Calls Try.prog 28 #[.int .u8 (x.toNat : Int)] w fun e w' => e = .returned (.bool (baseB x)) ∧ w = w' := by
  have hb := Lib.hid (base_int x)
  cases h1 : decide ((x.toNat : Int) ≤ 31)
  · cases h2 : decide (127 ≤ (x.toNat : Int))
    all_goals
      have hv := Lib.hid (show baseB x = (false || _) by rw [hb.out, h1, h2])
      go_enter Try.func28, Try.ntmps28
      go_wp2
      go_ret
      exact ⟨by rw [hv.out]; rfl, rfl⟩
  · have hv := Lib.hid (show baseB x = true by rw [hb.out, h1]; rfl)
    go_enter Try.func28, Try.ntmps28
    go_wp2
    go_ret
    exact ⟨by rw [hv.out]; rfl, rfl⟩

set_option maxHeartbeats 800000 in
theorem with1_any (g : Nat) (lb : Array Value) (eg : ∀ args w, (callFunc g args).run Try.prog w = .ok (.enter g args) w) (b : Bool) (more : ByteArray) (l : List UInt8) (hl : Hid (more.data.toList = l)) (p q : Addr) (x : UInt8) (w : World)
    (hp : w.cell? p = some (.func (.func g) #[] lb)) (hq : w.cell? q = some (.string more))
    (hcall : Calls Try.prog g (#[.int .u8 (x.toNat : Int)] ++ lb) w fun e w' => e = .returned (.bool b) ∧ w = w') :
    Calls Try.prog 32 #[.int .u8 (x.toNat : Int), .pointer (some p), .pointer (some q)] w fun e w' => e = .returned (.bool (b || l.contains x)) ∧ w = w' := by
  cases b
  · have hv := Lib.hid (show decide (0 ≤ Lib.indexByte more.data.toList x) = (false || l.contains x) by rw [idx_mem, hl.out, Bool.false_or])
    go_enter Try.func32, Try.ntmps32
    go_wp2_with (first | (go_at_fn g; refine hcall.mono ?_; rintro e w' ⟨rfl, rfl⟩) | (go_at_call 33; refine (index_any _ _ _).mono ?_; rintro e w' ⟨rfl, rfl⟩))
    go_ret
    exact ⟨by rw [← hv.out]; rfl, rfl⟩
  · go_enter Try.func32, Try.ntmps32
    go_wp2_with (first | (go_at_fn g; refine hcall.mono ?_; rintro e w' ⟨rfl, rfl⟩) | (go_at_call 33; refine (index_any _ _ _).mono ?_; rintro e w' ⟨rfl, rfl⟩))
    go_ret
    exact ⟨rfl, rfl⟩

set_option maxHeartbeats 400000 in
theorem with_any (g : Nat) (lb : Array Value) (more : ByteArray) (w : World) :
    Calls Try.prog 29 #[.func (.func g) #[] lb, .string more] w fun e w' => e = .returned (.func (.func 32) #[] #[.pointer (some ⟨w.heap.size, 0, none⟩), .pointer (some ⟨w.heap.size + 1, 0, none⟩)]) ∧ (w.alloc (.cells #[.func (.func g) #[] lb] 28)).alloc (.cells #[.string more] 9) = w' := by
  go_enter Try.func29, Try.ntmps29
  go_wp2
  go_ret
  exact ⟨rfl, rfl⟩

/-- The closure of with, bound to two boxes. -/
def cl (n : Nat) : Value := .func (.func 32) #[] #[.pointer (some ⟨n, 0, none⟩), .pointer (some ⟨n + 1, 0, none⟩)]
/-- The boxes of the sets, from a block on. -/
def SetsAt (n : Nat) (W : World) : Prop :=
  n + 9 < W.heap.size ∧ W.cell? ⟨n + 2, 0, none⟩ = some (.func (.func 28) #[] #[]) ∧ W.cell? ⟨n + 3, 0, none⟩ = some (.string ⟨#[32, 34, 60, 62, 96]⟩) ∧
  W.cell? ⟨n + 4, 0, none⟩ = some (.func (.func 28) #[] #[]) ∧ W.cell? ⟨n + 5, 0, none⟩ = some (.string ⟨#[32, 34, 35, 39, 60, 62]⟩) ∧
  W.cell? ⟨n + 6, 0, none⟩ = some (cl (n + 4)) ∧ W.cell? ⟨n + 7, 0, none⟩ = some (.string ⟨#[63, 94, 96, 123, 125]⟩) ∧
  W.cell? ⟨n + 8, 0, none⟩ = some (cl (n + 6)) ∧ W.cell? ⟨n + 9, 0, none⟩ = some (.string ⟨#[47, 58, 59, 61, 64, 91, 92, 93, 124]⟩)
def aggOf (n : Nat) : Value := .agg #[.func (.func 28) #[] #[], cl (n + 2), cl (n + 4), cl (n + 6), cl (n + 8)]

theorem SetsAt.later {n : Nat} {W W' : World} (h : SetsAt n W) (hb : Below W.heap.size W W') : SetsAt n W' := by
  obtain ⟨h0, h1, h2, h3, h4, h5, h6, h7, h8⟩ := h
  have key : ∀ k v, k ≤ 9 → W.cell? ⟨n + k, 0, none⟩ = some v → W'.cell? ⟨n + k, 0, none⟩ = some v := fun k v hk hc => (hb.cell (p := ⟨n + k, 0, none⟩) (show n + k < W.heap.size by omega)).trans hc
  exact ⟨Nat.lt_of_lt_of_le h0 hb.size, key 2 _ (by omega) h1, key 3 _ (by omega) h2, key 4 _ (by omega) h3, key 5 _ (by omega) h4, key 6 _ (by omega) h5, key 7 _ (by omega) h6, key 8 _ (by omega) h7, key 9 _ (by omega) h8⟩

set_option maxRecDepth 100000 in
set_option maxHeartbeats 2000000 in
theorem sets_any (w : World) :
    Calls Try.prog 24 #[] w fun e w' => e = .returned (aggOf w.heap.size) ∧ SetsAt w.heap.size w' ∧ Below w.heap.size w w' := by
  go_enter Try.func24, Try.ntmps24
  go_wp2_with (go_at_call 29; refine (with_any _ _ _ _).mono ?_; rintro e w' ⟨rfl, rfl⟩)
  refine bodyPost_ret (v := aggOf w.heap.size) (by simp [results, Try.results24, go_sem, aggOf, cl]) rfl ⟨rfl, ?_, ?_⟩
  · refine ⟨by simp, ?_, ?_, ?_, ?_, ?_, ?_, ?_, ?_⟩ <;> simp [go_sem, cl, Nat.add_assoc]
  · refine (((((((((Below.refl _ _).alloc (Nat.le_refl _) _).alloc ?_ _).alloc ?_ _).alloc ?_ _).alloc ?_ _).alloc ?_ _).alloc ?_ _).alloc ?_ _).alloc ?_ _ |>.alloc ?_ _ <;> (simp; try omega)

end Go.Proofs.Ytpbcienekjnelaa.Pct

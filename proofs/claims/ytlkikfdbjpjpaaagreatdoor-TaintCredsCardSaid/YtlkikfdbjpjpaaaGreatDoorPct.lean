/-
  The walks of the small functions of package pct: IndexByte, the closures, with, sets, member, put.
  member(set): the closure that tells a set; In(set, c); Ready(s, set).
  first(s), Decode(s).
  Encode(s, set).
  Plain facts on sets, encoding and decoding.
  The calls of package pct over a world that has grown; the chapter's example.
  The document's own In, Ready, told, Decode, Encode of layer 3.
  The document's own Decode and Encode of layer 3.
-/
import Derived.Test.YtlkikfdbjpjpaaaGreatDoorProg
import Derived.WalkKit
import Derived.WalkSpells
import Derived.WalkLawsBesides
import Derived.RangeFuncNested
import Derived.Lib.Hide
import Derived.Lib.Bytealg
import Derived.Lib.Walk
import Derived.Shelf.Abstract
import Derived.Laws.EntriesVeiled
import Derived.Deep.QuietTactic
import Derived.BigQuiet
import Derived.OwnWalk
import Derived.Maps.AppendAt
import Derived.Deep.RegionWith
import Derived.BigRegion
import Derived.OpenShut
import Derived.Deep.AppendLies
import Derived.Deep.RegionLaw
import Derived.Test.YtlkikfdbjpjpaaaGreatDoorAscii
namespace Go.Proofs.YtlkikfdbjpjpaaaGreatDoor.Pct
set_option linter.unusedSimpArgs false
set_option linter.unusedVariables false
set_option maxRecDepth 100000


open Go.RowKit


/-- The bytes up to 31, and from 127 on. -/
def baseB (c : UInt8) : Bool := decide (c.toNat ≤ 31) || decide (127 ≤ c.toNat)

def more1 : List UInt8 := [32, 34, 60, 62, 96]

def more2 : List UInt8 := [32, 34, 35, 39, 60, 62]

def more3 : List UInt8 := [63, 94, 96, 123, 125]

def more4 : List UInt8 := [47, 58, 59, 61, 64, 91, 92, 93, 124]

def in1 (c : UInt8) : Bool := baseB c || more1.contains c

def in2 (c : UInt8) : Bool := baseB c || more2.contains c

def in3 (c : UInt8) : Bool := in2 c || more3.contains c

def in4 (c : UInt8) : Bool := in3 c || more4.contains c

/-- Is a byte in a set? -/
def inB (set : Int) (c : UInt8) : Bool :=
  if set = 0 then baseB c else if set = 1 then in1 c else if set = 2 then in2 c else if set = 3 then in3 c else if set = 4 then in4 c else false

theorem idx_mem (l : List UInt8) (c : UInt8) : decide (0 ≤ Lib.indexByte l c) = l.contains c := by
  induction l with
  | nil => rfl
  | cons a l ih =>
    have h := Lib.indexByte_ge l c
    unfold Lib.indexByte
    rw [List.contains_cons, ← ih]
    by_cases e : a = c
    · subst e; simp
    · have e1 : (a == c) = false := by simpa using e
      have e2 : (c == a) = false := by simpa using fun h => e h.symm
      rw [e1, e2]
      by_cases e3 : Lib.indexByte l c = -1
      · rw [e3]; rfl
      · have e4 : (Lib.indexByte l c == -1) = false := by simpa using e3
        rw [e4]
        simp
        omega

theorem byte_back (x : UInt8) : ((x.toNat : Int)).toNat.toUInt8 = x := by
  rw [Int.toNat_natCast]; exact UInt8.ofNat_toNat

set_option maxHeartbeats 400000 in
theorem liteIndex_any (s : ByteArray) (c : Int) (w : World) :
    Calls Tryz.prog 170 #[.string s, .int .u8 c] w fun e w' => e = .returned (.int .i64 (Lib.indexByte s.data.toList c.toNat.toUInt8)) ∧ w = w' := by
  go_enter Tryz.func170, Tryz.ntmps170
  go_wp2
  rw [run_callFunc_extern Tryz.func193 (by kernel_rfl) (by kernel_rfl) (by kernel_rfl) (e := Extern.BytealgIndexByte.indexByte) (by kernel_rfl), Lib.run_indexByteString]
  simp only [Result.andThen]
  rw [Oper.upon_value]
  go_wp2
  go_ret
  exact ⟨rfl, rfl⟩

set_option maxHeartbeats 400000 in
theorem index_any (s : ByteArray) (c : Int) (w : World) :
    Calls Tryz.prog 163 #[.string s, .int .u8 c] w fun e w' => e = .returned (.int .i64 (Lib.indexByte s.data.toList c.toNat.toUInt8)) ∧ w = w' := by
  go_enter Tryz.func163, Tryz.ntmps163
  go_wp2_with (go_at_call 170; refine (liteIndex_any _ _ _).mono ?_; rintro e w' ⟨rfl, rfl⟩)
  go_ret
  exact ⟨rfl, rfl⟩

/-- What a closure of the package tells, in every world in which all that lay lies as it was. -/
def Tells (g : Nat) (lb : Array Value) (p : UInt8 → Bool) (w : World) : Prop :=
  ∀ (W : World) (x : UInt8), Below w.heap.size w W → Calls Tryz.prog g (#[.int .u8 (x.toNat : Int)] ++ lb) W fun e w' => e = .returned (.bool (p x)) ∧ W = w'

set_option maxHeartbeats 400000 in
theorem none_any (x : UInt8) (w : World) :
    Calls Tryz.prog 130 #[.int .u8 (x.toNat : Int)] w fun e w' => e = .returned (.bool false) ∧ w = w' := by
  go_enter Tryz.func130, Tryz.ntmps130
  go_wp2
  go_ret
  exact ⟨rfl, rfl⟩

theorem base_int (x : UInt8) : baseB x = (decide ((x.toNat : Int) ≤ 31) || decide (127 ≤ (x.toNat : Int))) := by
  unfold baseB
  rw [Bool.eq_iff_iff]
  simp
  omega

set_option maxHeartbeats 400000 in
theorem base_any (x : UInt8) (w : World) :
    Calls Tryz.prog 159 #[.int .u8 (x.toNat : Int)] w fun e w' => e = .returned (.bool (baseB x)) ∧ w = w' := by
  have hb := Lib.hid (base_int x)
  cases h1 : decide ((x.toNat : Int) ≤ 31)
  · cases h2 : decide (127 ≤ (x.toNat : Int))
    all_goals
      have hv := Lib.hid (show baseB x = (false || _) by rw [hb.out, h1, h2])
      go_enter Tryz.func159, Tryz.ntmps159
      go_wp2
      go_ret
      exact ⟨by rw [hv.out]; rfl, rfl⟩
  · have hv := Lib.hid (show baseB x = true by rw [hb.out, h1]; rfl)
    go_enter Tryz.func159, Tryz.ntmps159
    go_wp2
    go_ret
    exact ⟨by rw [hv.out]; rfl, rfl⟩

set_option maxHeartbeats 800000 in
theorem with1_any (g : Nat) (lb : Array Value) (eg : ∀ args w, (callFunc g args).run Tryz.prog w = .ok (.enter g args) w) (b : Bool) (more : ByteArray) (l : List UInt8) (hl : Hid (more.data.toList = l)) (p q : Addr) (x : UInt8) (w : World)
    (hp : w.cell? p = some (.func (.func g) #[] lb)) (hq : w.cell? q = some (.string more))
    (hcall : Calls Tryz.prog g (#[.int .u8 (x.toNat : Int)] ++ lb) w fun e w' => e = .returned (.bool b) ∧ w = w') :
    Calls Tryz.prog 188 #[.int .u8 (x.toNat : Int), .pointer (some p), .pointer (some q)] w fun e w' => e = .returned (.bool (b || l.contains x)) ∧ w = w' := by
  cases b
  · have hv := Lib.hid (show decide (0 ≤ Lib.indexByte more.data.toList x) = (false || l.contains x) by rw [idx_mem, hl.out, Bool.false_or])
    go_enter Tryz.func188, Tryz.ntmps188
    go_wp2_with (first | (go_at_fn g; refine hcall.mono ?_; rintro e w' ⟨rfl, rfl⟩) | (go_at_call 163; refine (index_any _ _ _).mono ?_; rintro e w' ⟨rfl, rfl⟩))
    go_ret
    exact ⟨by rw [← hv.out]; rfl, rfl⟩
  · go_enter Tryz.func188, Tryz.ntmps188
    go_wp2_with (first | (go_at_fn g; refine hcall.mono ?_; rintro e w' ⟨rfl, rfl⟩) | (go_at_call 163; refine (index_any _ _ _).mono ?_; rintro e w' ⟨rfl, rfl⟩))
    go_ret
    exact ⟨rfl, rfl⟩

set_option maxHeartbeats 400000 in
theorem with_any (g : Nat) (lb : Array Value) (more : ByteArray) (w : World) :
    Calls Tryz.prog 160 #[.func (.func g) #[] lb, .string more] w fun e w' => e = .returned (.func (.func 188) #[] #[.pointer (some ⟨w.heap.size, 0, none⟩), .pointer (some ⟨w.heap.size + 1, 0, none⟩)]) ∧ (w.alloc (.cells #[.func (.func g) #[] lb] 77)).alloc (.cells #[.string more] 9) = w' := by
  go_enter Tryz.func160, Tryz.ntmps160
  go_wp2
  go_ret
  exact ⟨rfl, rfl⟩

/-- The closure of with, bound to two boxes. -/
def cl (n : Nat) : Value := .func (.func 188) #[] #[.pointer (some ⟨n, 0, none⟩), .pointer (some ⟨n + 1, 0, none⟩)]

/-- The boxes of the sets, from a block on. -/
def SetsAt (n : Nat) (W : World) : Prop :=
  n + 9 < W.heap.size ∧ W.cell? ⟨n + 2, 0, none⟩ = some (.func (.func 159) #[] #[]) ∧ W.cell? ⟨n + 3, 0, none⟩ = some (.string ⟨#[32, 34, 60, 62, 96]⟩) ∧
  W.cell? ⟨n + 4, 0, none⟩ = some (.func (.func 159) #[] #[]) ∧ W.cell? ⟨n + 5, 0, none⟩ = some (.string ⟨#[32, 34, 35, 39, 60, 62]⟩) ∧
  W.cell? ⟨n + 6, 0, none⟩ = some (cl (n + 4)) ∧ W.cell? ⟨n + 7, 0, none⟩ = some (.string ⟨#[63, 94, 96, 123, 125]⟩) ∧
  W.cell? ⟨n + 8, 0, none⟩ = some (cl (n + 6)) ∧ W.cell? ⟨n + 9, 0, none⟩ = some (.string ⟨#[47, 58, 59, 61, 64, 91, 92, 93, 124]⟩)

def aggOf (n : Nat) : Value := .agg #[.func (.func 159) #[] #[], cl (n + 2), cl (n + 4), cl (n + 6), cl (n + 8)]

theorem SetsAt.later {n : Nat} {W W' : World} (h : SetsAt n W) (hb : Below W.heap.size W W') : SetsAt n W' := by
  obtain ⟨h0, h1, h2, h3, h4, h5, h6, h7, h8⟩ := h
  have key : ∀ k v, k ≤ 9 → W.cell? ⟨n + k, 0, none⟩ = some v → W'.cell? ⟨n + k, 0, none⟩ = some v := fun k v hk hc => (hb.cell (p := ⟨n + k, 0, none⟩) (show n + k < W.heap.size by omega)).trans hc
  exact ⟨Nat.lt_of_lt_of_le h0 hb.size, key 2 _ (by omega) h1, key 3 _ (by omega) h2, key 4 _ (by omega) h3, key 5 _ (by omega) h4, key 6 _ (by omega) h5, key 7 _ (by omega) h6, key 8 _ (by omega) h7, key 9 _ (by omega) h8⟩

set_option maxRecDepth 100000 in
set_option maxHeartbeats 2000000 in
theorem sets_any (w : World) :
    Calls Tryz.prog 129 #[] w fun e w' => e = .returned (aggOf w.heap.size) ∧ SetsAt w.heap.size w' ∧ Below w.heap.size w w' := by
  go_enter Tryz.func129, Tryz.ntmps129
  go_wp2_with (go_at_call 160; refine (with_any _ _ _ _).mono ?_; rintro e w' ⟨rfl, rfl⟩)
  refine bodyPost_ret (v := aggOf w.heap.size) (by simp [results, Tryz.results129, go_sem, aggOf, cl]) rfl ⟨rfl, ?_, ?_⟩
  · refine ⟨by simp, ?_, ?_, ?_, ?_, ?_, ?_, ?_, ?_⟩ <;> simp [go_sem, cl, Nat.add_assoc]
  · refine (((((((((Below.refl _ _).alloc (Nat.le_refl _) _).alloc ?_ _).alloc ?_ _).alloc ?_ _).alloc ?_ _).alloc ?_ _).alloc ?_ _).alloc ?_ _).alloc ?_ _ |>.alloc ?_ _ <;> (simp; try omega)




def Enters (g : Nat) : Prop := ∀ args w, (callFunc g args).run Tryz.prog w = .ok (.enter g args) w

/-- What member answers. -/
def MemberPost (set : Int) (w : World) (e : Ending) (w' : World) : Prop :=
  ∃ g lb, e = .returned (.func (.func g) #[] lb) ∧ Enters g ∧ Tells g lb (inB set) w' ∧ Below w.heap.size w w'

theorem tells_none (set : Int) (h : set < 0 ∨ 4 < set) (w : World) : Tells 130 #[] (inB set) w := by
  intro W x _
  have : inB set x = false := by
    unfold inB
    rw [if_neg (by omega), if_neg (by omega), if_neg (by omega), if_neg (by omega), if_neg (by omega)]
  rw [this]
  exact none_any x W

theorem tells_base (w : World) : Tells 159 #[] (inB 0) w := fun W x _ => base_any x W

theorem tells_in1 {n : Nat} {w : World} (h : SetsAt n w) : Tells 188 #[.pointer (some ⟨n + 2, 0, none⟩), .pointer (some ⟨n + 3, 0, none⟩)] (inB 1) w := by
  intro W x hb
  have hs := h.later hb
  exact with1_any 159 #[] (enters_of Tryz.func159 (by kernel_rfl) rfl) (baseB x) _ more1 (Lib.hid rfl) _ _ x W hs.2.1 hs.2.2.1 (base_any x W)

theorem tells_in2 {n : Nat} {w : World} (h : SetsAt n w) : Tells 188 #[.pointer (some ⟨n + 4, 0, none⟩), .pointer (some ⟨n + 5, 0, none⟩)] (inB 2) w := by
  intro W x hb
  have hs := h.later hb
  exact with1_any 159 #[] (enters_of Tryz.func159 (by kernel_rfl) rfl) (baseB x) _ more2 (Lib.hid rfl) _ _ x W hs.2.2.2.1 hs.2.2.2.2.1 (base_any x W)

theorem tells_in3 {n : Nat} {w : World} (h : SetsAt n w) : Tells 188 #[.pointer (some ⟨n + 6, 0, none⟩), .pointer (some ⟨n + 7, 0, none⟩)] (inB 3) w := by
  intro W x hb
  have hs := h.later hb
  exact with1_any 188 _ (enters_of Tryz.func188 (by kernel_rfl) rfl) (in2 x) _ more3 (Lib.hid rfl) _ _ x W hs.2.2.2.2.2.1 hs.2.2.2.2.2.2.1 (tells_in2 h W x hb)

theorem tells_in4 {n : Nat} {w : World} (h : SetsAt n w) : Tells 188 #[.pointer (some ⟨n + 8, 0, none⟩), .pointer (some ⟨n + 9, 0, none⟩)] (inB 4) w := by
  intro W x hb
  have hs := h.later hb
  exact with1_any 188 _ (enters_of Tryz.func188 (by kernel_rfl) rfl) (in3 x) _ more4 (Lib.hid rfl) _ _ x W hs.2.2.2.2.2.2.2.1 hs.2.2.2.2.2.2.2.2 (tells_in3 h W x hb)

set_option maxRecDepth 100000 in
set_option maxHeartbeats 2000000 in
theorem member_out (set : Int) (h : set < 0 ∨ 4 < set) (w : World) : Calls Tryz.prog 97 #[.int .i64 set] w (MemberPost set w) := by
  have ht := tells_none set h
  rcases h with h | h
  · have t1 : decide (set < 0) = true := by simpa using h
    go_enter Tryz.func97, Tryz.ntmps97
    go_wp2_with (go_at_call 129; refine (sets_any _).mono ?_; rintro e w1 ⟨rfl, hs, hB⟩; unfold aggOf cl)
    go_ret
    exact ⟨130, #[], rfl, enters_of Tryz.func130 (by kernel_rfl) rfl, ht _, hB.alloc hB.size _⟩
  · have t1 : decide (set < 0) = false := by simp; omega
    have t2 : decide (5 ≤ set) = true := by simp; omega
    go_enter Tryz.func97, Tryz.ntmps97
    go_wp2_with (go_at_call 129; refine (sets_any _).mono ?_; rintro e w1 ⟨rfl, hs, hB⟩; unfold aggOf cl)
    go_ret
    exact ⟨130, #[], rfl, enters_of Tryz.func130 (by kernel_rfl) rfl, ht _, hB.alloc hB.size _⟩

theorem SetsAt.alloc {n : Nat} {W : World} (h : SetsAt n W) (o : Obj) : SetsAt n (W.alloc o) := h.later ((Below.refl _ W).alloc (Nat.le_refl _) o)

set_option maxRecDepth 100000 in
set_option maxHeartbeats 2000000 in
theorem member_any (set : Int) (w : World) : Calls Tryz.prog 97 #[.int .i64 set] w (MemberPost set w) := by
  by_cases h : set < 0 ∨ 4 < set
  · exact member_out set h w
  · have h' : set = 0 ∨ set = 1 ∨ set = 2 ∨ set = 3 ∨ set = 4 := by omega
    clear h
    rcases h' with rfl | rfl | rfl | rfl | rfl
    all_goals
      go_enter Tryz.func97, Tryz.ntmps97
      go_wp2_with (go_at_call 129; refine (sets_any _).mono ?_; rintro e w1 ⟨rfl, hs, hB⟩; unfold aggOf cl)
      go_ret
      first
        | exact ⟨159, _, rfl, enters_of Tryz.func159 (by kernel_rfl) rfl, tells_base _, hB.alloc hB.size _⟩
        | exact ⟨188, _, rfl, enters_of Tryz.func188 (by kernel_rfl) rfl, tells_in1 (hs.alloc _), hB.alloc hB.size _⟩
        | exact ⟨188, _, rfl, enters_of Tryz.func188 (by kernel_rfl) rfl, tells_in2 (hs.alloc _), hB.alloc hB.size _⟩
        | exact ⟨188, _, rfl, enters_of Tryz.func188 (by kernel_rfl) rfl, tells_in3 (hs.alloc _), hB.alloc hB.size _⟩
        | exact ⟨188, _, rfl, enters_of Tryz.func188 (by kernel_rfl) rfl, tells_in4 (hs.alloc _), hB.alloc hB.size _⟩

/-- Is no byte in the set? -/
def readyB (set : Int) (l : List UInt8) : Bool := l.all fun c => !inB set c

theorem ready_snoc (set : Int) (s : ByteArray) (k : Nat) (h : k < s.size) (hp : readyB set (s.data.toList.take k) = true) (hd : inB set s[k] = false) : readyB set (s.data.toList.take (k + 1)) = true := by
  unfold readyB at *
  rw [Ascii.take_snoc s k h, List.all_append, hp]
  simp [hd]

theorem ready_not (set : Int) (s : ByteArray) (k : Nat) (h : k < s.size) (hd : inB set s[k] = true) : readyB set s.data.toList = false := by
  unfold readyB
  have hm : s[k] ∈ s.data.toList := List.getElem_mem (l := s.data.toList) (n := k) h
  rw [List.all_eq_false]
  exact ⟨s[k], hm, by simp [hd]⟩

theorem ready_all (set : Int) (s : ByteArray) (h : readyB set (s.data.toList.take s.size) = true) : readyB set s.data.toList = true := by
  rwa [List.take_of_length_le (by exact Nat.le_refl _)] at h

set_option maxHeartbeats 1000000 in
theorem ready_any (s : ByteArray) (hs : s.size ≤ maxLen) (set : Int) (w : World) :
    Calls Tryz.prog 82 #[.string s, .int .i64 set] w fun e w' => e = .returned (.bool (readyB set s.data.toList)) ∧ Below w.heap.size w w' := by
  unfold maxLen at hs
  go_enter Tryz.func82, Tryz.ntmps82
  go_wp2_with fail
  refine (member_any set w).mono ?_
  rintro e w1 ⟨g, lb, rfl, eg, ht, hB⟩
  unfold Enters at eg
  go_wp2
  go_loop [6, 11] (fun _ i => ∃ k : Nat, k ≤ s.size ∧ i = .int .i64 k ∧ Hid (readyB set (s.data.toList.take k) = true)) (fun _ i => s.size - (intOf i).toNat)
  case atStart => exact ⟨0, Nat.zero_le _, rfl, Lib.hid rfl⟩
  case round =>
    obtain ⟨k, hk, rfl, hp⟩ := hrel
    by_cases hlt : k < s.size
    · have hcall := ht w1 s[k] (Below.refl _ _)
      cases hd : inB set s[k]
      · rw [hd] at hcall
        have hn := Lib.hid (ready_snoc set s k hlt hp.out hd)
        clear hd
        go_wp2_with (go_at_fn g; refine hcall.mono ?_; rintro e w' ⟨rfl, rfl⟩)
        go_round
        case rel => exact ⟨k + 1, by omega, by go_num, hn⟩
        case measure => simp [intOf]; omega
      · rw [hd] at hcall
        have hn := Lib.hid (ready_not set s k hlt hd)
        clear hd
        go_wp2_with (go_at_fn g; refine hcall.mono ?_; rintro e w' ⟨rfl, rfl⟩)
        go_ret
        exact ⟨by rw [hn.out]; rfl, hB⟩
    · obtain rfl : k = s.size := by omega
      have hn := Lib.hid (ready_all set s hp.out)
      go_wp2
      go_ret
      exact ⟨by rw [hn.out]; rfl, hB⟩

theorem Tryz.infoByte : (Tryz.prog.info? 5).map (fun i => (i.zero, i.size, i.bytes)) = some (some (.int .u8 0), 1, 1) := by kernel_rfl

/-- What put answers. -/
def PutPost (base : Nat) (l news : List UInt8) (w : World) (e : Ending) (w' : World) : Prop :=
  ∃ v', e = .returned v' ∧ w'.ownsRow base 5 1 v' (l ++ news).length ((l ++ news).map Ascii.u8v) ∧ Below base w w'

theorem grown_below {W w2 : World} {base : Nat} {v : Value} {k : Nat} {xs : List Value} (hrow : W.ownsRow base 5 1 v k xs) (hb : base ≤ W.heap.size) (hgrow : W.grownBy w2 v.ownBlock) : Below base W w2 := by
  refine (Below.refl base W).grown hgrow hb fun j ej => ?_
  rcases hrow.2 with ⟨rfl, _⟩ | ⟨g, cap, cur, rfl, hb, _, _⟩
  · simp [Value.ownBlock] at ej
  · obtain rfl : g = j := by simpa [Value.ownBlock] using ej
    exact hb

set_option maxHeartbeats 1000000 in
theorem put_any (base : Nat) (v : Value) (l : List UInt8) (a : Addr) (m c : Nat) (news : List UInt8) (w : World) (hown : w.ownsRow base 5 1 v l.length (l.map Ascii.u8v)) (hm : news.length = m)
    (hnews : ∀ j u, (news.map Ascii.u8v)[j]? = some u → w.cell? (a.add j) = some u) (hlen : l.length + m ≤ 140737488355328) (hbase : base ≤ w.heap.size) :
    Calls Tryz.prog 98 #[v, .slice (some a) m c] w (PutPost base l news w) := by
  obtain ⟨i0, hi, hz0, hz1, hz2⟩ := info_parts Tryz.infoByte
  have h1 : ∀ u ∈ news.map Ascii.u8v, u.oneCell' = true := by
    intro u hu
    obtain ⟨x, _, rfl⟩ := List.mem_map.1 hu
    rfl
  have hN : (news.map Ascii.u8v).length = m * 1 := by simp [hm]
  have hL : l.length + m ≤ maxLen := by unfold maxLen; omega
  have hB : (l.length + m) * 1 ≤ 140737488355328 := by omega
  have HM := Lib.hid hm
  have HN := Lib.hid hN
  have HW := Lib.hid hnews
  have H1 := Lib.hid h1
  clear hm hN hnews h1
  go_enter Tryz.func98, Tryz.ntmps98
  go_wp2_with (at_builtin; refine wpList_append_own _ rfl _ _ 81 rfl base 5 i0 (.int .u8 0) 1 1 Tryz.underlying81 hi hz0 hz1 hz2 rfl (by decide) _ _ _ rfl hown a m c (news.map Ascii.u8v) rfl HN.out HW.out H1.out hL hB hbase ?_; intro v' w2 hown' hgrow _)
  go_ret
  exact ⟨_, rfl, by rw [List.length_append, List.map_append, HM.out]; exact hown', grown_below hown hbase hgrow⟩




/-- What a byte is worth to the base of 16, if it is worth something. -/
def hexN (c : UInt8) : Nat := (Ascii.hexI (c.toNat : Int)).toNat

def hexB (c : UInt8) : Bool := decide (0 ≤ Ascii.hexI (c.toNat : Int))

/-- The byte that is told at the beginning of a text by a percent sign. -/
def told : List UInt8 → Option UInt8
  | a :: b :: c :: _ => if a = 37 ∧ hexB b = true ∧ hexB c = true then some (UInt8.ofNat (16 * hexN b + hexN c)) else none
  | _ => none

def decode (l : List UInt8) : List UInt8 :=
  match l with
  | [] => []
  | a :: r => match told (a :: r) with
    | some x => x :: decode (r.drop 2)
    | none => a :: decode r
termination_by l.length
decreasing_by all_goals (simp; try omega)

theorem told_cons (a b c : UInt8) (r : List UInt8) : told (a :: b :: c :: r) = if a = 37 ∧ hexB b = true ∧ hexB c = true then some (UInt8.ofNat (16 * hexN b + hexN c)) else none := rfl

theorem decode_nil : decode [] = [] := by unfold decode; rfl

theorem decode_some {a : UInt8} {r : List UInt8} {x : UInt8} (h : told (a :: r) = some x) : decode (a :: r) = x :: decode (r.drop 2) := by
  rw [decode]; rw [h]

theorem decode_none {a : UInt8} {r : List UInt8} (h : told (a :: r) = none) : decode (a :: r) = a :: decode r := by
  rw [decode]; rw [h]

theorem hexI_le (c : Int) : -1 ≤ Ascii.hexI c ∧ Ascii.hexI c ≤ 15 := by unfold Ascii.hexI; split <;> (try split) <;> (try split) <;> omega

theorem hex_at (c : Int) (h0 : 0 ≤ c) (h1 : c ≤ 255) (w : World) : Calls Tryz.prog 224 #[.int .u8 c] w fun e w' => e = .returned (.int .i64 (Ascii.hexI c)) ∧ w' = w :=
  (Ascii.hex_any _ h0 h1 w).mono fun e w' h => ⟨h.1, h.2.symm⟩

theorem bits_or16 : ∀ a b : Fin 16, bits BinOp.or IntKind.i64 ((a.val : Int) * 16) (b.val : Int) % 256 = 16 * (a.val : Int) + b.val := by decide +kernel

theorem bits_or (a b : Int) (a0 : 0 ≤ a) (b0 : 0 ≤ b) (a1 : a ≤ 15) (b1 : b ≤ 15) : bits BinOp.or IntKind.i64 (a * 16) b % 256 = 16 * a + b := by
  obtain ⟨m, rfl⟩ := Int.eq_ofNat_of_zero_le a0
  obtain ⟨n, rfl⟩ := Int.eq_ofNat_of_zero_le b0
  exact bits_or16 ⟨m, by omega⟩ ⟨n, by omega⟩

theorem ofNat_toNat (n : Nat) (h : n ≤ 255) : (UInt8.ofNat n).toNat = n := by
  rw [UInt8.toNat_ofNat']; omega

theorem drop_text (s : ByteArray) (k : Nat) : (s.extract k s.size).data.toList = s.data.toList.drop k := by
  rw [ByteArray.data_extract, Array.toList_extract, List.extract_eq_take_drop, List.take_of_length_le]
  rw [List.length_drop]
  exact Nat.le_refl _

theorem drop_cons (s : ByteArray) (k : Nat) (h : k < s.size) : s.data.toList.drop k = s[k] :: s.data.toList.drop (k + 1) :=
  List.drop_eq_getElem_cons (l := s.data.toList) (i := k) h

theorem ne37 (x : UInt8) : ((x.toNat : Int) != 37) = !decide (x = 37) := by
  rw [Bool.eq_iff_iff]
  simp [UInt8.toNat_inj.symm, bne_iff_ne]
  omega

def restOf (v : Value) : Nat := match v with | .string r => r.size | _ => 0




def digitsL : List UInt8 := [48, 49, 50, 51, 52, 53, 54, 55, 56, 57, 65, 66, 67, 68, 69, 70]

def hexC (n : Nat) : UInt8 := digitsL.getD n 0

/-- What stands in place of a byte. -/
def enc1 (set : Int) (c : UInt8) : List UInt8 := if inB set c then [37, hexC (c.toNat / 16), hexC (c.toNat % 16)] else [c]

def encode (set : Int) (l : List UInt8) : List UInt8 := l.flatMap (enc1 set)

theorem enc1_len (set : Int) (c : UInt8) : (enc1 set c).length ≤ 3 := by unfold enc1; split <;> simp

theorem encode_len (set : Int) (l : List UInt8) : (encode set l).length ≤ 3 * l.length := by
  unfold encode
  induction l with
  | nil => simp
  | cons a l ih => have := enc1_len set a; simp at *; omega

theorem encode_snoc (set : Int) (l : List UInt8) (c : UInt8) : encode set (l ++ [c]) = encode set l ++ enc1 set c := by
  unfold encode; simp

/-- What put answers where three bytes lie in a new block. -/
def Put3Post (base : Nat) (l : List UInt8) (a b c : UInt8) (w : World) (e : Ending) (w' : World) : Prop :=
  ∃ v', e = .returned v' ∧ w'.ownsRow base 5 1 v' (l ++ [a, b, c]).length ((l ++ [a, b, c]).map Ascii.u8v) ∧ Below base w w'

theorem cell_three_new (w : World) (x y z : Value) (t : TypeId) : ∀ j u, [x, y, z][j]? = some u → (w.alloc (.cells #[x, y, z] t)).drew.cell? ((⟨w.heap.size, 0, none⟩ : Addr).add j) = some u := by
  intro j u hj
  have hlt : j < 3 := by
    have := (List.getElem?_eq_some_iff.1 hj).1
    simpa using this
  have e : (⟨w.heap.size, 0, none⟩ : Addr).add j = ⟨w.heap.size, j, none⟩ := by unfold Addr.add; split <;> simp_all
  rw [e]
  show (w.alloc (.cells #[x, y, z] t)).cell? ⟨w.heap.size, j, none⟩ = some u
  rw [World.cell?_alloc_at _ _ _ _ rfl]
  simpa using hj

theorem put3 (base : Nat) (v : Value) (l : List UInt8) (W : World) (b c : UInt8) (hown : W.ownsRow base 5 1 v l.length (l.map Ascii.u8v)) (hlen : l.length + 3 ≤ 140737488355328) (hbase : base ≤ W.heap.size) :
    Calls Tryz.prog 98 #[v, .slice (some ⟨W.heap.size, 0, none⟩) 3 3] (W.alloc (.cells #[.int .u8 37, .int .u8 (b.toNat : Int), .int .u8 (c.toNat : Int)] 5)).drew (Put3Post base l 37 b c W) := by
  have hrow : (W.alloc (.cells #[.int .u8 37, .int .u8 (b.toNat : Int), .int .u8 (c.toNat : Int)] 5)).drew.ownsRow base 5 1 v l.length (l.map Ascii.u8v) := hown.alloc _
  refine (put_any base v l ⟨W.heap.size, 0, none⟩ 3 3 [37, b, c] _ hrow rfl (cell_three_new W _ _ _ 5) hlen (by simp [World.drew]; omega)).mono ?_
  rintro e w' ⟨v', he, hr, hB⟩
  refine ⟨v', he, hr, ?_⟩
  have h1 : Below base W (W.alloc (.cells #[.int .u8 37, .int .u8 (b.toNat : Int), .int .u8 (c.toNat : Int)] 5)).drew := by
    have := (Below.refl base W).alloc hbase (.cells #[.int .u8 37, .int .u8 (b.toNat : Int), .int .u8 (c.toNat : Int)] 5)
    exact ⟨this.os, this.tape, this.output, this.size, this.block⟩
  exact h1.trans hB

theorem digits_at : ∀ n : Fin 16, (⟨#[48, 49, 50, 51, 52, 53, 54, 55, 56, 57, 65, 66, 67, 68, 69, 70]⟩ : ByteArray)[n.val]'(n.isLt) = hexC n.val := by decide +kernel

theorem bits_and256 : ∀ x : Fin 256, bits .and .u8 ((x.val : Nat) : Int) 15 = ((x.val % 16 : Nat) : Int) := by decide +kernel

theorem bits_and (x : UInt8) : bits .and .u8 (x.toNat : Int) 15 = ((x.toNat % 16 : Nat) : Int) := bits_and256 ⟨x.toNat, x.toNat_lt⟩

set_option maxRecDepth 100000 in
set_option maxHeartbeats 4000000 in
theorem encode_any (s : ByteArray) (hs : s.size ≤ 1000000) (set : Int) (w : World) :
    Calls Tryz.prog 67 #[.string s, .int .i64 set] w fun e w' => e = .returned (.string ⟨(encode set s.data.toList).toArray⟩) ∧ Below w.heap.size w w' := by
  obtain ⟨i0, hi, hz0, hz1, hz2⟩ := info_parts Tryz.infoByte
  go_enter Tryz.func67, Tryz.ntmps67
  go_wp2_with fail
  refine (member_any set w).mono ?_
  rintro e w1 ⟨g, lb, rfl, eg, ht, hB0⟩
  unfold Enters at eg
  go_wp2_with (at_make; refine wpList_make_own _ rfl _ _ 81 rfl w1.heap.size 5 i0 (.int .u8 0) 1 Tryz.underlying81 hi hz0 hz1 .i64 .i64 _ s.size rfl rfl rfl (by rw [hz2]; omega) (by unfold maxLen; omega) (Nat.le_refl _) ?_; intro w2 hown0 hg0)
  have hB1 : Below w1.heap.size w1 w2 := (Below.refl _ w1).grown hg0 (Nat.le_refl _) (fun j e => by cases e)
  go_loopw [6, 7, 8, 16] (fun v _ _ i wr => ∃ k : Nat, k ≤ s.size ∧ i = .int .i64 k ∧ wr.ownsRow w1.heap.size 5 1 v (encode set (s.data.toList.take k)).length ((encode set (s.data.toList.take k)).map Ascii.u8v) ∧ Below w1.heap.size w1 wr) (fun _ _ _ i _ => s.size - (intOf i).toNat)
  case atStart => exact ⟨0, Nat.zero_le _, rfl, hown0, hB1⟩
  case round =>
    obtain ⟨k, hk, rfl, hrow, hB⟩ := hrel
    by_cases hlt : k < s.size
    · have hlen : (encode set (s.data.toList.take k)).length + 3 ≤ 140737488355328 := by
        have h1 := encode_len set (s.data.toList.take k)
        have h2 : (s.data.toList.take k).length ≤ k := List.length_take_le _ _
        omega
      obtain ⟨x, hx⟩ : ∃ x, x = s[k] := ⟨_, rfl⟩
      have hcall := ht wr s[k] hB
      have hnext := Lib.hid (show encode set (s.data.toList.take (k + 1)) = encode set (s.data.toList.take k) ++ enc1 set s[k] by rw [Ascii.take_snoc s k hlt, encode_snoc])
      generalize encode set (s.data.toList.take k) = l at hrow hnext hlen
      cases hd : inB set s[k]
      · rw [hd] at hcall
        have henc := Lib.hid (show enc1 set s[k] = [s[k]] by unfold enc1; rw [hd]; rfl)
        clear hd hx
        go_wp2_with (first | (go_at_fn g; refine hcall.mono ?_; rintro e w' ⟨rfl, rfl⟩) | (go_at_call 98; refine (put_any w1.heap.size _ l ⟨wr.heap.size, 0, none⟩ 1 1 [s[k]] _ (hrow.alloc _) rfl (cell_one_new _ _ _) (by omega) (by have := hB.size; simp; omega)).mono ?_; rintro e w3 ⟨v', rfl, hrow3, hB3⟩))
        go_roundw
        case rel => exact ⟨k + 1, by omega, by go_num, by rw [hnext.out, henc.out]; exact hrow3, (hB.alloc hB.size _).trans hB3⟩
        case measure => simp [intOf]; omega
      · rw [hd] at hcall
        have henc := Lib.hid (show enc1 set s[k] = [37, hexC (s[k].toNat / 16), hexC (s[k].toNat % 16)] by unfold enc1; rw [hd]; rfl)
        clear hd hx
        go_wp2_with ((go_at_fn g; refine hcall.mono ?_; rintro e w' ⟨rfl, rfl⟩))
        have hx255 := s[k].toNat_lt
        generalize s[k] = y at *
        obtain ⟨lo, hlo⟩ : ∃ n : Nat, n = y.toNat % 16 := ⟨_, rfl⟩
        obtain ⟨up, hup⟩ : ∃ n : Nat, n = y.toNat / 16 := ⟨_, rfl⟩
        have l16 : lo < 16 := by omega
        have u16 : up < 16 := by omega
        have l16i : (lo : Int) < 16 := by omega
        have u16i : (up : Int) < 16 := by omega
        have eand : bits .and .u8 (y.toNat : Int) 15 = (lo : Int) := by rw [hlo]; exact bits_and y
        have eshr : (y.toNat : Int) / 16 = (up : Int) := by omega
        have HLO := Lib.hid hlo
        have HUP := Lib.hid hup
        clear hlo hup
        go_region_with (go_at_call 98; refine (put3 w1.heap.size _ l wr _ _ hrow (by omega) hB.size).mono ?_; rintro e w3 ⟨v', rfl, hrow3, hB3⟩)
        all_goals
          go_wp2
          go_roundw
          case rel => exact ⟨k + 1, by omega, by go_num, by rw [hnext.out, henc.out, ← HLO.out, ← HUP.out, ← digits_at ⟨up, u16⟩, ← digits_at ⟨lo, l16⟩]; exact hrow3, hB.trans hB3⟩
          case measure => simp [intOf]; omega
    · obtain rfl : k = s.size := by omega
      have hend := Lib.hid (show encode set (s.data.toList.take s.size) = encode set s.data.toList by rw [List.take_of_length_le (by exact Nat.le_refl _)])
      have hcv := Ascii.conv_owned hrow
      go_wp2
      go_ret
      exact ⟨by rw [← hend.out]; rfl, hB0.trans (hB.mono hB0.size)⟩




theorem all256 {p : UInt8 → Prop} (h : ∀ x : Fin 256, p (UInt8.ofNat x.val)) (x : UInt8) : p x := by
  have := h ⟨x.toNat, x.toNat_lt⟩
  rwa [show UInt8.ofNat x.toNat = x from UInt8.ofNat_toNat] at this

theorem inB_of (set : Int) (x : UInt8) (h0 : baseB x = false) (h1 : in1 x = false) (h2 : in2 x = false) (h3 : in3 x = false) (h4 : in4 x = false) : inB set x = false := by
  unfold inB
  split
  · exact h0
  · split
    · exact h1
    · split
      · exact h2
      · split
        · exact h3
        · split
          · exact h4
          · rfl

theorem free37 (set : Int) : inB set 37 = false := inB_of set 37 rfl rfl rfl rfl rfl

theorem hex_free256 : ∀ x : Fin 256, hexB (UInt8.ofNat x.val) = true → baseB (UInt8.ofNat x.val) = false ∧ in1 (UInt8.ofNat x.val) = false ∧ in2 (UInt8.ofNat x.val) = false ∧ in3 (UInt8.ofNat x.val) = false ∧ in4 (UInt8.ofNat x.val) = false := by decide +kernel

theorem hex_free (set : Int) (x : UInt8) (h : hexB x = true) : inB set x = false := by
  obtain ⟨h0, h1, h2, h3, h4⟩ := all256 (p := fun x => hexB x = true → baseB x = false ∧ in1 x = false ∧ in2 x = false ∧ in3 x = false ∧ in4 x = false) hex_free256 x h
  exact inB_of set x h0 h1 h2 h3 h4

theorem hexC_16 : ∀ n : Fin 16, hexB (hexC n.val) = true ∧ hexN (hexC n.val) = n.val := by decide +kernel

theorem hexC_ok (n : Nat) (h : n < 16) : hexB (hexC n) = true ∧ hexN (hexC n) = n := hexC_16 ⟨n, h⟩

theorem hexB37 : hexB 37 = false := by decide +kernel

theorem enc1_in {set : Int} {x : UInt8} (h : inB set x = true) : enc1 set x = [37, hexC (x.toNat / 16), hexC (x.toNat % 16)] := by unfold enc1; rw [h]; rfl

theorem enc1_out {set : Int} {x : UInt8} (h : inB set x = false) : enc1 set x = [x] := by unfold enc1; rw [h]; rfl

theorem encode_nil (set : Int) : encode set [] = [] := rfl

theorem encode_cons (set : Int) (a : UInt8) (r : List UInt8) : encode set (a :: r) = enc1 set a ++ encode set r := by unfold encode; simp

theorem encode_append (set : Int) (a b : List UInt8) : encode set (a ++ b) = encode set a ++ encode set b := by unfold encode; simp

theorem div16 (x : UInt8) : x.toNat / 16 < 16 ∧ x.toNat % 16 < 16 := by have := x.toNat_lt; omega

theorem ready_cons (set : Int) (a : UInt8) (r : List UInt8) : readyB set (a :: r) = (!inB set a && readyB set r) := rfl

theorem ready_append (set : Int) (a b : List UInt8) : readyB set (a ++ b) = (readyB set a && readyB set b) := by unfold readyB; rw [List.all_append]

theorem ready_enc1 (set : Int) (x : UInt8) : readyB set (enc1 set x) = true := by
  cases h : inB set x
  · rw [enc1_out h, ready_cons, h]; rfl
  · rw [enc1_in h, ready_cons, ready_cons, ready_cons, free37, hex_free set _ (hexC_ok _ (div16 x).1).1, hex_free set _ (hexC_ok _ (div16 x).2).1]; rfl

theorem ready_encode (set : Int) (l : List UInt8) : readyB set (encode set l) = true := by
  induction l with
  | nil => rfl
  | cons a r ih => rw [encode_cons, ready_append, ready_enc1, ih]; rfl

theorem encode_ready (set : Int) (l : List UInt8) (h : readyB set l = true) : encode set l = l := by
  induction l with
  | nil => rfl
  | cons a r ih =>
    rw [ready_cons] at h
    have h1 : inB set a = false := by cases e : inB set a <;> simp_all
    rw [encode_cons, enc1_out h1, ih (by simp_all)]
    rfl

theorem enc1_ge (set : Int) (x : UInt8) : 1 ≤ (enc1 set x).length := by cases h : inB set x <;> simp [enc1_in, enc1_out, h]

theorem encode_ge (set : Int) (l : List UInt8) : l.length ≤ (encode set l).length := by
  induction l with
  | nil => simp
  | cons a r ih => rw [encode_cons, List.length_append, List.length_cons]; have := enc1_ge set a; omega

theorem encode_gt (set : Int) (l : List UInt8) (h : readyB set l = false) : l.length < (encode set l).length := by
  induction l with
  | nil => cases h
  | cons a r ih =>
    rw [encode_cons, List.length_append, List.length_cons]
    rw [ready_cons] at h
    cases e : inB set a
    · have := ih (by simp_all)
      rw [enc1_out e]; simp; omega
    · have := encode_ge set r
      rw [enc1_in e]; simp; omega

theorem ready_iff (set : Int) (l : List UInt8) : readyB set l = (encode set l == l) := by
  cases h : readyB set l
  · have := encode_gt set l h
    symm
    rw [beq_eq_false_iff_ne]
    intro e
    rw [e] at this
    omega
  · rw [encode_ready set l h]; simp

theorem told_other {a : UInt8} (h : a ≠ 37) (r : List UInt8) : told (a :: r) = none := by
  match r with
  | [] => rfl
  | [_] => rfl
  | b :: c :: t => rw [told_cons, if_neg (fun h' => h h'.1)]

theorem told_enc (x : UInt8) (r : List UInt8) : told (37 :: hexC (x.toNat / 16) :: hexC (x.toNat % 16) :: r) = some x := by
  obtain ⟨h1, h2⟩ := hexC_ok _ (div16 x).1
  obtain ⟨h3, h4⟩ := hexC_ok _ (div16 x).2
  rw [told_cons, if_pos ⟨rfl, h1, h3⟩, h2, h4, show 16 * (x.toNat / 16) + x.toNat % 16 = x.toNat by omega]
  exact congrArg some UInt8.ofNat_toNat

theorem decode_other {a : UInt8} (h : a ≠ 37) (r : List UInt8) : decode (a :: r) = a :: decode r := decode_none (told_other h r)

theorem decode_enc (x : UInt8) (r : List UInt8) : decode (37 :: hexC (x.toNat / 16) :: hexC (x.toNat % 16) :: r) = x :: decode r := by
  rw [decode_some (told_enc x r)]; rfl

theorem in_ne37 {set : Int} {x : UInt8} (h : inB set x = true) : x ≠ 37 := by
  intro e; subst e; rw [free37] at h; cases h

/-- The first byte of what is encoded, if it is a digit to the base of 16, is the text's own. -/
theorem encode_first {set : Int} {r : List UInt8} {b : UInt8} {t : List UInt8} (h : encode set r = b :: t) (hb : hexB b = true) : ∃ r', r = b :: r' ∧ encode set r' = t := by
  cases r with
  | nil => cases h
  | cons a r =>
    rw [encode_cons] at h
    cases e : inB set a
    · rw [enc1_out e] at h
      simp at h
      exact ⟨r, by rw [h.1], h.2⟩
    · rw [enc1_in e] at h
      simp at h
      rw [← h.1, hexB37] at hb
      cases hb

theorem decode_encode (set : Int) : ∀ (n : Nat) (l : List UInt8), l.length ≤ n → decode (encode set l) = decode l
  | 0, l, h => by
    obtain rfl : l = [] := List.length_eq_zero_iff.1 (by omega)
    rfl
  | n + 1, [], _ => rfl
  | n + 1, a :: r, h => by
    have hr : r.length ≤ n := by simpa using h
    cases e : inB set a
    · rw [encode_cons, enc1_out e]
      show decode (a :: encode set r) = _
      by_cases h37 : a = 37
      · cases ht : told (a :: r) with
        | some x =>
          match r, ht with
          | b :: c :: t, ht =>
            rw [told_cons] at ht
            split at ht
            · rename_i hc
              have e1 : encode set (b :: c :: t) = b :: c :: encode set t := by
                rw [encode_cons, encode_cons, enc1_out (hex_free set b hc.2.1), enc1_out (hex_free set c hc.2.2)]; rfl
              have t1 : told (a :: b :: c :: encode set t) = some x := by rw [told_cons, if_pos hc]; exact ht
              have t2 : told (a :: b :: c :: t) = some x := by rw [told_cons, if_pos hc]; exact ht
              rw [e1, decode_some t1, decode_some t2]
              show x :: decode (encode set t) = x :: decode t
              rw [decode_encode set n t (by simp at hr; omega)]
            · cases ht
        | none =>
          have t1 : told (a :: encode set r) = none := by
            cases hq : told (a :: encode set r) with
            | none => rfl
            | some x =>
              exfalso
              match hE : encode set r, hq with
              | b :: c :: t, hq =>
                rw [told_cons] at hq
                split at hq
                · rename_i hc
                  obtain ⟨r1, rfl, h1⟩ := encode_first hE hc.2.1
                  obtain ⟨r2, rfl, h2⟩ := encode_first h1 hc.2.2
                  rw [told_cons, if_pos hc] at ht
                  cases ht
                · cases hq
          rw [decode_none t1, decode_none ht, decode_encode set n r hr]
      · rw [decode_other h37, decode_other h37, decode_encode set n r hr]
    · rw [encode_cons, enc1_in e, decode_other (in_ne37 e)]
      show decode (37 :: hexC (a.toNat / 16) :: hexC (a.toNat % 16) :: encode set r) = _
      rw [decode_enc, decode_encode set n r hr]

theorem decode_plain (l : List UInt8) (h : l.all (fun c => c != 37) = true) : decode l = l := by
  induction l with
  | nil => exact decode_nil
  | cons a r ih =>
    simp at h
    rw [decode_other h.1, ih (by simpa using h.2)]

theorem decode_len : ∀ (n : Nat) (l : List UInt8), l.length ≤ n → (decode l).length ≤ l.length
  | 0, l, h => by
    obtain rfl : l = [] := List.length_eq_zero_iff.1 (by omega)
    rw [decode_nil]; exact Nat.le_refl _
  | n + 1, [], _ => by rw [decode_nil]; exact Nat.le_refl _
  | n + 1, a :: r, h => by
    have hr : r.length ≤ n := by simpa using h
    cases ht : told (a :: r) with
    | some x =>
      have := decode_len n (r.drop 2) (by simp; omega)
      rw [decode_some ht]
      simp at this ⊢
      omega
    | none =>
      have := decode_len n r hr
      rw [decode_none ht]
      simp at this ⊢
      omega

/-- Does a text end by a percent sign, or by one and another byte? -/
def endsB : List UInt8 → Bool
  | [] => false
  | [a] => a == 37
  | [a, b] => a == 37 || b == 37
  | _ :: b :: c :: r => endsB (b :: c :: r)

theorem ends_tail (a : UInt8) (r : List UInt8) (h : endsB (a :: r) = false) : endsB r = false := by
  match r, h with
  | [], _ => rfl
  | [b], h => simp [endsB] at h ⊢; exact h.2
  | b :: c :: t, h => exact h

theorem decode_append : ∀ (n : Nat) (a b : List UInt8), a.length ≤ n → endsB a = false → decode (a ++ b) = decode a ++ decode b
  | 0, a, b, h, _ => by
    obtain rfl : a = [] := List.length_eq_zero_iff.1 (by omega)
    rw [decode_nil]; rfl
  | n + 1, [], b, _, _ => by rw [decode_nil]; rfl
  | n + 1, x :: r, b, h, he => by
    have hr : r.length ≤ n := by simpa using h
    by_cases h37 : x = 37
    · match r, he with
      | [], he => subst h37; cases he
      | [p], he => subst h37; simp [endsB] at he
      | p :: q :: t, he =>
        cases ht : told (x :: p :: q :: t) with
        | some y =>
          have ht' : told (x :: p :: q :: (t ++ b)) = some y := by rw [told_cons] at ht ⊢; exact ht
          have h2 := ends_tail q t (ends_tail p _ (ends_tail x _ he))
          have := decode_append n t b (by simp at hr; omega) h2
          rw [decode_some ht]
          show decode (x :: p :: q :: (t ++ b)) = _
          rw [decode_some ht']
          show y :: decode (t ++ b) = y :: (decode t ++ decode b)
          rw [this]
        | none =>
          have ht' : told (x :: p :: q :: (t ++ b)) = none := by rw [told_cons] at ht ⊢; exact ht
          rw [decode_none ht]
          show decode (x :: p :: q :: (t ++ b)) = _
          rw [decode_none ht']
          show x :: decode ((p :: q :: t) ++ b) = x :: (decode (p :: q :: t) ++ decode b)
          rw [decode_append n (p :: q :: t) b hr (ends_tail x _ he)]
    · rw [decode_other h37]
      show decode (x :: (r ++ b)) = x :: (decode r ++ decode b)
      rw [decode_other h37, decode_append n r b hr (ends_tail x r he)]




theorem calls_below {P : Program} {f : Nat} {args : Array Value} {w u : World} {E : Ending} (h : Calls P f args u fun e w' => e = E ∧ Below u.heap.size u w') (hB : Below w.heap.size w u) :
    Calls P f args u fun e w' => e = E ∧ Below w.heap.size w w' := h.mono fun _ _ ⟨he, hb⟩ => ⟨he, hB.trans (hb.mono hB.size)⟩

theorem ready_at (s : ByteArray) (hs : s.size ≤ maxLen) (set : Int) (b : Bool) (hb : readyB set s.data.toList = b) {w u : World} (hB : Below w.heap.size w u) :
    Calls Tryz.prog 82 #[.string s, .int .i64 set] u fun e w' => e = .returned (.bool b) ∧ Below w.heap.size w w' := by
  subst hb
  exact calls_below (ready_any s hs set u) hB

theorem encode_at (s : ByteArray) (hs : s.size ≤ 1000000) (set : Int) (x : ByteArray) (hx : (⟨(encode set s.data.toList).toArray⟩ : ByteArray) = x) {w u : World} (hB : Below w.heap.size w u) :
    Calls Tryz.prog 67 #[.string s, .int .i64 set] u fun e w' => e = .returned (.string x) ∧ Below w.heap.size w w' := by
  subst hx
  exact calls_below (encode_any s hs set u) hB

theorem ex_decode : decode [37, 50, 48, 37, 67, 51, 37, 65, 57] = [32, 195, 169] := by
  rw [decode_some (x := 32) (by decide +kernel)]
  show 32 :: decode [37, 67, 51, 37, 65, 57] = _
  rw [decode_some (x := 195) (by decide +kernel)]
  show 32 :: 195 :: decode [37, 65, 57] = _
  rw [decode_some (x := 169) (by decide +kernel)]
  show 32 :: 195 :: 169 :: decode [] = _
  rw [decode_nil]

theorem byte_of {a : Int} (h : (Lit.int .u8 a).wf = true) : ∃ x : UInt8, a = (x.toNat : Int) := by
  have hb := bounds_u8 h
  refine ⟨UInt8.ofNat a.toNat, ?_⟩
  rw [ofNat_toNat _ (by omega)]
  omega

/-- A slice of one byte as a text. -/
theorem one_conv (w : World) (x : UInt8) : (convert 81 9 (.slice (some ⟨w.heap.size, 0, none⟩) 1 1)).run Tryz.prog (w.alloc (.cells #[.int .u8 (x.toNat : Int)] 5)) = .ok (.string ⟨#[x]⟩) (w.alloc (.cells #[.int .u8 (x.toNat : Int)] 5)) := by
  refine run_convert_bytes_back (w.alloc (.cells #[.int .u8 (x.toNat : Int)] 5)) 81 9 5 ⟨w.heap.size, 0, none⟩ 1 [x] Tryz.underlying81 Tryz.underlying5 Tryz.underlying9 ?_
  intro j hj
  obtain rfl : j = 0 := by simp at hj; omega
  simp [Addr.add, World.cell?_alloc_new]

/-- Has a text no percent sign? -/
def plainB (l : List UInt8) : Bool := l.all fun c => c != 37

theorem plain_snoc (s : ByteArray) (k : Nat) (h : k < s.size) : plainB (s.data.toList.take (k + 1)) = (plainB (s.data.toList.take k) && (s[k] != 37)) := by
  unfold plainB
  rw [Ascii.take_snoc s k h, List.all_append]
  simp

theorem bne37 (x : UInt8) : ((x.toNat : Int) != 37) = (x != 37) := by
  rw [ne37, Bool.eq_iff_iff]
  simp

theorem eq37 (x : UInt8) : ((x.toNat : Int) == 37) = decide (x = 37) := by
  rw [Bool.eq_iff_iff]
  simp [UInt8.toNat_inj.symm]
  omega

theorem text_append (s t : ByteArray) : (s ++ t).data.toList = s.data.toList ++ t.data.toList := by
  rw [ByteArray.data_append, Array.toList_append]

theorem size_of (l : List UInt8) : (⟨l.toArray⟩ : ByteArray).size = l.length := rfl




theorem contains_snoc (s : ByteArray) (k : Nat) (h : k < s.size) (x : UInt8) (hp : (s.data.toList.take k).contains x = false) (hd : ((s[k].toNat : Int) == (x.toNat : Int)) = false) : (s.data.toList.take (k + 1)).contains x = false := by
  have hne : s[k] ≠ x := by
    intro e
    rw [e] at hd
    simp at hd
  rw [Ascii.take_snoc s k h]
  simp at hp ⊢
  exact ⟨hp, fun e => hne e.symm⟩

theorem contains_at (s : ByteArray) (k : Nat) (h : k < s.size) (x : UInt8) (hd : ((s[k].toNat : Int) == (x.toNat : Int)) = true) : s.data.toList.contains x = true := by
  have he : s[k] = x := by
    apply UInt8.toNat_inj.1
    have : (s[k].toNat : Int) = (x.toNat : Int) := by simpa using hd
    omega
  have hm : s[k] ∈ s.data.toList := List.getElem_mem (l := s.data.toList) (n := k) h
  rw [← he]
  simpa using hm

set_option maxHeartbeats 1000000 in
theorem refMember_any (s : ByteArray) (hs : s.size ≤ maxLen) (x : UInt8) (b : Bool) (hb : Hid (s.data.toList.contains x = b)) (w : World) :
    Calls Tryz.prog 135 #[.string s, .int .u8 (x.toNat : Int)] w fun e w' => e = .returned (.bool b) ∧ w = w' := by
  unfold maxLen at hs
  go_enter Tryz.func135, Tryz.ntmps135
  go_wp2
  go_loop [5] (fun i => ∃ k : Nat, k ≤ s.size ∧ i = .int .i64 k ∧ Hid ((s.data.toList.take k).contains x = false)) (fun i => s.size - (intOf i).toNat)
  case atStart => exact ⟨0, Nat.zero_le _, rfl, Lib.hid rfl⟩
  case round =>
    obtain ⟨k, hk, rfl, hp⟩ := hrel
    by_cases hlt : k < s.size
    · cases hd : ((s[k].toNat : Int) == (x.toNat : Int))
      · have hn := Lib.hid (contains_snoc s k hlt x hp.out hd)
        go_wp2
        go_round
        case rel => exact ⟨k + 1, by omega, by go_num, hn⟩
        case measure => simp [intOf]; omega
      · have hn := Lib.hid (hb.out.symm.trans (contains_at s k hlt x hd))
        go_wp2
        go_ret
        exact ⟨by rw [hn.out]; rfl, rfl⟩
    · obtain rfl : k = s.size := by omega
      have hn := Lib.hid (show b = false by have h1 := hp.out; rw [List.take_of_length_le (by exact Nat.le_refl _)] at h1; rw [← hb.out]; exact h1)
      go_wp2
      go_ret
      exact ⟨by rw [hn.out]; rfl, rfl⟩

theorem set_cases (set : Int) : (set < 0 ∨ 4 < set) ∨ set = 0 ∨ set = 1 ∨ set = 2 ∨ set = 3 ∨ set = 4 := by omega

theorem in0_eq (x : UInt8) (h : baseB x = false) : ([] : List UInt8).contains x = inB 0 x := by show false = baseB x; rw [h]

theorem in1_eq (x : UInt8) (h : baseB x = false) : more1.contains x = inB 1 x := by show _ = (baseB x || more1.contains x); rw [h]; rfl

theorem in2_eq (x : UInt8) (h : baseB x = false) : more2.contains x = inB 2 x := by show _ = (baseB x || more2.contains x); rw [h]; rfl

theorem in3_eq (x : UInt8) (h : baseB x = false) : (more2 ++ more3).contains x = inB 3 x := by
  show _ = (baseB x || more2.contains x || more3.contains x)
  rw [h, Bool.eq_iff_iff]
  simp

theorem in4_eq (x : UInt8) (h : baseB x = false) : (more2 ++ more3 ++ more4).contains x = inB 4 x := by
  show _ = (baseB x || more2.contains x || more3.contains x || more4.contains x)
  rw [h, Bool.eq_iff_iff]
  simp
  constructor
  · rintro (h | h | h)
    · exact .inl (.inl h)
    · exact .inl (.inr h)
    · exact .inr h
  · rintro ((h | h) | h)
    · exact .inl h
    · exact .inr (.inl h)
    · exact .inr (.inr h)

theorem in_base (set : Int) (x : UInt8) (h0 : 0 ≤ set) (h4 : set ≤ 4) (h : baseB x = true) : inB set x = true := by
  have : set = 0 ∨ set = 1 ∨ set = 2 ∨ set = 3 ∨ set = 4 := by omega
  rcases this with rfl | rfl | rfl | rfl | rfl
  · exact h
  · show (baseB x || _) = true; rw [h]; rfl
  · show (baseB x || _) = true; rw [h]; rfl
  · show (baseB x || _ || _) = true; rw [h]; rfl
  · show (baseB x || _ || _ || _) = true; rw [h]; rfl

theorem in_none (set : Int) (x : UInt8) (h : set < 0 ∨ 4 < set) : inB set x = false := by
  unfold inB
  rw [if_neg (by omega), if_neg (by omega), if_neg (by omega), if_neg (by omega), if_neg (by omega)]

set_option maxHeartbeats 2000000 in
theorem refIn_any (set : Int) (x : UInt8) (w : World) :
    Calls Tryz.prog 107 #[.int .i64 set, .int .u8 (x.toNat : Int)] w fun e w' => e = .returned (.bool (inB set x)) ∧ w = w' := by
  by_cases h : set < 0 ∨ 4 < set
  · have hv := Lib.hid (in_none set x h)
    rcases h with h | h
    · have t1 : decide (set < 0) = true := by simpa using h
      go_enter Tryz.func107, Tryz.ntmps107
      go_wp2
      go_ret
      exact ⟨by rw [hv.out]; rfl, rfl⟩
    · have t1 : decide (set < 0) = false := by simp; omega
      have t2 : decide (4 < set) = true := by simpa using h
      go_enter Tryz.func107, Tryz.ntmps107
      go_wp2
      go_ret
      exact ⟨by rw [hv.out]; rfl, rfl⟩
  · have t1 : decide (set < 0) = false := by simp; omega
    have t2 : decide (4 < set) = false := by simp; omega
    have hb := base_int x
    cases hx : baseB x
    · rw [hx] at hb
      have t3 : decide ((x.toNat : Int) ≤ 31) = false := (Bool.or_eq_false_iff.1 hb.symm).1
      have t4 : decide (127 ≤ (x.toNat : Int)) = false := (Bool.or_eq_false_iff.1 hb.symm).2
      clear hb
      have hs : set = 0 ∨ set = 1 ∨ set = 2 ∨ set = 3 ∨ set = 4 := by omega
      have HX := Lib.hid hx
      clear hx h t1 t2
      rcases hs with rfl | rfl | rfl | rfl | rfl
      · go_enter Tryz.func107, Tryz.ntmps107
        go_wp2_with (go_at_call 135; refine (refMember_any _ (by decide +kernel) x _ (Lib.hid (in0_eq x HX.out)) _).mono ?_; rintro e w' ⟨rfl, rfl⟩)
        go_ret
        exact ⟨rfl, rfl⟩
      · go_enter Tryz.func107, Tryz.ntmps107
        go_wp2_with (go_at_call 135; refine (refMember_any _ (by decide +kernel) x _ (Lib.hid (in1_eq x HX.out)) _).mono ?_; rintro e w' ⟨rfl, rfl⟩)
        go_ret
        exact ⟨rfl, rfl⟩
      · go_enter Tryz.func107, Tryz.ntmps107
        go_wp2_with (go_at_call 135; refine (refMember_any _ (by decide +kernel) x _ (Lib.hid (in2_eq x HX.out)) _).mono ?_; rintro e w' ⟨rfl, rfl⟩)
        go_ret
        exact ⟨rfl, rfl⟩
      · go_enter Tryz.func107, Tryz.ntmps107
        go_wp2_with (go_at_call 135; refine (refMember_any _ (by decide +kernel) x _ (Lib.hid (in3_eq x HX.out)) _).mono ?_; rintro e w' ⟨rfl, rfl⟩)
        go_ret
        exact ⟨rfl, rfl⟩
      · go_enter Tryz.func107, Tryz.ntmps107
        go_wp2_with (go_at_call 135; refine (refMember_any _ (by decide +kernel) x _ (Lib.hid (in4_eq x HX.out)) _).mono ?_; rintro e w' ⟨rfl, rfl⟩)
        go_ret
        exact ⟨rfl, rfl⟩
    · rw [hx] at hb
      have hv := Lib.hid (in_base set x (by omega) (by omega) hx)
      have hw : decide ((x.toNat : Int) ≤ 31) = true ∨ (decide ((x.toNat : Int) ≤ 31) = false ∧ decide (127 ≤ (x.toNat : Int)) = true) := by
        cases e : decide ((x.toNat : Int) ≤ 31)
        · right; rw [e] at hb; exact ⟨rfl, by simpa using hb.symm⟩
        · exact .inl rfl
      clear hb hx h
      rcases hw with t3 | ⟨t3, t4⟩
      all_goals
        go_enter Tryz.func107, Tryz.ntmps107
        go_wp2
        go_ret
        exact ⟨by rw [hv.out]; rfl, rfl⟩

set_option maxHeartbeats 1000000 in
theorem refReady_any (s : ByteArray) (hs : s.size ≤ maxLen) (set : Int) (w : World) :
    Calls Tryz.prog 79 #[.string s, .int .i64 set] w fun e w' => e = .returned (.bool (readyB set s.data.toList)) ∧ w = w' := by
  unfold maxLen at hs
  go_enter Tryz.func79, Tryz.ntmps79
  go_wp2
  go_loop [5, 6] (fun i _ => ∃ k : Nat, k ≤ s.size ∧ i = .int .i64 k ∧ Hid (readyB set (s.data.toList.take k) = true)) (fun i _ => s.size - (intOf i).toNat)
  case atStart => exact ⟨0, Nat.zero_le _, rfl, Lib.hid rfl⟩
  case round =>
    obtain ⟨k, hk, rfl, hp⟩ := hrel
    by_cases hlt : k < s.size
    · have hcall := refIn_any set s[k] w
      cases hd : inB set s[k]
      · rw [hd] at hcall
        have hn := Lib.hid (ready_snoc set s k hlt hp.out hd)
        clear hd
        go_wp2_with (go_at_call 107; refine hcall.mono ?_; rintro e w' ⟨rfl, rfl⟩)
        go_round
        case rel => exact ⟨k + 1, by omega, by go_num, hn⟩
        case measure => simp [intOf]; omega
      · rw [hd] at hcall
        have hn := Lib.hid (ready_not set s k hlt hd)
        clear hd
        go_wp2_with (go_at_call 107; refine hcall.mono ?_; rintro e w' ⟨rfl, rfl⟩)
        go_ret
        exact ⟨by rw [hn.out]; rfl, rfl⟩
    · obtain rfl : k = s.size := by omega
      have hn := Lib.hid (ready_all set s hp.out)
      go_wp2
      go_ret
      exact ⟨by rw [hn.out]; rfl, rfl⟩



theorem wrap_u8_16 : ∀ n : Fin 16, IntKind.u8.wrap (n.val : Int) = (n.val : Int) := by decide +kernel

theorem wrap_u8 (n : Nat) (h : n < 16) : IntKind.u8.wrap (n : Int) = (n : Int) := wrap_u8_16 ⟨n, h⟩

end Go.Proofs.YtlkikfdbjpjpaaaGreatDoor.Pct

/-
  member(set): the closure that tells a set; In(set, c); Ready(s, set).
-/
import Derived.Test.YtpbcienekjnelaaPSmall
namespace Go.Proofs.Ytpbcienekjnelaa.Pct
open Go.RowKit
set_option linter.unusedSimpArgs false
set_option linter.unusedVariables false

def Enters (g : Nat) : Prop := ∀ args w, (callFunc g args).run Try.prog w = .ok (.enter g args) w
/-- What member answers. -/
def MemberPost (set : Int) (w : World) (e : Ending) (w' : World) : Prop :=
  ∃ g lb, e = .returned (.func (.func g) #[] lb) ∧ Enters g ∧ Tells g lb (inB set) w' ∧ Below w.heap.size w w'

theorem tells_none (set : Int) (h : set < 0 ∨ 4 < set) (w : World) : Tells 25 #[] (inB set) w := by
  intro W x _
  have : inB set x = false := by
    unfold inB
    rw [if_neg (by omega), if_neg (by omega), if_neg (by omega), if_neg (by omega), if_neg (by omega)]
  rw [this]
  exact none_any x W
theorem tells_base (w : World) : Tells 28 #[] (inB 0) w := fun W x _ => base_any x W
theorem tells_in1 {n : Nat} {w : World} (h : SetsAt n w) : Tells 32 #[.pointer (some ⟨n + 2, 0, none⟩), .pointer (some ⟨n + 3, 0, none⟩)] (inB 1) w := by
  intro W x hb
  have hs := h.later hb
  exact with1_any 28 #[] (enters_of Try.func28 (by kernel_rfl) rfl) (baseB x) _ more1 (Lib.hid rfl) _ _ x W hs.2.1 hs.2.2.1 (base_any x W)
theorem tells_in2 {n : Nat} {w : World} (h : SetsAt n w) : Tells 32 #[.pointer (some ⟨n + 4, 0, none⟩), .pointer (some ⟨n + 5, 0, none⟩)] (inB 2) w := by
  intro W x hb
  have hs := h.later hb
  exact with1_any 28 #[] (enters_of Try.func28 (by kernel_rfl) rfl) (baseB x) _ more2 (Lib.hid rfl) _ _ x W hs.2.2.2.1 hs.2.2.2.2.1 (base_any x W)
theorem tells_in3 {n : Nat} {w : World} (h : SetsAt n w) : Tells 32 #[.pointer (some ⟨n + 6, 0, none⟩), .pointer (some ⟨n + 7, 0, none⟩)] (inB 3) w := by
  intro W x hb
  have hs := h.later hb
  exact with1_any 32 _ (enters_of Try.func32 (by kernel_rfl) rfl) (in2 x) _ more3 (Lib.hid rfl) _ _ x W hs.2.2.2.2.2.1 hs.2.2.2.2.2.2.1 (tells_in2 h W x hb)
theorem tells_in4 {n : Nat} {w : World} (h : SetsAt n w) : Tells 32 #[.pointer (some ⟨n + 8, 0, none⟩), .pointer (some ⟨n + 9, 0, none⟩)] (inB 4) w := by
  intro W x hb
  have hs := h.later hb
  exact with1_any 32 _ (enters_of Try.func32 (by kernel_rfl) rfl) (in3 x) _ more4 (Lib.hid rfl) _ _ x W hs.2.2.2.2.2.2.2.1 hs.2.2.2.2.2.2.2.2 (tells_in3 h W x hb)

set_option maxRecDepth 100000 in
set_option maxHeartbeats 2000000 in
theorem member_out (set : Int) (h : set < 0 ∨ 4 < set) (w : World) : Calls Try.prog 20 #[.int .i64 set] w (MemberPost set w) := by
  have ht := tells_none set h
  rcases h with h | h
  · have t1 : decide (set < 0) = true := by simpa using h
    go_enter Try.func20, Try.ntmps20
    go_wp2_with (go_at_call 24; refine (sets_any _).mono ?_; rintro e w1 ⟨rfl, hs, hB⟩; unfold aggOf cl)
    go_ret
    exact ⟨25, #[], rfl, enters_of Try.func25 (by kernel_rfl) rfl, ht _, hB.alloc hB.size _⟩
  · have t1 : decide (set < 0) = false := by simp; omega
    have t2 : decide (5 ≤ set) = true := by simp; omega
    go_enter Try.func20, Try.ntmps20
    go_wp2_with (go_at_call 24; refine (sets_any _).mono ?_; rintro e w1 ⟨rfl, hs, hB⟩; unfold aggOf cl)
    go_ret
    exact ⟨25, #[], rfl, enters_of Try.func25 (by kernel_rfl) rfl, ht _, hB.alloc hB.size _⟩

theorem SetsAt.alloc {n : Nat} {W : World} (h : SetsAt n W) (o : Obj) : SetsAt n (W.alloc o) := h.later ((Below.refl _ W).alloc (Nat.le_refl _) o)

set_option maxRecDepth 100000 in
set_option maxHeartbeats 2000000 in
theorem member_any (set : Int) (w : World) : Calls Try.prog 20 #[.int .i64 set] w (MemberPost set w) := by
  by_cases h : set < 0 ∨ 4 < set
  · exact member_out set h w
  · have h' : set = 0 ∨ set = 1 ∨ set = 2 ∨ set = 3 ∨ set = 4 := by omega
    clear h
    rcases h' with rfl | rfl | rfl | rfl | rfl
    all_goals
      go_enter Try.func20, Try.ntmps20
      go_wp2_with (go_at_call 24; refine (sets_any _).mono ?_; rintro e w1 ⟨rfl, hs, hB⟩; unfold aggOf cl)
      go_ret
      first
        | exact ⟨28, _, rfl, enters_of Try.func28 (by kernel_rfl) rfl, tells_base _, hB.alloc hB.size _⟩
        | exact ⟨32, _, rfl, enters_of Try.func32 (by kernel_rfl) rfl, tells_in1 (hs.alloc _), hB.alloc hB.size _⟩
        | exact ⟨32, _, rfl, enters_of Try.func32 (by kernel_rfl) rfl, tells_in2 (hs.alloc _), hB.alloc hB.size _⟩
        | exact ⟨32, _, rfl, enters_of Try.func32 (by kernel_rfl) rfl, tells_in3 (hs.alloc _), hB.alloc hB.size _⟩
        | exact ⟨32, _, rfl, enters_of Try.func32 (by kernel_rfl) rfl, tells_in4 (hs.alloc _), hB.alloc hB.size _⟩

set_option maxHeartbeats 800000 in
theorem in_any (set : Int) (x : UInt8) (w : World) :
    Calls Try.prog 13 #[.int .i64 set, .int .u8 (x.toNat : Int)] w fun e w' => e = .returned (.bool (inB set x)) ∧ Below w.heap.size w w' := by
  go_enter Try.func13, Try.ntmps13
  go_wp2_with fail
  refine (member_any set w).mono ?_
  rintro e w1 ⟨g, lb, rfl, eg, ht, hB⟩
  unfold Enters at eg
  have hcall := ht w1 x (Below.refl _ _)
  go_wp2_with (go_at_fn g; refine hcall.mono ?_; rintro e w' ⟨rfl, rfl⟩)
  go_ret
  exact ⟨rfl, hB⟩

/-- Is no byte in the set? -/
def readyB (set : Int) (l : List UInt8) : Bool := l.all fun c => !inB set c

theorem ready_snoc (set : Int) (s : ByteArray) (k : Nat) (h : k < s.size) (hp : readyB set (s.data.toList.take k) = true) (hd : inB set s[k] = false) : readyB set (s.data.toList.take (k + 1)) = true := by
  unfold readyB at *
  rw [Ascii.take_snoc s k h, List.all_append, hp]
  simp [hd]
theorem ready_not (set : Int) (s : ByteArray) (k : Nat) (h : k < s.size) (hd : inB set s[k] = true) : readyB set s.data.toList = false := by
  unfold readyB
  have hm : s[k] ∈ s.data.toList := List.getElem_mem (l := s.data.toList) (n := k) h
  rw [List.all_eq_false]
  exact ⟨s[k], hm, by simp [hd]⟩
theorem ready_all (set : Int) (s : ByteArray) (h : readyB set (s.data.toList.take s.size) = true) : readyB set s.data.toList = true := by
  rwa [List.take_of_length_le (by exact Nat.le_refl _)] at h

set_option maxHeartbeats 1000000 in
theorem ready_any (s : ByteArray) (hs : s.size ≤ maxLen) (set : Int) (w : World) :
    Calls Try.prog 18 #[.string s, .int .i64 set] w fun e w' => e = .returned (.bool (readyB set s.data.toList)) ∧ Below w.heap.size w w' := by
  unfold maxLen at hs
  go_enter Try.func18, Try.ntmps18
  go_wp2_with fail
  refine (member_any set w).mono ?_
  rintro e w1 ⟨g, lb, rfl, eg, ht, hB⟩
  unfold Enters at eg
  go_wp2
  go_loop [6, 11] (fun _ i => ∃ k : Nat, k ≤ s.size ∧ i = .int .i64 k ∧ Hid (readyB set (s.data.toList.take k) = true)) (fun _ i => s.size - (intOf i).toNat)
  case atStart => exact ⟨0, Nat.zero_le _, rfl, Lib.hid rfl⟩
  case round =>
    obtain ⟨k, hk, rfl, hp⟩ := hrel
    by_cases hlt : k < s.size
    · have hcall := ht w1 s[k] (Below.refl _ _)
      cases hd : inB set s[k]
      · rw [hd] at hcall
        have hn := Lib.hid (ready_snoc set s k hlt hp.out hd)
        clear hd
        go_wp2_with (go_at_fn g; refine hcall.mono ?_; rintro e w' ⟨rfl, rfl⟩)
        go_round
        case rel => exact ⟨k + 1, by omega, by go_num, hn⟩
        case measure => simp [intOf]; omega
      · rw [hd] at hcall
        have hn := Lib.hid (ready_not set s k hlt hd)
        clear hd
        go_wp2_with (go_at_fn g; refine hcall.mono ?_; rintro e w' ⟨rfl, rfl⟩)
        go_ret
        exact ⟨by rw [hn.out]; rfl, hB⟩
    · obtain rfl : k = s.size := by omega
      have hn := Lib.hid (ready_all set s hp.out)
      go_wp2
      go_ret
      exact ⟨by rw [hn.out]; rfl, hB⟩

theorem Try.infoByte : (Try.prog.info? 5).map (fun i => (i.zero, i.size, i.bytes)) = some (some (.int .u8 0), 1, 1) := by kernel_rfl

/-- What put answers. -/
def PutPost (base : Nat) (l news : List UInt8) (w : World) (e : Ending) (w' : World) : Prop :=
  ∃ v', e = .returned v' ∧ w'.ownsRow base 5 1 v' (l ++ news).length ((l ++ news).map Ascii.u8v) ∧ Below base w w'

theorem grown_below {W w2 : World} {base : Nat} {v : Value} {k : Nat} {xs : List Value} (hrow : W.ownsRow base 5 1 v k xs) (hb : base ≤ W.heap.size) (hgrow : W.grownBy w2 v.ownBlock) : Below base W w2 := by
  refine (Below.refl base W).grown hgrow hb fun j ej => ?_
  rcases hrow.2 with ⟨rfl, _⟩ | ⟨g, cap, cur, rfl, hb, _, _⟩
  · simp [Value.ownBlock] at ej
  · obtain rfl : g = j := by simpa [Value.ownBlock] using ej
    exact hb

set_option maxHeartbeats 1000000 in
theorem put_any (base : Nat) (v : Value) (l : List UInt8) (a : Addr) (m c : Nat) (news : List UInt8) (w : World) (hown : w.ownsRow base 5 1 v l.length (l.map Ascii.u8v)) (hm : news.length = m)
    (hnews : ∀ j u, (news.map Ascii.u8v)[j]? = some u → w.cell? (a.add j) = some u) (hlen : l.length + m ≤ 140737488355328) (hbase : base ≤ w.heap.size) :
    Calls Try.prog 21 #[v, .slice (some a) m c] w (PutPost base l news w) := by
  obtain ⟨i0, hi, hz0, hz1, hz2⟩ := info_parts Try.infoByte
  have h1 : ∀ u ∈ news.map Ascii.u8v, u.oneCell' = true := by
    intro u hu
    obtain ⟨x, _, rfl⟩ := List.mem_map.1 hu
    rfl
  have hN : (news.map Ascii.u8v).length = m * 1 := by simp [hm]
  have hL : l.length + m ≤ maxLen := by unfold maxLen; omega
  have hB : (l.length + m) * 1 ≤ 140737488355328 := by omega
  have HM := Lib.hid hm
  have HN := Lib.hid hN
  have HW := Lib.hid hnews
  have H1 := Lib.hid h1
  clear hm hN hnews h1
  go_enter Try.func21, Try.ntmps21
  go_wp2_with (at_builtin; refine wpList_append_own _ rfl _ _ 30 rfl base 5 i0 (.int .u8 0) 1 1 Try.underlying30 hi hz0 hz1 hz2 rfl (by decide) _ _ _ rfl hown a m c (news.map Ascii.u8v) rfl HN.out HW.out H1.out hL hB hbase ?_; intro v' w2 hown' hgrow _)
  go_ret
  exact ⟨_, rfl, by rw [List.length_append, List.map_append, HM.out]; exact hown', grown_below hown hbase hgrow⟩

end Go.Proofs.Ytpbcienekjnelaa.Pct

/-
  The document's functions of layer 9: find, Web, opaque, port, Tail, Scheme.
-/
import Derived.Test.YtlkikfdbjpjpaaaGreatDoorUrl
namespace Go.Proofs.YtlkikfdbjpjpaaaGreatDoor.Url
set_option linter.unusedSimpArgs false
set_option linter.unusedVariables false
set_option maxRecDepth 100000


open Go.RowKit Go.Shelf

set_option maxRecDepth 100000
/-! ### the document's find, Web, opaque -/
def findN (c : UInt8) (l : T) (k : Nat) : Nat := k + (bef c (l.drop k)).length

theorem find_le (c : UInt8) (l : T) (k : Nat) (hk : k ≤ l.length) : findN c l k ≤ l.length := by
  have := bef_len c (l.drop k)
  unfold findN
  rw [List.length_drop] at this
  omega

theorem refFind_any (s : ByteArray) (hs : s.size ≤ 1000000) (c : UInt8) (k : Nat) (hk : k ≤ s.size) (n : Nat) (hn : findN c s.data.toList k = n) (w : World) :
    Calls Tryz.prog 80 #[.string s, .int .u8 (c.toNat : Int), .int .i64 (k : Int)] w fun e w' => e = .returned (.int .i64 (n : Int)) ∧ w = w' := by
  have HN := Lib.hid hn
  have HSZ := Lib.hid (show s.data.toList.length = s.size from rfl)
  clear hn
  go_enter Tryz.func80, Tryz.ntmps80
  go_wp2
  go_loop [7] (fun i => ∃ j : Nat, j ≤ s.size ∧ i = .int .i64 j ∧ Hid (findN c s.data.toList j = n)) (fun i => s.size - (intOf i).toNat)
  case atStart => exact ⟨k, hk, rfl, HN⟩
  case round =>
    obtain ⟨j, hj, rfl, HJ⟩ := hrel
    by_cases hlt : j < s.size
    · have t1 : (j : Int) < s.size := by omega
      have e := Pct.drop_cons s j hlt
      by_cases hc : s[j] = c
      · have q : ((s[j].toNat : Int) == (c.toNat : Int)) = true := by rw [hc]; simp
        have hjn : j = n := by
          have := HJ.out
          unfold findN at this
          rw [e, hc, bef_hit] at this
          simpa using this
        clear HJ e hc
        subst hjn
        go_wp2
        go_ret
        exact ⟨rfl, rfl⟩
      · have q : ((s[j].toNat : Int) == (c.toNat : Int)) = false := beq_eq_false_iff_ne.2 (fun h => hc (UInt8.toNat_inj.1 (by omega)))
        have HJ1 := Lib.hid (show findN c s.data.toList (j + 1) = n by
          have := HJ.out
          unfold findN at this ⊢
          rw [e, bef_miss _ hc, List.length_cons] at this
          omega)
        clear HJ e hc
        go_wp2
        go_round
        case rel => exact ⟨j + 1, by omega, by go_num, HJ1⟩
        case measure => simp [intOf]; omega
    · obtain rfl : j = s.size := by omega
      have hjn : s.size = n := by
        have := HJ.out
        unfold findN at this
        rw [List.drop_of_length_le (by rw [HSZ.out]; exact Nat.le_refl _)] at this
        simpa [bef] using this
      clear HJ
      subst hjn
      go_wp2
      go_ret
      exact ⟨rfl, rfl⟩

theorem refWeb_any (s : ByteArray) (z : Int) (hz : webI s.data.toList = z) (w : World) : Calls Tryz.prog 51 #[.string s] w fun e w' => e = .returned (.int .i64 z) ∧ w = w' := by
  subst hz
  unfold webI
  by_cases h1 : s.data.toList = http
  · have q1 : (s.toList == [104, 116, 116, 112]) = true := by rw [Path.tl, h1]; rfl
    rw [if_pos h1]
    clear h1
    go_enter Tryz.func51, Tryz.ntmps51
    go_wp2
    go_ret
    exact ⟨rfl, rfl⟩
  · have q1 : (s.toList == [104, 116, 116, 112]) = false := by rw [Path.tl]; exact beq_eq_false_iff_ne.2 h1
    rw [if_neg h1]
    clear h1
    by_cases h2 : s.data.toList = https
    · have q2 : (s.toList == [104, 116, 116, 112, 115]) = true := by rw [Path.tl, h2]; rfl
      rw [if_pos h2]
      clear h2
      go_enter Tryz.func51, Tryz.ntmps51
      go_wp2
      go_ret
      exact ⟨rfl, rfl⟩
    · have q2 : (s.toList == [104, 116, 116, 112, 115]) = false := by rw [Path.tl]; exact beq_eq_false_iff_ne.2 h2
      rw [if_neg h2]
      clear h2
      go_enter Tryz.func51, Tryz.ntmps51
      go_wp2
      go_ret
      exact ⟨rfl, rfl⟩

theorem refOpq_any (s : ByteArray) (b : Bool) (hb : opB s.data.toList = b) (w : World) : Calls Tryz.prog 78 #[.string s] w fun e w' => e = .returned (.bool b) ∧ w = w' := by
  subst hb
  unfold opB about data blob
  rw [← Path.tl]
  cases q1 : (s.toList == [97, 98, 111, 117, 116]) <;> cases q2 : (s.toList == [100, 97, 116, 97]) <;> cases q3 : (s.toList == [98, 108, 111, 98])
  all_goals
    go_enter Tryz.func78, Tryz.ntmps78
    go_wp2
    go_ret
    exact ⟨rfl, rfl⟩
/-! ### a port -/

theorem find_bef (c : UInt8) (l : T) : findN c l 0 = (bef c l).length := by unfold findN; simp

theorem sch_no {l : T} (h : schB l = false) : schS l = [] ∧ schR l = [] := by unfold schS schR; rw [h]; exact ⟨rfl, rfl⟩

theorem sch_bad {l : T} (h : named (bef 58 l) = false) : schB l = false := by unfold schB; rw [h, Bool.and_false]

theorem named_bad {p : T} {c : UInt8} (hc : c ∈ p) (hn : nameB c = false) : named p = false := by
  cases e : named p
  · rfl
  · rw [(named_iff p).1 e |>.1 c hc] at hn; cases hn

theorem refLower_at (s : ByteArray) (hs : s.size ≤ 30000) (x : ByteArray) (hx : tb (Ascii.lower s.data.toList) = x) (w : World) : Calls Tryz.prog 136 #[.string s] w fun e w' => e = .returned (.string x) ∧ Below w.heap.size w w' := by
  subst hx
  exact Ascii.refLower_any s hs w

end Go.Proofs.YtlkikfdbjpjpaaaGreatDoor.Url

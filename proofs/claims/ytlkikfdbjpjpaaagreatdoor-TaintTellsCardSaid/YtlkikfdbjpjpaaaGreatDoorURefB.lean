/-
  The document's functions of layers 8 and 9: Dots, tails.
-/
import Derived.Test.YtlkikfdbjpjpaaaGreatDoorURefA
namespace Go.Proofs.YtlkikfdbjpjpaaaGreatDoor.Url
set_option linter.unusedSimpArgs false
set_option linter.unusedVariables false
set_option maxRecDepth 100000


open Go.RowKit Go.Shelf

set_option maxRecDepth 100000
theorem dot1_iff (m : T) : Path.rep m = [46] ↔ m = [46] ∨ m = [37, 50, 101] := by
  constructor
  · intro h
    rcases Path.rep_dot h with ⟨u, rfl, hu⟩ | ⟨u, rfl, hu⟩
    · rw [Path.rep_empty hu]; exact .inl rfl
    · rw [Path.rep_empty hu]; exact .inr rfl
  · rintro (rfl | rfl) <;> decide +kernel

theorem dot2_iff (m : T) : Path.rep m = [46, 46] ↔ m = [46, 46] ∨ m = [46, 37, 50, 101] ∨ m = [37, 50, 101, 46] ∨ m = [37, 50, 101, 37, 50, 101] := by
  constructor
  · intro h
    rcases Path.rep_dot h with ⟨u, rfl, hu⟩ | ⟨u, rfl, hu⟩ <;> rcases (dot1_iff u).1 hu with rfl | rfl <;> simp
  · rintro (rfl | rfl | rfl | rfl) <;> decide +kernel

theorem refDots_any (s : ByteArray) (hs : s.size ≤ 30000) (n : Nat) (hn : Path.dotsN s.data.toList = n) (w : World) :
    Calls Tryz.prog 108 #[.string s] w fun e w' => e = .returned (.int .i64 (n : Int)) ∧ Below w.heap.size w w' := by
  obtain ⟨L, hL⟩ : ∃ L, tb (Ascii.lower s.data.toList) = L := ⟨_, rfl⟩
  have HL := Lib.hid (fun u => refLower_at s hs L hL u)
  have hc := Path.dots_cases s.data.toList
  have hl : Path.low s.data.toList = L.toList := by rw [Path.tl, list_tb hL]; rfl
  rw [hn, hl, dot1_iff, dot2_iff] at hc
  clear hL hl hn
  go_enter Tryz.func108, Tryz.ntmps108
  go_wp2_with fail
  refine (HL.out _).mono ?_
  rintro e u1 ⟨rfl, hB1⟩
  clear HL
  rcases hc with ⟨rfl, h⟩ | ⟨rfl, h⟩ | ⟨rfl, h, h'⟩
  · rcases h with h | h
    · have q1 : (L.toList == [46]) = true := by rw [h]; rfl
      clear h
      go_wp2
      go_ret
      exact ⟨rfl, hB1⟩
    · have q1 : (L.toList == [46]) = false := by rw [h]; rfl
      have q2 : (L.toList == [37, 50, 101]) = true := by rw [h]; rfl
      clear h
      go_wp2
      go_ret
      exact ⟨rfl, hB1⟩
  · have q1 : (L.toList == [46]) = false := by rcases h with h | h | h | h <;> rw [h] <;> rfl
    have q2 : (L.toList == [37, 50, 101]) = false := by rcases h with h | h | h | h <;> rw [h] <;> rfl
    rcases h with h | h | h | h
    · have q3 : (L.toList == [46, 46]) = true := by rw [h]; rfl
      clear h
      go_wp2
      go_ret
      exact ⟨rfl, hB1⟩
    · have q3 : (L.toList == [46, 46]) = false := by rw [h]; rfl
      have q4 : (L.toList == [46, 37, 50, 101]) = true := by rw [h]; rfl
      clear h
      go_wp2
      go_ret
      exact ⟨rfl, hB1⟩
    · have q3 : (L.toList == [46, 46]) = false := by rw [h]; rfl
      have q4 : (L.toList == [46, 37, 50, 101]) = false := by rw [h]; rfl
      have q5 : (L.toList == [37, 50, 101, 46]) = true := by rw [h]; rfl
      clear h
      go_wp2
      go_ret
      exact ⟨rfl, hB1⟩
    · have q3 : (L.toList == [46, 46]) = false := by rw [h]; rfl
      have q4 : (L.toList == [46, 37, 50, 101]) = false := by rw [h]; rfl
      have q5 : (L.toList == [37, 50, 101, 46]) = false := by rw [h]; rfl
      have q6 : (L.toList == [37, 50, 101, 37, 50, 101]) = true := by rw [h]; rfl
      clear h
      go_wp2
      go_ret
      exact ⟨rfl, hB1⟩
  · have h : ¬ (L.toList = [46] ∨ L.toList = [37, 50, 101]) := fun e => h ((dot1_iff _).2 e)
    have h' : ¬ (L.toList = [46, 46] ∨ L.toList = [46, 37, 50, 101] ∨ L.toList = [37, 50, 101, 46] ∨ L.toList = [37, 50, 101, 37, 50, 101]) := fun e => h' ((dot2_iff _).2 e)
    simp only [not_or] at h h'
    have q1 : (L.toList == [46]) = false := beq_eq_false_iff_ne.2 h.1
    have q2 : (L.toList == [37, 50, 101]) = false := beq_eq_false_iff_ne.2 h.2
    have q3 : (L.toList == [46, 46]) = false := beq_eq_false_iff_ne.2 h'.1
    have q4 : (L.toList == [46, 37, 50, 101]) = false := beq_eq_false_iff_ne.2 h'.2.1
    have q5 : (L.toList == [37, 50, 101, 46]) = false := beq_eq_false_iff_ne.2 h'.2.2.1
    have q6 : (L.toList == [37, 50, 101, 37, 50, 101]) = false := beq_eq_false_iff_ne.2 h'.2.2.2
    clear h h'
    go_wp2
    go_ret
    exact ⟨rfl, hB1⟩
/-! ### tails, Same -/

theorem refReady_at (s : ByteArray) (hs : s.size ≤ 1000000) (set : Int) (b : Bool) (hb : Pct.readyB set s.data.toList = b) (w : World) : Calls Tryz.prog 79 #[.string s, .int .i64 set] w fun e w' => e = .returned (.bool b) ∧ w = w' := by
  subst hb
  exact Pct.refReady_any s (by unfold maxLen; omega) set w

theorem refTails_any (u : U) (pv : Value) (hf : Fit u) (b : Bool) (hb : tailB u = b) (w : World) :
    Calls Tryz.prog 77 #[.agg (cU u pv)] w fun e w' => e = .returned (.bool b) ∧ Below w.heap.size w w' := by
  have h8 := hf.h8
  have HB0 := Lib.hid (show Below w.heap.size w (w.alloc (.cells (cU u pv) 27)) from (Below.refl _ w).alloc (Nat.le_refl _) _)
  have HR := UrlAt.new w u pv
  have c17 := HR.cell 17
  rw [(cU_at u pv h8).2.2.2.2.2.2.2.1] at c17
  have c18 := HR.cell 18
  rw [(cU_at u pv h8).2.2.2.2.2.2.2.2.1] at c18
  have c19 := HR.cell 19
  rw [(cU_at u pv h8).2.2.2.2.2.2.2.2.2.1] at c19
  have c20 := HR.cell 20
  rw [(cU_at u pv h8).2.2.2.2.2.2.2.2.2.2] at c20
  obtain ⟨p, hp⟩ : ∃ p, Pct.readyB 2 u.qry = p := ⟨_, rfl⟩
  obtain ⟨q, hq⟩ : ∃ q, Pct.readyB 1 u.frg = q := ⟨_, rfl⟩
  have R1 := Lib.hid (fun x => refReady_at (tb u.qry) (by rw [tb_size]; exact hf.qry) 2 p hp x)
  have R2 := Lib.hid (fun x => refReady_at (tb u.frg) (by rw [tb_size]; exact hf.frg) 1 q hq x)
  unfold tailB at hb
  rw [hp, hq] at hb
  have e1 : (tb u.qry).toList.isEmpty = u.qry.isEmpty := by rw [Path.tl, tb_list]
  have e2 : (tb u.frg).toList.isEmpty = u.frg.isEmpty := by rw [Path.tl, tb_list]
  rw [← e1, ← e2] at hb
  generalize tb u.qry = Q at c17 R1 hb
  generalize tb u.frg = F at c18 R2 hb
  generalize u.hq = hq1 at c19 hb
  generalize u.hf = hf1 at c20 hb
  clear e1 e2 hp hq hf HR
  subst hb
  go_enter Tryz.func77, Tryz.ntmps77
  go_wp2_with fail
  generalize w.alloc (.cells (cU u pv) 27) = W at HB0 c17 c18 c19 c20 ⊢
  refine (R1.out _).mono ?_
  rintro e u1 ⟨rfl, rfl⟩
  go_wp2_with fail
  refine (R2.out _).mono ?_
  rintro e u1 ⟨rfl, rfl⟩
  cases p <;> cases q <;> cases hq1 <;> cases hf1 <;> cases q3 : Q.toList.isEmpty <;> cases q4 : F.toList.isEmpty
  all_goals
    go_wp2
    go_ret
    exact ⟨by simp only [q3, q4]; rfl, HB0.out⟩

end Go.Proofs.YtlkikfdbjpjpaaaGreatDoor.Url

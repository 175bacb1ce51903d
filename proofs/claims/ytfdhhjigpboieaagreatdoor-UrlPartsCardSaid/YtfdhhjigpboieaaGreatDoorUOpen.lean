/-
  An address among the arguments, opened.
-/
import Derived.Test.YtfdhhjigpboieaaGreatDoorHOpen
import Derived.Test.YtfdhhjigpboieaaGreatDoorUAwake
import Derived.SliceStrings
namespace Go.Proofs.YtfdhhjigpboieaaGreatDoor.Url
open Go.ChangeShapes Go.WideShapes Go.ChangeAt Go.RowKit
open Path (Strs)
set_option linter.unusedSimpArgs false
set_option linter.unusedVariables false
set_option maxRecDepth 100000
section
variable {H : Type} {enc : TypeId × Value → H} {W : World} {base : Nat} {sp : Nat → Bool} {held : Bool}
theorem open_one {v : Value} {x : DataW H × List MemPlace} {fuel : Nat} (hf : DataW.trod enc Tryz.prog W base sp held fuel 25 [v] = some x) : ∃ l, Strs W v l := by
  rcases open_strings Tryz.underlying25 Tryz.underlying9 (by kernel_rfl) hf with ⟨hcs, _⟩ | ⟨x, l, c, zs, hcs, _, hl, hm, hz, _, hcell, hwz⟩
  · simp at hcs
    subst hcs
    exact ⟨[], Strs.nil W⟩
  · simp at hcs
    subst hcs
    have hzl : l ≤ zs.length := by rw [hz]; split <;> omega
    have hll : ((zs.take l).map (·.data.toList)).length = l := by simp; omega
    refine ⟨(zs.take l).map (·.data.toList), some x, c, by rw [hll], by rw [hll]; exact hl, hm, (fun e => by cases e), fun hne => ?_⟩
    have hpos : 0 < zs.length := by
      rcases Nat.eq_zero_or_pos zs.length with h0 | h0
      · exact absurd (by rw [List.length_eq_zero_iff.1 h0]; simp) hne
      · exact h0
    obtain ⟨b, off, spot⟩ := x
    cases spot with
    | some q =>
      exfalso
      have := hcell 0 hpos
      simp only [Addr.add, if_true] at this
      rw [World.cell?] at this
      split at this <;> simp at this
    | none =>
      refine ⟨b, off, rfl, fun j hj => ?_⟩
      rw [hll] at hj
      have := hcell j (by omega)
      rw [add_plain] at this
      rw [this]
      simp [List.getD, show j < zs.length by omega, Path.tx_of]
theorem trod_host {fuel : Nat} {e0 e1 e2 c0 c1 c2 c3 c4 c5 c6 c7 : Value} {x : DataW H × List MemPlace} (hf : DataW.trod enc Tryz.prog W base sp held fuel 24 [e0, e1, e2, c0, c1, c2, c3, c4, c5, c6, c7] = some x) :
    ∃ h : Host.H, h.p.length = 8 ∧ [e0, e1, e2, c0, c1, c2, c3, c4, c5, c6, c7] = (.int .i64 h.k :: .string h.s :: .int .i64 h.n :: h.p.map (Value.int .i64)) := by
  obtain ⟨y0, y1, y2, y3, n, hx, _, h0, h1, h2, h3⟩ := Joins.trod_struct4 Tryz.underlying24 hf
  simp only [Value.cells, Six.cells3, Six.cells9, Six.cells22, List.drop, List.take] at h0 h1 h2 h3
  obtain ⟨k, q0, rfl, w0⟩ := DataW.trod_int Tryz.underlying3 h0
  obtain ⟨s, q1, rfl, w1⟩ := DataW.trod_string Tryz.underlying9 h1
  obtain ⟨m, q2, rfl, w2⟩ := DataW.trod_int Tryz.underlying3 h2
  obtain ⟨p, p8, q3, rfl, w3⟩ := Six.trod_row8 h3
  refine ⟨⟨k, s, m, p⟩, p8, ?_⟩
  simp only [List.cons.injEq, and_true] at q0 q1 q2
  rw [q0, q1, q2]
  show _ :: _ :: _ :: [c0, c1, c2, c3, c4, c5, c6, c7] = _
  rw [q3]
theorem cells27 : Tryz.prog.cellsOf 27 = 21 := by kernel_rfl
theorem cells25 : Tryz.prog.cellsOf 25 = 1 := by kernel_rfl
theorem cells4 : Tryz.prog.cellsOf 4 = 1 := by kernel_rfl
theorem open_url {r : Reach} {b0 : Nat} {v : Value} {d : DataW H} {ps : List MemPlace} (hval : Value.okWide Tryz.prog W r b0 27 v) (hd : DataW.Trod enc Tryz.prog W base sp held 27 v d ps) :
    ∃ (u : U) (pv : Value), u.h.p.length = 8 ∧ v = .agg (cU u pv) ∧ Strs W pv u.path ∧ (Lit.int .i64 u.port).wf = true := by
  obtain ⟨cs, rfl, hsz⟩ := okWide_struct Tryz.underlying27 hval
  rw [cells27] at hsz
  obtain ⟨l⟩ := cs
  match l, hsz with
  | [e0, e1, e2, e3, e4, e5, e6, e7, e8, e9, e10, e11, e12, e13, e14, e15, e16, e17, e18, e19, e20], _ =>
  obtain ⟨fuel, hf⟩ := hd
  obtain ⟨xs, n, _, hx, hl, hlen, hfs⟩ := DataW.trod_struct Tryz.underlying27 hf
  match xs, hlen with
  | [y0, y1, y2, y3, y4, y5, y6, y7, y8, y9, y10], _ =>
  have h0 : DataW.trod enc Tryz.prog W base sp held n 9 (List.take (Tryz.prog.cellsOf 9) (List.drop 0 [e0, e1, e2, e3, e4, e5, e6, e7, e8, e9, e10, e11, e12, e13, e14, e15, e16, e17, e18, e19, e20])) = some y0 := hfs 0 _ rfl
  have h1 : DataW.trod enc Tryz.prog W base sp held n 9 (List.take (Tryz.prog.cellsOf 9) (List.drop 1 [e0, e1, e2, e3, e4, e5, e6, e7, e8, e9, e10, e11, e12, e13, e14, e15, e16, e17, e18, e19, e20])) = some y1 := hfs 1 _ rfl
  have h2 : DataW.trod enc Tryz.prog W base sp held n 9 (List.take (Tryz.prog.cellsOf 9) (List.drop 2 [e0, e1, e2, e3, e4, e5, e6, e7, e8, e9, e10, e11, e12, e13, e14, e15, e16, e17, e18, e19, e20])) = some y2 := hfs 2 _ rfl
  have h3 : DataW.trod enc Tryz.prog W base sp held n 24 (List.take (Tryz.prog.cellsOf 24) (List.drop 3 [e0, e1, e2, e3, e4, e5, e6, e7, e8, e9, e10, e11, e12, e13, e14, e15, e16, e17, e18, e19, e20])) = some y3 := hfs 3 _ rfl
  have h4 : DataW.trod enc Tryz.prog W base sp held n 3 (List.take (Tryz.prog.cellsOf 3) (List.drop 14 [e0, e1, e2, e3, e4, e5, e6, e7, e8, e9, e10, e11, e12, e13, e14, e15, e16, e17, e18, e19, e20])) = some y4 := hfs 4 _ rfl
  have h5 : DataW.trod enc Tryz.prog W base sp held n 25 (List.take (Tryz.prog.cellsOf 25) (List.drop 15 [e0, e1, e2, e3, e4, e5, e6, e7, e8, e9, e10, e11, e12, e13, e14, e15, e16, e17, e18, e19, e20])) = some y5 := hfs 5 _ rfl
  have h6 : DataW.trod enc Tryz.prog W base sp held n 9 (List.take (Tryz.prog.cellsOf 9) (List.drop 16 [e0, e1, e2, e3, e4, e5, e6, e7, e8, e9, e10, e11, e12, e13, e14, e15, e16, e17, e18, e19, e20])) = some y6 := hfs 6 _ rfl
  have h7 : DataW.trod enc Tryz.prog W base sp held n 9 (List.take (Tryz.prog.cellsOf 9) (List.drop 17 [e0, e1, e2, e3, e4, e5, e6, e7, e8, e9, e10, e11, e12, e13, e14, e15, e16, e17, e18, e19, e20])) = some y7 := hfs 7 _ rfl
  have h8 : DataW.trod enc Tryz.prog W base sp held n 9 (List.take (Tryz.prog.cellsOf 9) (List.drop 18 [e0, e1, e2, e3, e4, e5, e6, e7, e8, e9, e10, e11, e12, e13, e14, e15, e16, e17, e18, e19, e20])) = some y8 := hfs 8 _ rfl
  have h9 : DataW.trod enc Tryz.prog W base sp held n 4 (List.take (Tryz.prog.cellsOf 4) (List.drop 19 [e0, e1, e2, e3, e4, e5, e6, e7, e8, e9, e10, e11, e12, e13, e14, e15, e16, e17, e18, e19, e20])) = some y9 := hfs 9 _ rfl
  have h10 : DataW.trod enc Tryz.prog W base sp held n 4 (List.take (Tryz.prog.cellsOf 4) (List.drop 20 [e0, e1, e2, e3, e4, e5, e6, e7, e8, e9, e10, e11, e12, e13, e14, e15, e16, e17, e18, e19, e20])) = some y10 := hfs 10 _ rfl
  simp only [Value.cells, Six.cells3, Six.cells9, Six.cells24, cells25, cells4, List.drop, List.take, List.getElem?_cons_zero, List.getElem?_cons_succ] at h0 h1 h2 h3 h4 h5 h6 h7 h8 h9 h10
  obtain ⟨s0, q0, _, _⟩ := DataW.trod_string Tryz.underlying9 h0
  obtain ⟨s1, q1, _, _⟩ := DataW.trod_string Tryz.underlying9 h1
  obtain ⟨s2, q2, _, _⟩ := DataW.trod_string Tryz.underlying9 h2
  obtain ⟨h, hp8, q3⟩ := trod_host h3
  obtain ⟨p, q4, _, w4⟩ := DataW.trod_int Tryz.underlying3 h4
  obtain ⟨L, hL⟩ := open_one h5
  obtain ⟨s6, q6, _, _⟩ := DataW.trod_string Tryz.underlying9 h6
  obtain ⟨s7, q7, _, _⟩ := DataW.trod_string Tryz.underlying9 h7
  obtain ⟨s8, q8, _, _⟩ := DataW.trod_string Tryz.underlying9 h8
  obtain ⟨b9, q9, _⟩ := DataW.trod_bool Tryz.underlying4 h9
  obtain ⟨b10, q10, _⟩ := DataW.trod_bool Tryz.underlying4 h10
  refine ⟨⟨s0.data.toList, s1.data.toList, s2.data.toList, h, p, L, s6.data.toList, s7.data.toList, s8.data.toList, b9, b10⟩, e15, hp8, ?_, hL, w4⟩
  simp only [List.cons.injEq, and_true] at q0 q1 q2 q4 q6 q7 q8 q9 q10
  rw [q0, q1, q2, q4, q6, q7, q8, q9, q10]
  have e : (⟨[.string s0, .string s1, .string s2, e3, e4, e5, e6, e7, e8, e9, e10, e11, e12, e13, .int .i64 p, e15, .string s6, .string s7, .string s8, .bool b9, .bool b10]⟩ : Array Value) = (.string s0 :: .string s1 :: .string s2 :: ([e3, e4, e5, e6, e7, e8, e9, e10, e11, e12, e13] ++ [.int .i64 p, e15, .string s6, .string s7, .string s8, .bool b9, .bool b10])).toArray := rfl
  rw [e, q3]
  simp only [cU, tb_of, List.cons_append]
end
end Go.Proofs.YtfdhhjigpboieaaGreatDoor.Url

/-
  A request among the arguments, opened.
-/
import Derived.Deep.SlicePairs
import Derived.Test.YtlkikfdbjpjpaaaGreatDoorRqObj
import Derived.Test.YtlkikfdbjpjpaaaGreatDoorHOpen
import Derived.Test.YtlkikfdbjpjpaaaGreatDoorOrigin
namespace Go.Proofs.YtlkikfdbjpjpaaaGreatDoor.Req
set_option linter.unusedSimpArgs false
set_option linter.unusedVariables false
set_option maxRecDepth 100000


open Go.ChangeShapes Go.WideShapes Go.ChangeAt Go.RowKit

open Url Origin

open Path (Strs)

set_option maxRecDepth 100000
section
variable {H : Type} {enc : TypeId × Value → H} {W : World} {base : Nat} {sp : Nat → Bool} {held : Bool}
theorem cells217 : Tryz.prog.cellsOf 28 = 1 := by kernel_rfl

theorem cells32 : Tryz.prog.cellsOf 32 = 45 := by kernel_rfl

theorem trod_flds {fuel : Nat} {v : Value} {x : DataW H × List MemPlace} (hf : DataW.trod enc Tryz.prog W base sp held fuel 28 [v] = some x) : v.oneCell' = true := by
  rcases Deep.open_slice_pairs Tryz.underlying28 Tryz.underlying218 (by kernel_rfl) rfl rfl (by kernel_rfl) (by kernel_rfl) hf with ⟨hcs, _⟩ | ⟨ad, l, c, m, n, V0, V1, D0, D1, P0, P1, hcs, _⟩
  · simp at hcs
    rw [hcs]; rfl
  · simp at hcs
    rw [hcs]; rfl

theorem trod_url {fuel : Nat} {e0 e1 e2 e3 e4 e5 e6 e7 e8 e9 e10 e11 e12 e13 e14 e15 e16 e17 e18 e19 e20 : Value} {x : DataW H × List MemPlace} (hf : DataW.trod enc Tryz.prog W base sp held fuel 27 [e0, e1, e2, e3, e4, e5, e6, e7, e8, e9, e10, e11, e12, e13, e14, e15, e16, e17, e18, e19, e20] = some x) :
    ∃ (u : U) (pv : Value), u.h.p.length = 8 ∧ [e0, e1, e2, e3, e4, e5, e6, e7, e8, e9, e10, e11, e12, e13, e14, e15, e16, e17, e18, e19, e20] = (cU u pv).toList ∧ Strs W pv u.path ∧ (Lit.int .i64 u.port).wf = true := by
  obtain ⟨xs, n, _, hx, hl, hlen, hfs⟩ := DataW.trod_struct Tryz.underlying27 hf
  match xs, hlen with
  | [y0, y1, y2, y3, y4, y5, y6, y7, y8, y9, y10], _ =>
  have h0 : DataW.trod enc Tryz.prog W base sp held n 9 (List.take (Tryz.prog.cellsOf 9) (List.drop 0 [e0, e1, e2, e3, e4, e5, e6, e7, e8, e9, e10, e11, e12, e13, e14, e15, e16, e17, e18, e19, e20])) = some y0 := hfs 0 _ rfl
  have h1 : DataW.trod enc Tryz.prog W base sp held n 9 (List.take (Tryz.prog.cellsOf 9) (List.drop 1 [e0, e1, e2, e3, e4, e5, e6, e7, e8, e9, e10, e11, e12, e13, e14, e15, e16, e17, e18, e19, e20])) = some y1 := hfs 1 _ rfl
  have h2 : DataW.trod enc Tryz.prog W base sp held n 9 (List.take (Tryz.prog.cellsOf 9) (List.drop 2 [e0, e1, e2, e3, e4, e5, e6, e7, e8, e9, e10, e11, e12, e13, e14, e15, e16, e17, e18, e19, e20])) = some y2 := hfs 2 _ rfl
  have h3 : DataW.trod enc Tryz.prog W base sp held n 24 (List.take (Tryz.prog.cellsOf 24) (List.drop 3 [e0, e1, e2, e3, e4, e5, e6, e7, e8, e9, e10, e11, e12, e13, e14, e15, e16, e17, e18, e19, e20])) = some y3 := hfs 3 _ rfl
  have h4 : DataW.trod enc Tryz.prog W base sp held n 3 (List.take (Tryz.prog.cellsOf 3) (List.drop 14 [e0, e1, e2, e3, e4, e5, e6, e7, e8, e9, e10, e11, e12, e13, e14, e15, e16, e17, e18, e19, e20])) = some y4 := hfs 4 _ rfl
  have h5 : DataW.trod enc Tryz.prog W base sp held n 25 (List.take (Tryz.prog.cellsOf 25) (List.drop 15 [e0, e1, e2, e3, e4, e5, e6, e7, e8, e9, e10, e11, e12, e13, e14, e15, e16, e17, e18, e19, e20])) = some y5 := hfs 5 _ rfl
  have h6 : DataW.trod enc Tryz.prog W base sp held n 9 (List.take (Tryz.prog.cellsOf 9) (List.drop 16 [e0, e1, e2, e3, e4, e5, e6, e7, e8, e9, e10, e11, e12, e13, e14, e15, e16, e17, e18, e19, e20])) = some y6 := hfs 6 _ rfl
  have h7 : DataW.trod enc Tryz.prog W base sp held n 9 (List.take (Tryz.prog.cellsOf 9) (List.drop 17 [e0, e1, e2, e3, e4, e5, e6, e7, e8, e9, e10, e11, e12, e13, e14, e15, e16, e17, e18, e19, e20])) = some y7 := hfs 7 _ rfl
  have h8 : DataW.trod enc Tryz.prog W base sp held n 9 (List.take (Tryz.prog.cellsOf 9) (List.drop 18 [e0, e1, e2, e3, e4, e5, e6, e7, e8, e9, e10, e11, e12, e13, e14, e15, e16, e17, e18, e19, e20])) = some y8 := hfs 8 _ rfl
  have h9 : DataW.trod enc Tryz.prog W base sp held n 4 (List.take (Tryz.prog.cellsOf 4) (List.drop 19 [e0, e1, e2, e3, e4, e5, e6, e7, e8, e9, e10, e11, e12, e13, e14, e15, e16, e17, e18, e19, e20])) = some y9 := hfs 9 _ rfl
  have h10 : DataW.trod enc Tryz.prog W base sp held n 4 (List.take (Tryz.prog.cellsOf 4) (List.drop 20 [e0, e1, e2, e3, e4, e5, e6, e7, e8, e9, e10, e11, e12, e13, e14, e15, e16, e17, e18, e19, e20])) = some y10 := hfs 10 _ rfl
  simp only [Value.cells, Six.cells3, Six.cells9, Six.cells24, cells25, cells4, List.drop, List.take, List.getElem?_cons_zero, List.getElem?_cons_succ] at h0 h1 h2 h3 h4 h5 h6 h7 h8 h9 h10
  obtain ⟨s0, q0, _, _⟩ := DataW.trod_string Tryz.underlying9 h0
  obtain ⟨s1, q1, _, _⟩ := DataW.trod_string Tryz.underlying9 h1
  obtain ⟨s2, q2, _, _⟩ := DataW.trod_string Tryz.underlying9 h2
  obtain ⟨h, hp8, q3⟩ := trod_host h3
  obtain ⟨p, q4, _, w4⟩ := DataW.trod_int Tryz.underlying3 h4
  obtain ⟨L, hL⟩ := open_one h5
  obtain ⟨s6, q6, _, _⟩ := DataW.trod_string Tryz.underlying9 h6
  obtain ⟨s7, q7, _, _⟩ := DataW.trod_string Tryz.underlying9 h7
  obtain ⟨s8, q8, _, _⟩ := DataW.trod_string Tryz.underlying9 h8
  obtain ⟨b9, q9, _⟩ := DataW.trod_bool Tryz.underlying4 h9
  obtain ⟨b10, q10, _⟩ := DataW.trod_bool Tryz.underlying4 h10
  refine ⟨⟨s0.data.toList, s1.data.toList, s2.data.toList, h, p, L, s6.data.toList, s7.data.toList, s8.data.toList, b9, b10⟩, e15, hp8, ?_, hL, w4⟩
  simp only [List.cons.injEq, and_true] at q0 q1 q2 q4 q6 q7 q8 q9 q10
  rw [q0, q1, q2, q4, q6, q7, q8, q9, q10]
  show .string s0 :: .string s1 :: .string s2 :: ([e3, e4, e5, e6, e7, e8, e9, e10, e11, e12, e13] ++ [.int .i64 p, e15, .string s6, .string s7, .string s8, .bool b9, .bool b10]) = _
  rw [q3]
  simp only [cU, tb_of, List.cons_append]

theorem trod_origin {fuel : Nat} {e0 e1 e2 e3 e4 e5 e6 e7 e8 e9 e10 e11 e12 e13 : Value} {x : DataW H × List MemPlace} (hf : DataW.trod enc Tryz.prog W base sp held fuel 30 [e0, e1, e2, e3, e4, e5, e6, e7, e8, e9, e10, e11, e12, e13] = some x) :
    ∃ o : O, o.h.p.length = 8 ∧ [e0, e1, e2, e3, e4, e5, e6, e7, e8, e9, e10, e11, e12, e13] = (cO o).toList ∧ (Lit.int .i64 o.port).wf = true := by
  obtain ⟨y0, y1, y2, y3, n, hx, _, h0, h1, h2, h3⟩ := Joins.trod_struct4 Tryz.underlying30 hf
  simp only [Value.cells, Six.cells3, Six.cells9, Six.cells24, cells4, List.drop, List.take] at h0 h1 h2 h3
  obtain ⟨b, q0, -⟩ := DataW.trod_bool Tryz.underlying4 h0
  obtain ⟨s, q1, -, -⟩ := DataW.trod_string Tryz.underlying9 h1
  obtain ⟨h, h8, q2⟩ := trod_host h2
  obtain ⟨p, q3, -, w3⟩ := DataW.trod_int Tryz.underlying3 h3
  refine ⟨⟨b, s.data.toList, h, p⟩, h8, ?_, w3⟩
  simp only [List.cons.injEq, and_true] at q0 q1 q3
  rw [q0, q1, q3]
  show .bool b :: .string s :: ([e2, e3, e4, e5, e6, e7, e8, e9, e10, e11, e12] ++ [.int .i64 p]) = _
  rw [q2]
  simp only [cO, tb_of, List.cons_append]

theorem cells27' : Tryz.prog.cellsOf 27 = 21 := by kernel_rfl

theorem cut_at (l : List Value) (a n : Nat) : l.drop a = (l.drop a).take n ++ l.drop (a + n) := by rw [← List.drop_drop]; exact (List.take_append_drop n (l.drop a)).symm

theorem cut_len (l : List Value) (h : l.length = 45) (a n : Nat) (k : a + n ≤ 45) : ((l.drop a).take n).length = n := by rw [List.length_take, List.length_drop, h]; omega

theorem one_of (m : List Value) (h : m.length = 1) : ∃ e, m = [e] := by
  match m, h with
  | [e], _ => exact ⟨e, rfl⟩

theorem open_req {r : Reach} {b0 : Nat} {v : Value} {d : DataW H} {ps : List MemPlace} (hval : Value.okWide Tryz.prog W r b0 32 v) (hd : DataW.Trod enc Tryz.prog W base sp held 32 v d ps) :
    ∃ (q : R) (pv hv : Value), R8 q ∧ v = .agg (cR q pv hv) ∧ Strs W pv q.url.path ∧ hv.oneCell' = true ∧ (Lit.int .i64 q.o.port).wf = true := by
  obtain ⟨cs, rfl, hsz⟩ := okWide_struct Tryz.underlying32 hval
  rw [cells32] at hsz
  obtain ⟨l⟩ := cs
  have hsz : l.length = 45 := hsz
  obtain ⟨fuel, hf⟩ := hd
  obtain ⟨xs, n, _, hx, hl, hlen, hfs⟩ := DataW.trod_struct Tryz.underlying32 hf
  match xs, hlen with
  | [y0, y1, y2, y3, y4, y5, y6, y7, y8, y9, y10, y11], _ =>
  have h0 : DataW.trod enc Tryz.prog W base sp held n 27 (List.take (Tryz.prog.cellsOf 27) (List.drop 0 l)) = some y0 := hfs 0 _ rfl
  rw [cells27'] at h0
  have h1 : DataW.trod enc Tryz.prog W base sp held n 9 (List.take (Tryz.prog.cellsOf 9) (List.drop 21 l)) = some y1 := hfs 1 _ rfl
  rw [Six.cells9] at h1
  have h2 : DataW.trod enc Tryz.prog W base sp held n 28 (List.take (Tryz.prog.cellsOf 28) (List.drop 22 l)) = some y2 := hfs 2 _ rfl
  rw [cells217] at h2
  have h3 : DataW.trod enc Tryz.prog W base sp held n 4 (List.take (Tryz.prog.cellsOf 4) (List.drop 23 l)) = some y3 := hfs 3 _ rfl
  rw [cells4] at h3
  have h4 : DataW.trod enc Tryz.prog W base sp held n 30 (List.take (Tryz.prog.cellsOf 30) (List.drop 24 l)) = some y4 := hfs 4 _ rfl
  rw [cells29] at h4
  have h5 : DataW.trod enc Tryz.prog W base sp held n 3 (List.take (Tryz.prog.cellsOf 3) (List.drop 38 l)) = some y5 := hfs 5 _ rfl
  rw [Six.cells3] at h5
  have h6 : DataW.trod enc Tryz.prog W base sp held n 3 (List.take (Tryz.prog.cellsOf 3) (List.drop 39 l)) = some y6 := hfs 6 _ rfl
  rw [Six.cells3] at h6
  have h7 : DataW.trod enc Tryz.prog W base sp held n 3 (List.take (Tryz.prog.cellsOf 3) (List.drop 40 l)) = some y7 := hfs 7 _ rfl
  rw [Six.cells3] at h7
  have h8 : DataW.trod enc Tryz.prog W base sp held n 9 (List.take (Tryz.prog.cellsOf 9) (List.drop 41 l)) = some y8 := hfs 8 _ rfl
  rw [Six.cells9] at h8
  have h9 : DataW.trod enc Tryz.prog W base sp held n 4 (List.take (Tryz.prog.cellsOf 4) (List.drop 42 l)) = some y9 := hfs 9 _ rfl
  rw [cells4] at h9
  have h10 : DataW.trod enc Tryz.prog W base sp held n 4 (List.take (Tryz.prog.cellsOf 4) (List.drop 43 l)) = some y10 := hfs 10 _ rfl
  rw [cells4] at h10
  have h11 : DataW.trod enc Tryz.prog W base sp held n 3 (List.take (Tryz.prog.cellsOf 3) (List.drop 44 l)) = some y11 := hfs 11 _ rfl
  rw [Six.cells3] at h11
  have hall : l = (l.drop 0).take 21 ++ ((l.drop 21).take 1 ++ ((l.drop 22).take 1 ++ ((l.drop 23).take 1 ++ ((l.drop 24).take 14 ++ ((l.drop 38).take 1 ++ ((l.drop 39).take 1 ++ ((l.drop 40).take 1 ++ ((l.drop 41).take 1 ++ ((l.drop 42).take 1 ++ ((l.drop 43).take 1 ++ ((l.drop 44).take 1 ++ l.drop 45))))))))))) := ((cut_at l 0 21).trans (congrArg _ ((cut_at l 21 1).trans (congrArg _ ((cut_at l 22 1).trans (congrArg _ ((cut_at l 23 1).trans (congrArg _ ((cut_at l 24 14).trans (congrArg _ ((cut_at l 38 1).trans (congrArg _ ((cut_at l 39 1).trans (congrArg _ ((cut_at l 40 1).trans (congrArg _ ((cut_at l 41 1).trans (congrArg _ ((cut_at l 42 1).trans (congrArg _ ((cut_at l 43 1).trans (congrArg _ (cut_at l 44 1)))))))))))))))))))))))
  rw [show l.drop 45 = [] from List.drop_eq_nil_of_le (by omega), List.append_nil] at hall
  have n0 := cut_len l hsz 0 21 (by omega)
  have n1 := cut_len l hsz 21 1 (by omega)
  have n2 := cut_len l hsz 22 1 (by omega)
  have n3 := cut_len l hsz 23 1 (by omega)
  have n4 := cut_len l hsz 24 14 (by omega)
  have n5 := cut_len l hsz 38 1 (by omega)
  have n6 := cut_len l hsz 39 1 (by omega)
  have n7 := cut_len l hsz 40 1 (by omega)
  have n8 := cut_len l hsz 41 1 (by omega)
  have n9 := cut_len l hsz 42 1 (by omega)
  have n10 := cut_len l hsz 43 1 (by omega)
  have n11 := cut_len l hsz 44 1 (by omega)
  generalize (l.drop 0).take 21 = m0 at h0 n0 hall
  generalize (l.drop 21).take 1 = m1 at h1 n1 hall
  generalize (l.drop 22).take 1 = m2 at h2 n2 hall
  generalize (l.drop 23).take 1 = m3 at h3 n3 hall
  generalize (l.drop 24).take 14 = m4 at h4 n4 hall
  generalize (l.drop 38).take 1 = m5 at h5 n5 hall
  generalize (l.drop 39).take 1 = m6 at h6 n6 hall
  generalize (l.drop 40).take 1 = m7 at h7 n7 hall
  generalize (l.drop 41).take 1 = m8 at h8 n8 hall
  generalize (l.drop 42).take 1 = m9 at h9 n9 hall
  generalize (l.drop 43).take 1 = m10 at h10 n10 hall
  generalize (l.drop 44).take 1 = m11 at h11 n11 hall
  obtain ⟨u, pv, u8, qu, hst, wu⟩ : ∃ (u : U) (pv : Value), u.h.p.length = 8 ∧ m0 = (cU u pv).toList ∧ Strs W pv u.path ∧ (Lit.int .i64 u.port).wf = true := by
    match m0, n0, h0 with
    | [e0, e1, e2, e3, e4, e5, e6, e7, e8, e9, e10, e11, e12, e13, e14, e15, e16, e17, e18, e19, e20], _, h0 => exact trod_url h0
  obtain ⟨o, o8, qo, wo⟩ : ∃ o : O, o.h.p.length = 8 ∧ m4 = (cO o).toList ∧ (Lit.int .i64 o.port).wf = true := by
    match m4, n4, h4 with
    | [e0, e1, e2, e3, e4, e5, e6, e7, e8, e9, e10, e11, e12, e13], _, h4 => exact trod_origin h4
  obtain ⟨c1, rfl⟩ := one_of m1 n1
  obtain ⟨s1, q1, _, _⟩ := DataW.trod_string Tryz.underlying9 h1
  obtain ⟨c2, rfl⟩ := one_of m2 n2
  have hh := trod_flds h2
  obtain ⟨c3, rfl⟩ := one_of m3 n3
  obtain ⟨s3, q3, _⟩ := DataW.trod_bool Tryz.underlying4 h3
  obtain ⟨c5, rfl⟩ := one_of m5 n5
  obtain ⟨s5, q5, _, _⟩ := DataW.trod_int Tryz.underlying3 h5
  obtain ⟨c6, rfl⟩ := one_of m6 n6
  obtain ⟨s6, q6, _, _⟩ := DataW.trod_int Tryz.underlying3 h6
  obtain ⟨c7, rfl⟩ := one_of m7 n7
  obtain ⟨s7, q7, _, _⟩ := DataW.trod_int Tryz.underlying3 h7
  obtain ⟨c8, rfl⟩ := one_of m8 n8
  obtain ⟨s8, q8, _, _⟩ := DataW.trod_string Tryz.underlying9 h8
  obtain ⟨c9, rfl⟩ := one_of m9 n9
  obtain ⟨s9, q9, _⟩ := DataW.trod_bool Tryz.underlying4 h9
  obtain ⟨c10, rfl⟩ := one_of m10 n10
  obtain ⟨s10, q10, _⟩ := DataW.trod_bool Tryz.underlying4 h10
  obtain ⟨c11, rfl⟩ := one_of m11 n11
  obtain ⟨s11, q11, _, _⟩ := DataW.trod_int Tryz.underlying3 h11
  simp only [List.cons.injEq, and_true] at q1 q3 q5 q6 q7 q8 q9 q10 q11
  refine ⟨⟨u, s1.data.toList, s3, o, s5, s6, s7, s8.data.toList, s9, s10, s11⟩, pv, c2, ⟨u8, o8⟩, ?_, hst, hh, wo⟩
  refine congrArg Value.agg (Array.ext' ?_)
  show l = _
  rw [hall, qu, qo, q1, q3, q5, q6, q7, q8, q9, q10, q11]
  unfold cR
  simp only [Array.toList_append, tb_of]
  rfl
end

end Go.Proofs.YtlkikfdbjpjpaaaGreatDoor.Req

/-
  url's Same, and the laws' Few.
  The laws' example.
  An address among the arguments, opened.
  What a region that draws its order loads of addresses: the same in every world that has only grown.
-/
import Derived.SliceStrings
import Derived.Test.YtlkikfdbjpjpaaaGreatDoorUrlB
import Derived.Test.YtlkikfdbjpjpaaaGreatDoorHOpen
namespace Go.Proofs.YtlkikfdbjpjpaaaGreatDoor.Url
set_option linter.unusedSimpArgs false
set_option linter.unusedVariables false
set_option maxRecDepth 100000


open Go.RowKit Go.Shelf

open Host (H HostAt none0 okH mayH)

open Six (arr RowAt zero8)

open Path (Strs)

set_option maxRecDepth 100000

theorem tb_inj {l k : T} (h : tb l = tb k) : l = k := by have := congrArg (fun x : ByteArray => x.data.toList) h; exact this

theorem map_tb {l k : List T} : l.map tb = k.map tb ↔ l = k := by
  constructor
  · intro h
    induction l generalizing k with
    | nil => cases k with
      | nil => rfl
      | cons a r => cases h
    | cons a r ih => cases k with
      | nil => cases h
      | cons b q =>
        simp only [List.map_cons, List.cons.injEq] at h
        rw [tb_inj h.1, ih h.2]
  · intro h; rw [h]

theorem getD_tb (l : List T) (j : Nat) (h : j < l.length) (e : ByteArray) : (l.map tb).getD j e = tb l[j] := by simp [List.getD, h]

theorem beq_tb (l k : T) : ((tb l).toList == (tb k).toList) = (l == k) := by rw [Path.tl, Path.tl]; rfl

theorem wp_box27 {ops : Array Oper} {rest : List Oper} {o : Oper} {a : Act} {w : World} {Q : Exit → Act → World → Prop} (hgd : o.guard = none) (x : Operand) (ho : o.op = .box 27 x) (cs : Array Value) (hx : a.eval x = .agg cs)
    (hk : wpList Tryz.prog ops Q rest (a.put o.dst (.pointer (some ⟨w.heap.size, 0, none⟩))) (w.alloc (.cells cs 27))) : wpList Tryz.prog ops Q (o :: rest) a w :=
  wpList_plain hgd fun _ hK => by
    have hr : (execOp a.eval o).run Tryz.prog w = .ok (.value (.pointer (some ⟨w.heap.size, 0, none⟩))) (w.alloc (.cells cs 27)) := by
      unfold execOp
      simp only [ho, hx]
      simp [go_sem]
    unfold Oper.wp
    rw [hr]
    exact hK _ _ hk



open Host (H HostAt none0 okH mayH parH showH)

set_option maxRecDepth 100000

def exS : T := [72, 84, 84, 80, 58, 47, 47, 117, 64, 65, 46, 111, 114, 103, 58, 56, 48, 47, 98, 63, 99, 35, 100]

def exR : T := [47, 47, 117, 64, 65, 46, 111, 114, 103, 58, 56, 48, 47, 98, 63, 99, 35, 100]

def exT : T := [47, 47, 117, 64, 65, 46, 111, 114, 103, 58, 56, 48, 47, 98]

def exH : T := [65, 46, 111, 114, 103]

def uA : U := ⟨http, [117], [], aH, -1, [[98]], [], [99], [100], true, true⟩

theorem exH_par : parH exH = aH := by
  have h1 : okH exH = true := by decide +kernel
  have h2 : Host.brkB exH = false := by decide +kernel
  have h3 : Four.lookB exH = false := by decide +kernel
  unfold parH
  rw [h1, h2, h3]
  rfl

theorem ex_ok : okU exS = true := by decide +kernel

theorem ex_par : parU exS = uA := by
  have h1 : Ascii.clean exS = exS := by decide +kernel
  have h2 : okS exS = true := by decide +kernel
  have h3 : schS exS = http := by decide +kernel
  have h4 : schR exS = exR := by decide +kernel
  have h5 : tA exR = exT := by decide +kernel
  have h6 : hname (place (auth exT)) = exH := by decide +kernel
  unfold parU
  rw [h1]
  unfold parS aheadU
  rw [h2, if_pos rfl, h3, h4, h5, if_neg (by decide)]
  unfold tailU webU
  rw [h6, exH_par]
  unfold uA
  rw [U.mk.injEq]
  exact ⟨rfl, by decide +kernel, by decide +kernel, rfl, by decide +kernel, by decide +kernel, rfl, by decide +kernel, by decide +kernel, by decide +kernel, by decide +kernel⟩

theorem uA_may : mayU uA = true := by rw [← ex_par]; exact par_may _ ex_ok

theorem uA_fit : Fit uA := ⟨rfl, by decide, by decide, by decide, by decide, by decide, by decide, by decide, by decide, by decide⟩

theorem uA_same : sameU uA uA = true := (same_iff _ _).2 rfl

theorem ex_sch : schB [72, 116, 116, 112, 58, 120] = true ∧ schS [72, 116, 116, 112, 58, 120] = http ∧ schR [72, 116, 116, 112, 58, 120] = [120] := by decide +kernel

theorem ex_tail : tA [97, 63, 98, 35, 99, 63, 100] = [97] ∧ tQ [97, 63, 98, 35, 99, 63, 100] = [98] ∧ tF [97, 63, 98, 35, 99, 63, 100] = [99, 63, 100] ∧ tHQ [97, 63, 98, 35, 99, 63, 100] = true ∧ tHF [97, 63, 98, 35, 99, 63, 100] = true := by decide +kernel

theorem cells_uA {W : World} {g : Nat} {pv : Value} (a : UrlAt W g uA pv) :
    W.cell? ⟨g, 0, none⟩ = some (.string ⟨#[104, 116, 116, 112]⟩) ∧ W.cell? ⟨g, 1, none⟩ = some (.string ⟨#[117]⟩) ∧ W.cell? ⟨g, 2, none⟩ = some (.string ⟨#[]⟩) ∧ W.cell? ⟨g, 3, none⟩ = some (.int .i64 1) ∧
    W.cell? ⟨g, 4, none⟩ = some (.string ⟨#[97, 46, 111, 114, 103]⟩) ∧ W.cell? ⟨g, 5, none⟩ = some (.int .i64 0) ∧ W.cell? ⟨g, 6, none⟩ = some (.int .i64 0) ∧ W.cell? ⟨g, 7, none⟩ = some (.int .i64 0) ∧ W.cell? ⟨g, 8, none⟩ = some (.int .i64 0) ∧
    W.cell? ⟨g, 9, none⟩ = some (.int .i64 0) ∧ W.cell? ⟨g, 10, none⟩ = some (.int .i64 0) ∧ W.cell? ⟨g, 11, none⟩ = some (.int .i64 0) ∧ W.cell? ⟨g, 12, none⟩ = some (.int .i64 0) ∧ W.cell? ⟨g, 13, none⟩ = some (.int .i64 0) ∧
    W.cell? ⟨g, 14, none⟩ = some (.int .i64 (-1)) ∧ W.cell? ⟨g, 15, none⟩ = some pv ∧ W.cell? ⟨g, 16, none⟩ = some (.string ⟨#[]⟩) ∧ W.cell? ⟨g, 17, none⟩ = some (.string ⟨#[99]⟩) ∧ W.cell? ⟨g, 18, none⟩ = some (.string ⟨#[100]⟩) ∧
    W.cell? ⟨g, 19, none⟩ = some (.bool true) ∧ W.cell? ⟨g, 20, none⟩ = some (.bool true) :=
  ⟨a.cell 0, a.cell 1, a.cell 2, a.cell 3, a.cell 4, a.cell 5, a.cell 6, a.cell 7, a.cell 8, a.cell 9, a.cell 10, a.cell 11, a.cell 12, a.cell 13, a.cell 14, a.cell 15, a.cell 16, a.cell 17, a.cell 18, a.cell 19, a.cell 20⟩

theorem parse_at (l : T) (hl : l.length ≤ 25000) (u : U) (b : Bool) (hu : parU l = u) (hb : okU l = b) (m : Int) (w : World) (hm : Six.At m w) : Calls Tryz.prog 26 #[.string (tb l)] w (GotP w u b) := by
  subst hu
  exact parse_in (tb l) (by rw [tb_size]; exact hl) b hb m w hm

theorem new_url (u : World) : UrlAt (u.alloc (.cells #[.string ⟨#[]⟩, .string ⟨#[]⟩, .string ⟨#[]⟩, .int .i64 0, .string ⟨#[]⟩, .int .i64 0, .int .i64 0, .int .i64 0, .int .i64 0, .int .i64 0, .int .i64 0, .int .i64 0, .int .i64 0, .int .i64 0, .int .i64 0, .slice none 0 0, .string ⟨#[]⟩, .string ⟨#[]⟩, .string ⟨#[]⟩, .bool false, .bool false] 27)) u.heap.size none1 (.slice none 0 0) := UrlAt.new u none1 (.slice none 0 0)

theorem below_url (u : World) (v : U) (pv : Value) : Below u.heap.size u ((u.alloc (.cells #[.string ⟨#[]⟩, .string ⟨#[]⟩, .string ⟨#[]⟩, .int .i64 0, .string ⟨#[]⟩, .int .i64 0, .int .i64 0, .int .i64 0, .int .i64 0, .int .i64 0, .int .i64 0, .int .i64 0, .int .i64 0, .int .i64 0, .int .i64 0, .slice none 0 0, .string ⟨#[]⟩, .string ⟨#[]⟩, .string ⟨#[]⟩, .bool false, .bool false] 27)).setRow u.heap.size (cU v pv)) :=
  below_row ((Below.refl u.heap.size u).alloc (Nat.le_refl _) (.cells #[.string ⟨#[]⟩, .string ⟨#[]⟩, .string ⟨#[]⟩, .int .i64 0, .string ⟨#[]⟩, .int .i64 0, .int .i64 0, .int .i64 0, .int .i64 0, .int .i64 0, .int .i64 0, .int .i64 0, .int .i64 0, .int .i64 0, .int .i64 0, .slice none 0 0, .string ⟨#[]⟩, .string ⟨#[]⟩, .string ⟨#[]⟩, .bool false, .bool false] 27)) (Nat.le_refl _) (cU v pv)



open Go.ChangeShapes Go.WideShapes Go.ChangeAt Go.RowKit

set_option maxRecDepth 100000
section
variable {H : Type} {enc : TypeId × Value → H} {W : World} {base : Nat} {sp : Nat → Bool} {held : Bool}
theorem open_one {v : Value} {x : DataW H × List MemPlace} {fuel : Nat} (hf : DataW.trod enc Tryz.prog W base sp held fuel 25 [v] = some x) : ∃ l, Strs W v l := by
  rcases open_strings Tryz.underlying25 Tryz.underlying9 (by kernel_rfl) hf with ⟨hcs, _⟩ | ⟨x, l, c, zs, hcs, _, hl, hm, hz, _, hcell, hwz⟩
  · simp at hcs
    subst hcs
    exact ⟨[], Strs.nil W⟩
  · simp at hcs
    subst hcs
    have hzl : l ≤ zs.length := by rw [hz]; split <;> omega
    have hll : ((zs.take l).map (·.data.toList)).length = l := by simp; omega
    refine ⟨(zs.take l).map (·.data.toList), some x, c, by rw [hll], by rw [hll]; exact hl, hm, (fun e => by cases e), fun hne => ?_⟩
    have hpos : 0 < zs.length := by
      rcases Nat.eq_zero_or_pos zs.length with h0 | h0
      · exact absurd (by rw [List.length_eq_zero_iff.1 h0]; simp) hne
      · exact h0
    obtain ⟨b, off, spot⟩ := x
    cases spot with
    | some q =>
      exfalso
      have := hcell 0 hpos
      simp only [Addr.add, if_true] at this
      rw [World.cell?] at this
      split at this <;> simp at this
    | none =>
      refine ⟨b, off, rfl, fun j hj => ?_⟩
      rw [hll] at hj
      have := hcell j (by omega)
      rw [add_plain] at this
      rw [this]
      simp [List.getD, show j < zs.length by omega, Path.tx_of]

theorem trod_host {fuel : Nat} {e0 e1 e2 c0 c1 c2 c3 c4 c5 c6 c7 : Value} {x : DataW H × List MemPlace} (hf : DataW.trod enc Tryz.prog W base sp held fuel 24 [e0, e1, e2, c0, c1, c2, c3, c4, c5, c6, c7] = some x) :
    ∃ h : Host.H, h.p.length = 8 ∧ [e0, e1, e2, c0, c1, c2, c3, c4, c5, c6, c7] = (.int .i64 h.k :: .string h.s :: .int .i64 h.n :: h.p.map (Value.int .i64)) := by
  obtain ⟨y0, y1, y2, y3, n, hx, _, h0, h1, h2, h3⟩ := Joins.trod_struct4 Tryz.underlying24 hf
  simp only [Value.cells, Six.cells3, Six.cells9, Six.cells22, List.drop, List.take] at h0 h1 h2 h3
  obtain ⟨k, q0, rfl, w0⟩ := DataW.trod_int Tryz.underlying3 h0
  obtain ⟨s, q1, rfl, w1⟩ := DataW.trod_string Tryz.underlying9 h1
  obtain ⟨m, q2, rfl, w2⟩ := DataW.trod_int Tryz.underlying3 h2
  obtain ⟨p, p8, q3, rfl, w3⟩ := Six.trod_row8 h3
  refine ⟨⟨k, s, m, p⟩, p8, ?_⟩
  simp only [List.cons.injEq, and_true] at q0 q1 q2
  rw [q0, q1, q2]
  show _ :: _ :: _ :: [c0, c1, c2, c3, c4, c5, c6, c7] = _
  rw [q3]

theorem cells27 : Tryz.prog.cellsOf 27 = 21 := by kernel_rfl

theorem cells25 : Tryz.prog.cellsOf 25 = 1 := by kernel_rfl

theorem cells4 : Tryz.prog.cellsOf 4 = 1 := by kernel_rfl

theorem open_url {r : Reach} {b0 : Nat} {v : Value} {d : DataW H} {ps : List MemPlace} (hval : Value.okWide Tryz.prog W r b0 27 v) (hd : DataW.Trod enc Tryz.prog W base sp held 27 v d ps) :
    ∃ (u : U) (pv : Value), u.h.p.length = 8 ∧ v = .agg (cU u pv) ∧ Strs W pv u.path ∧ (Lit.int .i64 u.port).wf = true := by
  obtain ⟨cs, rfl, hsz⟩ := okWide_struct Tryz.underlying27 hval
  rw [cells27] at hsz
  obtain ⟨l⟩ := cs
  match l, hsz with
  | [e0, e1, e2, e3, e4, e5, e6, e7, e8, e9, e10, e11, e12, e13, e14, e15, e16, e17, e18, e19, e20], _ =>
  obtain ⟨fuel, hf⟩ := hd
  obtain ⟨xs, n, _, hx, hl, hlen, hfs⟩ := DataW.trod_struct Tryz.underlying27 hf
  match xs, hlen with
  | [y0, y1, y2, y3, y4, y5, y6, y7, y8, y9, y10], _ =>
  have h0 : DataW.trod enc Tryz.prog W base sp held n 9 (List.take (Tryz.prog.cellsOf 9) (List.drop 0 [e0, e1, e2, e3, e4, e5, e6, e7, e8, e9, e10, e11, e12, e13, e14, e15, e16, e17, e18, e19, e20])) = some y0 := hfs 0 _ rfl
  have h1 : DataW.trod enc Tryz.prog W base sp held n 9 (List.take (Tryz.prog.cellsOf 9) (List.drop 1 [e0, e1, e2, e3, e4, e5, e6, e7, e8, e9, e10, e11, e12, e13, e14, e15, e16, e17, e18, e19, e20])) = some y1 := hfs 1 _ rfl
  have h2 : DataW.trod enc Tryz.prog W base sp held n 9 (List.take (Tryz.prog.cellsOf 9) (List.drop 2 [e0, e1, e2, e3, e4, e5, e6, e7, e8, e9, e10, e11, e12, e13, e14, e15, e16, e17, e18, e19, e20])) = some y2 := hfs 2 _ rfl
  have h3 : DataW.trod enc Tryz.prog W base sp held n 24 (List.take (Tryz.prog.cellsOf 24) (List.drop 3 [e0, e1, e2, e3, e4, e5, e6, e7, e8, e9, e10, e11, e12, e13, e14, e15, e16, e17, e18, e19, e20])) = some y3 := hfs 3 _ rfl
  have h4 : DataW.trod enc Tryz.prog W base sp held n 3 (List.take (Tryz.prog.cellsOf 3) (List.drop 14 [e0, e1, e2, e3, e4, e5, e6, e7, e8, e9, e10, e11, e12, e13, e14, e15, e16, e17, e18, e19, e20])) = some y4 := hfs 4 _ rfl
  have h5 : DataW.trod enc Tryz.prog W base sp held n 25 (List.take (Tryz.prog.cellsOf 25) (List.drop 15 [e0, e1, e2, e3, e4, e5, e6, e7, e8, e9, e10, e11, e12, e13, e14, e15, e16, e17, e18, e19, e20])) = some y5 := hfs 5 _ rfl
  have h6 : DataW.trod enc Tryz.prog W base sp held n 9 (List.take (Tryz.prog.cellsOf 9) (List.drop 16 [e0, e1, e2, e3, e4, e5, e6, e7, e8, e9, e10, e11, e12, e13, e14, e15, e16, e17, e18, e19, e20])) = some y6 := hfs 6 _ rfl
  have h7 : DataW.trod enc Tryz.prog W base sp held n 9 (List.take (Tryz.prog.cellsOf 9) (List.drop 17 [e0, e1, e2, e3, e4, e5, e6, e7, e8, e9, e10, e11, e12, e13, e14, e15, e16, e17, e18, e19, e20])) = some y7 := hfs 7 _ rfl
  have h8 : DataW.trod enc Tryz.prog W base sp held n 9 (List.take (Tryz.prog.cellsOf 9) (List.drop 18 [e0, e1, e2, e3, e4, e5, e6, e7, e8, e9, e10, e11, e12, e13, e14, e15, e16, e17, e18, e19, e20])) = some y8 := hfs 8 _ rfl
  have h9 : DataW.trod enc Tryz.prog W base sp held n 4 (List.take (Tryz.prog.cellsOf 4) (List.drop 19 [e0, e1, e2, e3, e4, e5, e6, e7, e8, e9, e10, e11, e12, e13, e14, e15, e16, e17, e18, e19, e20])) = some y9 := hfs 9 _ rfl
  have h10 : DataW.trod enc Tryz.prog W base sp held n 4 (List.take (Tryz.prog.cellsOf 4) (List.drop 20 [e0, e1, e2, e3, e4, e5, e6, e7, e8, e9, e10, e11, e12, e13, e14, e15, e16, e17, e18, e19, e20])) = some y10 := hfs 10 _ rfl
  simp only [Value.cells, Six.cells3, Six.cells9, Six.cells24, cells25, cells4, List.drop, List.take, List.getElem?_cons_zero, List.getElem?_cons_succ] at h0 h1 h2 h3 h4 h5 h6 h7 h8 h9 h10
  obtain ⟨s0, q0, _, _⟩ := DataW.trod_string Tryz.underlying9 h0
  obtain ⟨s1, q1, _, _⟩ := DataW.trod_string Tryz.underlying9 h1
  obtain ⟨s2, q2, _, _⟩ := DataW.trod_string Tryz.underlying9 h2
  obtain ⟨h, hp8, q3⟩ := trod_host h3
  obtain ⟨p, q4, _, w4⟩ := DataW.trod_int Tryz.underlying3 h4
  obtain ⟨L, hL⟩ := open_one h5
  obtain ⟨s6, q6, _, _⟩ := DataW.trod_string Tryz.underlying9 h6
  obtain ⟨s7, q7, _, _⟩ := DataW.trod_string Tryz.underlying9 h7
  obtain ⟨s8, q8, _, _⟩ := DataW.trod_string Tryz.underlying9 h8
  obtain ⟨b9, q9, _⟩ := DataW.trod_bool Tryz.underlying4 h9
  obtain ⟨b10, q10, _⟩ := DataW.trod_bool Tryz.underlying4 h10
  refine ⟨⟨s0.data.toList, s1.data.toList, s2.data.toList, h, p, L, s6.data.toList, s7.data.toList, s8.data.toList, b9, b10⟩, e15, hp8, ?_, hL, w4⟩
  simp only [List.cons.injEq, and_true] at q0 q1 q2 q4 q6 q7 q8 q9 q10
  rw [q0, q1, q2, q4, q6, q7, q8, q9, q10]
  have e : (⟨[.string s0, .string s1, .string s2, e3, e4, e5, e6, e7, e8, e9, e10, e11, e12, e13, .int .i64 p, e15, .string s6, .string s7, .string s8, .bool b9, .bool b10]⟩ : Array Value) = (.string s0 :: .string s1 :: .string s2 :: ([e3, e4, e5, e6, e7, e8, e9, e10, e11, e12, e13] ++ [.int .i64 p, e15, .string s6, .string s7, .string s8, .bool b9, .bool b10])).toArray := rfl
  rw [e, q3]
  simp only [cU, tb_of, List.cons_append]
end



set_option maxRecDepth 100000
theorem load9 {u : World} {p : Addr} {s : ByteArray} (h : u.cell? p = some (.string s)) : (loadVar 9 p).run Tryz.prog u = .ok (.string s) u := by
  simp [loadVar, Tryz.isAgg9, h, go_sem]

theorem load3 {u : World} {p : Addr} {z : Int} (h : u.cell? p = some (.int .i64 z)) : (loadVar 3 p).run Tryz.prog u = .ok (.int .i64 z) u := by
  simp [loadVar, Tryz.isAgg3, h, go_sem]

theorem load4 {u : World} {p : Addr} {b : Bool} (h : u.cell? p = some (.bool b)) : (loadVar 4 p).run Tryz.prog u = .ok (.bool b) u := by
  simp [loadVar, Tryz.isAgg4, h, go_sem]

theorem load25 {u : World} {p : Addr} {v : Value} (h : u.cell? p = some v) : (loadVar 25 p).run Tryz.prog u = .ok v u := by
  simp [loadVar, Tryz.isAgg25, h, go_sem]
section
variable {W : World} {g : Nat} {u : U} {pv : Value}

/-- What is loaded of an address, in every later world. -/
abbrev Q9 (W : World) (g j : Nat) (s : ByteArray) : Prop := ∀ v, Below W.heap.size W v → (loadVar 9 ⟨g, j, none⟩).run Tryz.prog v = .ok (.string s) v

abbrev Q3 (W : World) (g j : Nat) (z : Int) : Prop := ∀ v, Below W.heap.size W v → (loadVar 3 ⟨g, j, none⟩).run Tryz.prog v = .ok (.int .i64 z) v

abbrev Q4 (W : World) (g j : Nat) (b : Bool) : Prop := ∀ v, Below W.heap.size W v → (loadVar 4 ⟨g, j, none⟩).run Tryz.prog v = .ok (.bool b) v

abbrev Q25 (W : World) (g j : Nat) (p : Value) : Prop := ∀ v, Below W.heap.size W v → (loadVar 25 ⟨g, j, none⟩).run Tryz.prog v = .ok p v

abbrev Q24 (W : World) (g j : Nat) (h : Host.H) : Prop := ∀ v, Below W.heap.size W v → (loadVar 24 ⟨g, j, none⟩).run Tryz.prog v = .ok (.agg h.cells) v

abbrev Q27 (W : World) (g : Nat) (u : U) (pv : Value) : Prop := ∀ v, Below W.heap.size W v → (loadVar 27 ⟨g, 0, none⟩).run Tryz.prog v = .ok (.agg (cU u pv)) v

theorem q_sch (a : UrlAt W g u pv) (h8 : u.h.p.length = 8) : Q9 W g 0 (tb u.sch) := fun v hv => load9 (((a.later hv).cell 0).trans (cU_at u pv h8).1)

theorem q_usr (a : UrlAt W g u pv) (h8 : u.h.p.length = 8) : Q9 W g 1 (tb u.usr) := fun v hv => load9 (((a.later hv).cell 1).trans (cU_at u pv h8).2.1)

theorem q_pas (a : UrlAt W g u pv) (h8 : u.h.p.length = 8) : Q9 W g 2 (tb u.pas) := fun v hv => load9 (((a.later hv).cell 2).trans (cU_at u pv h8).2.2.1)

theorem q_prt (a : UrlAt W g u pv) (h8 : u.h.p.length = 8) : Q3 W g 14 u.port := fun v hv => load3 (((a.later hv).cell 14).trans (cU_at u pv h8).2.2.2.2.1)

theorem q_pth (a : UrlAt W g u pv) (h8 : u.h.p.length = 8) : Q25 W g 15 pv := fun v hv => load25 (((a.later hv).cell 15).trans (cU_at u pv h8).2.2.2.2.2.1)

theorem q_qry (a : UrlAt W g u pv) (h8 : u.h.p.length = 8) : Q9 W g 17 (tb u.qry) := fun v hv => load9 (((a.later hv).cell 17).trans (cU_at u pv h8).2.2.2.2.2.2.2.1)

theorem q_hq (a : UrlAt W g u pv) (h8 : u.h.p.length = 8) : Q4 W g 19 u.hq := fun v hv => load4 (((a.later hv).cell 19).trans (cU_at u pv h8).2.2.2.2.2.2.2.2.2.1)

theorem q_hf (a : UrlAt W g u pv) (h8 : u.h.p.length = 8) : Q4 W g 20 u.hf := fun v hv => load4 (((a.later hv).cell 20).trans (cU_at u pv h8).2.2.2.2.2.2.2.2.2.2)

theorem q_host (a : UrlAt W g u pv) (h8 : u.h.p.length = 8) : Q24 W g 3 u.h := fun v hv => (a.later hv).host h8

theorem q_url (a : UrlAt W g u pv) (h8 : u.h.p.length = 8) : Q27 W g u pv := fun v hv => (a.later hv).load h8
end

theorem size_app (s t : ByteArray) : (s ++ t).size = s.size + t.size := by
  show (s ++ t).data.toList.length = _
  rw [Path.text_append, List.length_append]; rfl

theorem nth (x : ByteArray) (k : Nat) (h : k < x.size) : x.data.toList[k]'h = x[k] := rfl

theorem snoc_all (p : UInt8 → Prop) (a : ByteArray) (k : Nat) (h : k < a.size) (hp : ∀ c ∈ a.data.toList.take k, p c) (hd : p a[k]) : ∀ c ∈ a.data.toList.take (k + 1), p c := by
  rw [Ascii.take_snoc a k h]
  intro c hc
  rcases List.mem_append.1 hc with hc | hc
  · exact hp c hc
  · rw [List.mem_singleton.1 hc]; exact hd

theorem take_all (p : UInt8 → Prop) (a : ByteArray) (hp : ∀ c ∈ a.data.toList.take a.size, p c) : ∀ c ∈ a.data.toList, p c := by
  rwa [List.take_of_length_le (by exact Nat.le_refl _)] at hp

end Go.Proofs.YtlkikfdbjpjpaaaGreatDoor.Url

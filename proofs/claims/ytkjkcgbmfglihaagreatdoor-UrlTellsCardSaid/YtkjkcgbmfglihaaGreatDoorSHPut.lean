/-
  A builder that a method value writes into, and the closure that puts texts just if they are there.
-/
import Derived.Test.YtkjkcgbmfglihaaGreatDoorSHFacts
import Derived.Shelf.Strings.BuilderK
import Derived.Shelf.Strings.BuilderF
namespace Go.Proofs.YtkjkcgbmfglihaaGreatDoor.Show
open Go.RowKit Go.Shelf
open Url
open Path (Strs)
set_option linter.unusedSimpArgs false
set_option linter.unusedVariables false
set_option maxRecDepth 100000

/-- The builder's WriteString with the frame that reaches above the builder. -/
theorem write_k (B b : Nat) (bs : List Value) (s : ByteArray) (w : World) (h : Lib.IsBuilderF 64 5 B b bs w) (hlen : bs.length + s.size ≤ 140737488355328) (hBw : B ≤ w.heap.size) :
    Calls Tryz.prog 64 #[.pointer (some ⟨b, 0, none⟩), .string s] w fun e w' => e = .returned (.tuple #[.int .i64 s.size, .nilIface]) ∧ (Lib.BuilderAtF 64 5 B b (.pointer (some ⟨b, 0, none⟩)) (bs ++ Lib.strCells s) w' ∧ Below B w w' ∧ Lib.OthersKept 5 (some b) w w') :=
  Any.Builder_WriteString_k { Tryz.lays155 with } Tryz.Builder_Extra_155 B b bs s w h hlen hBw
/-- The method value of a builder. -/
def putV (b : Nat) : Value := .func (.func 64) #[.pointer (some ⟨b, 0, none⟩)] #[]
theorem bld_later {t e : TypeId} {B b : Nat} {p : Value} {bs : List Value} {w w' : World} (h : Lib.BuilderAtF t e B b p bs w) (hB : Below w.heap.size w w') : Lib.BuilderAtF t e B b p bs w' := by
  obtain ⟨h1, v, hb, hown, hne⟩ := h
  refine ⟨h1, v, (hB.block b (Array.getElem?_eq_some_iff.1 hb).1).trans hb, ⟨hown.1, ?_⟩, hne⟩
  rcases hown.2 with hn | ⟨g, cap, cur, fz, rfl, hb2, hgg, rest⟩
  · exact .inl hn
  · exact .inr ⟨g, cap, cur, fz, rfl, hb2, (hB.block g (Array.getElem?_eq_some_iff.1 hgg).1).trans hgg, rest⟩
theorem isb_later {t e : TypeId} {B b : Nat} {bs : List Value} {w w' : World} (h : Lib.IsBuilderF t e B b bs w) (hB : Below w.heap.size w w') : Lib.IsBuilderF t e B b bs w' :=
  h.elim (fun x => .inl (bld_later x hB)) (fun x => .inr (bld_later x hB))
theorem isb_at {t e : TypeId} {B b : Nat} {bs : List Value} {w : World} (h : Lib.IsBuilderF t e B b bs w) : ∃ c, w.heap[b]? = some (.cells c t (0, 0)) := by
  rcases h with ⟨_, v, hb, _⟩ | ⟨_, v, hb, _⟩ <;> exact ⟨_, hb⟩
/-- What is told so far: 'g' is the address's block, 'b' the builder's, 'p' the box of the method value. -/
structure Out (w0 : World) (g b p : Nat) (u : U) (pv : Value) (l : T) (W : World) : Prop where
  bel : Below w0.heap.size w0 W
  url : UrlAt W g u pv
  bld : Lib.IsBuilderF 64 5 w0.heap.size b (Lib.byteCells l) W
  box : W.heap[p]? = some (.cells #[putV b] 65 (0, 0))
section
variable {w0 W W' : World} {g b p : Nat} {u : U} {pv : Value} {l : T}
theorem Out.later (h : Out w0 g b p u pv l W) (hB : Below W.heap.size W W') : Out w0 g b p u pv l W' :=
  ⟨Ascii.below2 h.bel hB, h.url.later hB, isb_later h.bld hB, (hB.block p (Array.getElem?_eq_some_iff.1 h.box).1).trans h.box⟩
theorem Out.wrote (h : Out w0 g b p u pv l W) {s : T} (k : Lib.BuilderAtF 64 5 w0.heap.size b (.pointer (some ⟨b, 0, none⟩)) (Lib.byteCells l ++ Lib.strCells (tb s)) W') (hB : Below w0.heap.size W W') (ho : Lib.OthersKept 5 (some b) W W') : Out w0 g b p u pv (l ++ s) W' := by
  obtain ⟨c, hc⟩ := isb_at h.bld
  refine ⟨h.bel.trans hB, ho g _ h.url ?_ (fun c fz e => by cases e), ?_, ho p _ h.box ?_ (fun c fz e => by cases e)⟩
  · intro e
    cases e
    have := h.url
    unfold UrlAt at this
    rw [hc] at this
    cases this
  · have e : Lib.byteCells (l ++ s) = Lib.byteCells l ++ Lib.strCells (tb s) := by simp [Lib.byteCells, Lib.strCells, tb]
    rw [e]; exact .inr k
  · intro e
    cases e
    have := h.box
    rw [hc] at this
    cases this
theorem put_out (h : Out w0 g b p u pv l W) (s : T) (hs : l.length + s.length ≤ 140737488355328) :
    Calls Tryz.prog 64 #[.pointer (some ⟨b, 0, none⟩), .string (tb s)] W fun e W' => e = .returned (.tuple #[.int .i64 s.length, .nilIface]) ∧ Out w0 g b p u pv (l ++ s) W' ∧ Lib.OthersKept 5 (some b) W W' := by
  refine (write_k w0.heap.size b (Lib.byteCells l) (tb s) W h.bld (by rw [Lib.byteCells_length, tb_size]; exact hs) h.bel.size).mono ?_
  rintro e W' ⟨rfl, h1, h2, h3⟩
  exact ⟨by rw [tb_size], h.wrote h1 h2 h3, h3⟩
theorem Out.ne (h : Out w0 g b p u pv l W) {q : Nat} {c : Array Value} {fz : Nat × Nat} (hq : W.heap[q]? = some (.cells c 9 fz)) : some q ≠ some b := by
  obtain ⟨x, hc⟩ := isb_at h.bld
  intro e
  cases e
  rw [hc] at hq
  cases hq
end
theorem flat_take (ts : List T) (k : Nat) (h : k < ts.length) : (ts.take (k + 1)).flatten = (ts.take k).flatten ++ ts[k] := by
  rw [List.take_succ_eq_append_getElem h, List.flatten_append]; simp
theorem sum_take (ts : List T) (k : Nat) : (ts.take k).flatten.length ≤ ts.flatten.length := by
  conv => rhs; rw [← List.take_append_drop k ts, List.flatten_append, List.length_append]
  omega
set_option maxHeartbeats 4000000 in
/-- The closure: texts are put just if they are there. -/
theorem putIf_yes {w0 W : World} {g b p : Nat} {u : U} {pv : Value} {l : T} (ts : List T) (hts : ts.length ≤ 1000) (q n : Nat) (hn : ts.length = n) (h : Out w0 g b p u pv l W)
    (hq : W.heap[q]? = some (.cells (ts.map Path.tx).toArray 9 (0, 0))) (hlen : l.length + ts.flatten.length ≤ 140737488355328) :
    Calls Tryz.prog 104 #[.bool true, .slice (some ⟨q, 0, none⟩) n n, .pointer (some ⟨p, 0, none⟩)] W fun e W' => e = .returned (.tuple #[]) ∧ Out w0 g b p u pv (l ++ ts.flatten) W' := by
  subst hn
  have HO := Lib.hid h
  have HQ := Lib.hid hq
  have HL := Lib.hid hlen
  clear h hq hlen
  go_enter Tryz.func104, Tryz.ntmps104
  go_wp2
  go_loopw [11] (fun i wr => ∃ k : Nat, k ≤ ts.length ∧ i = .int .i64 k ∧ Hid (Out w0 g b p u pv (l ++ (ts.take k).flatten) wr) ∧ Hid (wr.heap[q]? = some (.cells (ts.map Path.tx).toArray 9 (0, 0)))) (fun i _ => ts.length - (intOf i).toNat)
  case atStart => exact ⟨0, Nat.zero_le _, rfl, by rw [List.take_zero, List.flatten_nil, List.append_nil]; exact HO, HQ⟩
  case round =>
    obtain ⟨k, hk, rfl, HO, HQ⟩ := hrel
    by_cases hlt : k < ts.length
    · have gc : wr.cell? ⟨q, k, none⟩ = some (Path.tx ts[k]) := by
        rw [cell_of_row wr q k _ 9 (0, 0) HQ.out]
        simp [hlt]
      have gp : wr.cell? ⟨p, 0, none⟩ = some (putV b) := by rw [cell_of_row wr p 0 _ 65 (0, 0) HO.out.box]; rfl
      unfold Path.tx at gc
      have h1 := sum_take ts (k + 1)
      have h2 := HL.out
      have h3 := flat_take ts k hlt
      have CP := Lib.hid (put_out HO.out ts[k] (by rw [List.length_append]; rw [h3, List.length_append] at h1; omega))
      rw [List.append_assoc, ← h3] at CP
      unfold putV at gp
      generalize ts[k] = t at gc CP
      have HN := Lib.hid (HO.out.ne HQ.out)
      clear h1 h2 h3 HO
      go_wp2_with fail
      refine (CP.out).mono ?_
      rintro e w1 ⟨rfl, hO, hK⟩
      have HQ1 := Lib.hid (hK q _ HQ.out HN.out (fun c fz e => by cases e))
      have HO1 := Lib.hid hO
      clear hO hK HQ CP
      go_wp2
      go_roundw
      case rel => exact ⟨k + 1, by omega, by go_num, HO1, HQ1⟩
      case measure => simp [intOf]; omega
    · obtain rfl : k = ts.length := by omega
      rw [List.take_of_length_le (Nat.le_refl _)] at HO
      go_wp2
      go_end0
      exact ⟨rfl, HO.out⟩


theorem putIf_no (v : Value) (p : Nat) (W : World) : Calls Tryz.prog 104 #[.bool false, v, .pointer (some ⟨p, 0, none⟩)] W fun e W' => e = .returned (.tuple #[]) ∧ W = W' := by
  go_enter Tryz.func104, Tryz.ntmps104
  go_wp2
  exact bodyPost_ret (results_none (fn := Tryz.f104) rfl _ _ _) rfl ⟨rfl, rfl⟩
theorem putIf_out {w0 W : World} {g b p : Nat} {u : U} {pv : Value} {l : T} (c : Bool) (ts : List T) (hts : ts.length ≤ 1000) (q n : Nat) (hn : ts.length = n) (h : Out w0 g b p u pv l W)
    (hq : W.heap[q]? = some (.cells (ts.map Path.tx).toArray 9 (0, 0))) (hlen : l.length + ts.flatten.length ≤ 140737488355328) :
    Calls Tryz.prog 104 #[.bool c, .slice (some ⟨q, 0, none⟩) n n, .pointer (some ⟨p, 0, none⟩)] W fun e W' => e = .returned (.tuple #[]) ∧ Out w0 g b p u pv (l ++ if c then ts.flatten else []) W' := by
  cases c
  · refine (putIf_no _ p W).mono ?_
    rintro e W' ⟨rfl, rfl⟩
    exact ⟨rfl, by rw [if_neg (by simp), List.append_nil]; exact h⟩
  · exact putIf_yes ts hts q n hn h hq hlen
theorem ifThere_any (b : Nat) (w : World) : Calls Tryz.prog 65 #[.func (.func 64) #[.pointer (some ⟨b, 0, none⟩)] #[]] w fun e w' => e = .returned (.func (.func 104) #[] #[.pointer (some ⟨w.heap.size, 0, none⟩)]) ∧ w' = w.alloc (.cells #[putV b] 65) := by
  go_enter Tryz.func65, Tryz.ntmps65
  go_wp2
  go_ret
  exact ⟨rfl, rfl⟩
theorem ofWeb_any (u : U) (pv : Value) (h8 : u.h.p.length = 8) (b : Bool) (hb : (!decide (webI u.sch = 0)) = b) (w : World) :
    Calls Tryz.prog 66 #[.agg (cU u pv)] w fun e w' => e = .returned (.bool b) ∧ Below w.heap.size w w' := by
  have HB0 := Lib.hid (show Below w.heap.size w (w.alloc (.cells (cU u pv) 27)) from (Below.refl _ w).alloc (Nat.le_refl _) _)
  have c0 := (UrlAt.new w u pv).cell 0
  rw [(cU_at u pv h8).1] at c0
  have WW := Lib.hid (fun v => web_any (tb u.sch) (webI u.sch) rfl v)
  generalize webI u.sch = z at WW hb
  generalize tb u.sch = s at WW c0
  generalize cU u pv = C at c0 HB0 ⊢
  clear h8
  have q3 : ((z != 0) : Bool) = b := by rw [← hb]; by_cases h : z = 0 <;> simp [h]
  clear hb
  go_enter Tryz.func66, Tryz.ntmps66
  go_wp2_with fail
  refine (WW.out _).mono ?_
  rintro e u1 ⟨rfl, rfl⟩
  go_wp2
  go_ret
  exact ⟨rfl, HB0.out⟩
theorem out_new {w V : World} {g : Nat} {u : U} {pv : Value} (hB : Below w.heap.size w V) (hU : UrlAt V g u pv) :
    Out w g V.heap.size (V.heap.size + 1) u pv [] ((V.alloc (.cells #[.pointer none, .slice none 0 0] 64)).alloc (.cells #[putV V.heap.size] 65)) := by
  have hs : (V.alloc (.cells #[.pointer none, .slice none 0 0] 64)).heap.size = V.heap.size + 1 := Array.size_push _
  have b1 := (Below.refl V.heap.size V).alloc (Nat.le_refl _) (.cells #[.pointer none, .slice none 0 0] 64)
  have b2 := b1.alloc (by omega) (.cells #[putV V.heap.size] 65)
  refine ⟨Ascii.below2 hB b2, hU.later b2, .inl ?_, ?_⟩
  · have h0 : Lib.BuilderAtF 64 5 w.heap.size V.heap.size (.pointer none) (Lib.byteCells []) (V.alloc (.cells #[.pointer none, .slice none 0 0] 64)) :=
      ⟨hB.size, .slice none 0 0, heap_alloc_new V _, ⟨rfl, .inl ⟨rfl, rfl⟩⟩, by simp [Value.ownBlock]⟩
    exact Lib.BuilderAtF.alloc h0 _
  · rw [← hs]; exact heap_alloc_new _ _
end Go.Proofs.YtkjkcgbmfglihaaGreatDoor.Show

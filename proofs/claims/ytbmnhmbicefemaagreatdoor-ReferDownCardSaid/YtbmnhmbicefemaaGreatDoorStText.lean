/-
  An address in a struct of its own: such a block, its build, its assertion, its method; the texts of the three.
-/
import Derived.Test.YtbmnhmbicefemaaGreatDoorStFacts
namespace Go.Proofs.YtbmnhmbicefemaaGreatDoor.Strip
set_option linter.unusedSimpArgs false
set_option linter.unusedVariables false
set_option maxRecDepth 100000


open Go.RowKit Go.Shelf

open Url Show Origin

open Host (H none0 mayH showH localH)

open Path (Strs)

set_option maxRecDepth 100000

theorem src_len (u : U) (hf : Fit u) : (srcT u).length ≤ 300 := by
  by_cases h : mayU u = true ∧ webI u.sch ≠ 0
  · exact src_short (tells_of h.1 h.2) hf
  · unfold srcT
    rw [show_not h]
    decide

/-- A block that holds an address alone. -/
def WAt (T : TypeId) (W : World) (g : Nat) (u : U) (pv : Value) : Prop := W.heap[g]? = some (.cells (cU u pv) T (0, 0))

theorem WAt.lt {T : TypeId} {w : World} {g : Nat} {u : U} {pv : Value} (a : WAt T w g u pv) : g < w.heap.size := (Array.getElem?_eq_some_iff.1 a).1

theorem WAt.new (T : TypeId) (w : World) (u : U) (pv : Value) : WAt T (w.alloc (.cells (cU u pv) T)) w.heap.size u pv := heap_alloc_new w _

theorem WAt.later {T : TypeId} {w v : World} {g : Nat} {u : U} {pv : Value} (a : WAt T w g u pv) (hB : Below w.heap.size w v) : WAt T v g u pv := (hB.block g a.lt).trans a

theorem wp_loadW {T : TypeId} {ops : Array Oper} {rest : List Oper} {o : Oper} {a : Act} {w : World} {Q : Exit → Act → World → Prop} (hgd : Region.wanted o (yielded ops a.tmps) = true) (x : Operand) (ho : o.op = .load 27 x) (g : Nat) (hx : a.eval x = .pointer (some ⟨g, 0, none⟩))
    (u : U) (pv : Value) (h8 : u.h.p.length = 8) (hr : WAt T w g u pv) (hk : wpList Tryz.prog ops Q rest (a.put o.dst (.agg (cU u pv))) w) : wpList Tryz.prog ops Q (o :: rest) a w :=
  Six.wpList_taken hgd fun _ hK => wp_load_row 27 x ho g hx T (cU u pv) (0, 0) _ hr Tryz.underlying27 rfl (by rw [cU_size u pv h8]; exact size27) (hK _ _ hk)

theorem wp_buildW {ops : Array Oper} {rest : List Oper} {o : Oper} {a : Act} {w : World} {Q : Exit → Act → World → Prop} (T : TypeId) (hgd : o.guard = none) (x : Operand) (ho : o.op = .build T #[(0, x)]) (cs : Array Value) (hx : a.eval x = .agg cs)
    (hb : Tryz.prog.built T [(0, .agg cs)] = some cs) (hk : wpList Tryz.prog ops Q rest (a.put o.dst (.agg cs)) w) : wpList Tryz.prog ops Q (o :: rest) a w :=
  wpList_plain hgd fun _ hK => by
    unfold Oper.wp execOp
    have hb' : Tryz.prog.built T (#[(0, a.eval x)] : Array (Nat × Value)).toList = some cs := by rw [hx]; exact hb
    simp only [ho, Sem.run_bind, List.map_toArray, List.map_cons, List.map_nil, run_build w T _ _ hb', Result.andThen_ok]
    exact hK _ _ hk

theorem built_src (u : U) (sa : Option Addr) (sn sc : Nat) (h8 : u.h.p.length = 8) : Tryz.prog.built 58 [(0, .agg (cU u (.slice sa sn sc)))] = some (cU u (.slice sa sn sc)) := by
  obtain ⟨sch, usr, pas, ⟨k, s, n, p⟩, port, path, opq, qry, frg, hq, hf⟩ := u
  obtain ⟨a, b, c, d, e, f, g, i, rfl⟩ := eight h8
  kernel_rfl

theorem is_src (v : Value) (w : World) : (Instr.typeAssert (.iface 58 v) 20 84 true).run Tryz.prog w = .ok (.tuple #[.iface 58 v, .bool true]) w := by kernel_rfl

theorem method_src (p : Array Value) (w : World) (n : Nat) : (method (n + 1) 58 (.agg p) "postmark/strip.text").run Tryz.prog w = .ok (255, .agg p) w := by kernel_rfl

theorem built_whl (u : U) (sa : Option Addr) (sn sc : Nat) (h8 : u.h.p.length = 8) : Tryz.prog.built 59 [(0, .agg (cU u (.slice sa sn sc)))] = some (cU u (.slice sa sn sc)) := by
  obtain ⟨sch, usr, pas, ⟨k, s, n, p⟩, port, path, opq, qry, frg, hq, hf⟩ := u
  obtain ⟨a, b, c, d, e, f, g, i, rfl⟩ := eight h8
  kernel_rfl

theorem is_whl (v : Value) (w : World) : (Instr.typeAssert (.iface 59 v) 20 84 true).run Tryz.prog w = .ok (.tuple #[.iface 59 v, .bool true]) w := by kernel_rfl

theorem method_whl (p : Array Value) (w : World) (n : Nat) : (method (n + 1) 59 (.agg p) "postmark/strip.text").run Tryz.prog w = .ok (285, .agg p) w := by kernel_rfl

theorem built_cap (u : U) (sa : Option Addr) (sn sc : Nat) (h8 : u.h.p.length = 8) : Tryz.prog.built 109 [(0, .agg (cU u (.slice sa sn sc)))] = some (cU u (.slice sa sn sc)) := by
  obtain ⟨sch, usr, pas, ⟨k, s, n, p⟩, port, path, opq, qry, frg, hq, hf⟩ := u
  obtain ⟨a, b, c, d, e, f, g, i, rfl⟩ := eight h8
  kernel_rfl

theorem is_cap (v : Value) (w : World) : (Instr.typeAssert (.iface 109 v) 20 84 true).run Tryz.prog w = .ok (.tuple #[.iface 109 v, .bool true]) w := by kernel_rfl

theorem method_cap (p : Array Value) (w : World) (n : Nat) : (method (n + 1) 109 (.agg p) "postmark/strip.text").run Tryz.prog w = .ok (293, .agg p) w := by kernel_rfl

theorem is_nil (w : World) : (Instr.typeAssert .nilIface 20 84 true).run Tryz.prog w = .ok (.tuple #[.nilIface, .bool false]) w := by kernel_rfl

theorem strs_slice {W : World} {v : Value} {l : List T} (h : Strs W v l) : ∃ sa sn sc, v = .slice sa sn sc := by
  obtain ⟨a, c, rfl, _⟩ := h
  exact ⟨_, _, _, rfl⟩

theorem built_of_src (u : U) (pv : Value) (h8 : u.h.p.length = 8) {W : World} (h : Strs W pv u.path) : Tryz.prog.built 58 [(0, .agg (cU u pv))] = some (cU u pv) := by
  obtain ⟨sa, sn, sc, rfl⟩ := strs_slice h
  exact built_src u sa sn sc h8

theorem built_of_whl (u : U) (pv : Value) (h8 : u.h.p.length = 8) {W : World} (h : Strs W pv u.path) : Tryz.prog.built 59 [(0, .agg (cU u pv))] = some (cU u pv) := by
  obtain ⟨sa, sn, sc, rfl⟩ := strs_slice h
  exact built_whl u sa sn sc h8

theorem built_of_cap (u : U) (pv : Value) (h8 : u.h.p.length = 8) {W : World} (h : Strs W pv u.path) : Tryz.prog.built 109 [(0, .agg (cU u pv))] = some (cU u pv) := by
  obtain ⟨sa, sn, sc, rfl⟩ := strs_slice h
  exact built_cap u sa sn sc h8

set_option maxHeartbeats 16000000 in
theorem text_src (u : U) (pv : Value) (hf : Fit u) (x : ByteArray) (hx : tb (srcT u) = x) (m : Int) (w : World) (hm : Six.At m w) (hs : Strs w pv u.path) (hk : u.h.k = 3 → Six.Known) :
    Calls Tryz.prog 255 #[.agg (cU u pv)] w fun e w' => e = .returned (.string x) ∧ Below w.heap.size w w' := by
  have H8 := Lib.hid hf.h8
  have HB0 := Lib.hid (show Below w.heap.size w (w.alloc (.cells (cU u pv) 58)) from (Below.refl _ w).alloc (Nat.le_refl _) _)
  have HW := Lib.hid (WAt.new 58 w u pv)
  have HM := Lib.hid (hm.later HB0.out)
  have HS := Lib.hid (hs.later HB0.out)
  obtain ⟨o, ho⟩ : ∃ o, ofU u = o := ⟨_, rfl⟩
  obtain ⟨q8, qs, ql⟩ := of_size u hf
  rw [ho] at q8 qs ql
  obtain ⟨S, hS⟩ : ∃ n, tb (showO o) = n := ⟨_, rfl⟩
  have CO := Lib.hid (fun y hm hs => of_any u pv hf o ho m y hm hs)
  have hk2 : o.h.k = 3 → Six.Known := fun e => hk (of_kind u (by rw [ho]; exact e))
  have CS := Lib.hid (fun y hm => oshow_any' o q8 qs ql S hS m y hm hk2)
  have hl := src_len u hf
  have HL := Lib.hid (show S.size ≤ 300 by
    unfold srcT at hl
    rw [ho, List.length_append] at hl
    rw [size_tb hS]
    exact Nat.le_trans (Nat.le_add_right _ _) hl)
  have HX := Lib.hid (show S ++ (⟨#[47]⟩ : ByteArray) = x by
    rw [← hx, ← hS]
    unfold srcT
    rw [ho]
    apply ByteArray.ext
    apply Array.toList_inj.1
    show (tb (showO o) ++ (⟨#[47]⟩ : ByteArray)).data.toList = _
    rw [Path.text_append, tb_list, tb_list])
  clear hf hx hm hs ho q8 qs ql hS hl hk hk2
  have hw := HW.out
  go_enter Tryz.func255, Tryz.ntmps255
  go_wp2_with ((with_reducible refine wp_loadW (T := 58) (o := ⟨some 4, .load 27 (.tmp 3), _, _, _, _⟩) ?_ (.tmp 3) ?_ w.heap.size ?_ u pv H8.out hw ?_); (· rfl); (· rfl); (· rfl); simp only [Act.put, List.setIfInBounds_toArray, List.set_cons_zero, List.set_cons_succ])
  clear hw
  generalize (w.alloc (.cells (cU u pv) 58)) = W at HB0 HW HM HS ⊢
  refine (CO.out _ HM.out HS.out).mono ?_
  rintro e u1 ⟨rfl, hB⟩
  have HM1 := Lib.hid (HM.out.later hB)
  have HB1 := Lib.hid (Ascii.below2 HB0.out hB)
  clear hB CO HB0 HM HS HW
  go_wp2_with fail
  refine (CS.out _ HM1.out).mono ?_
  rintro e u2 ⟨rfl, hB⟩
  have HB2 := Lib.hid (Ascii.below2 HB1.out hB)
  clear hB CS
  have a1 := HL.out
  have a2 := HX.out
  go_wp2
  go_ret
  exact ⟨by first | rfl | rw [a2], HB2.out⟩

set_option maxHeartbeats 16000000 in
theorem text_whl (u : U) (pv : Value) (hf : Fit u) (x : ByteArray) (hx : tb (whlT u) = x) (m : Int) (w : World) (hm : Six.At m w) (hs : Strs w pv u.path) (hk : u.h.k = 3 → Six.Known) :
    Calls Tryz.prog 285 #[.agg (cU u pv)] w fun e w' => e = .returned (.string x) ∧ Below w.heap.size w w' := by
  have H8 := Lib.hid hf.h8
  have HB0 := Lib.hid (show Below w.heap.size w (w.alloc (.cells (cU u pv) 59)) from (Below.refl _ w).alloc (Nat.le_refl _) _)
  have HW := Lib.hid (WAt.new 59 w u pv)
  have HM := Lib.hid (hm.later HB0.out)
  have HS := Lib.hid (hs.later HB0.out)
  have CO := Lib.hid (fun y hs => Show.open_any u pv hf y hs)
  have CS := Lib.hid (fun v y hm hs => Show.show_any' (openU u) v (open_fit hf) x hx m y hm hs hk)
  clear hf hx hm hs hk
  have hw := HW.out
  go_enter Tryz.func285, Tryz.ntmps285
  go_wp2_with ((with_reducible refine wp_loadW (T := 59) (o := ⟨some 4, .load 27 (.tmp 3), _, _, _, _⟩) ?_ (.tmp 3) ?_ w.heap.size ?_ u pv H8.out hw ?_); (· rfl); (· rfl); (· rfl); simp only [Act.put, List.setIfInBounds_toArray, List.set_cons_zero, List.set_cons_succ])
  clear hw
  generalize (w.alloc (.cells (cU u pv) 59)) = W at HB0 HW HM HS ⊢
  refine (CO.out _ HS.out).mono ?_
  rintro e u1 ⟨v, rfl, hst, hn, hB⟩
  have HM1 := Lib.hid (HM.out.later hB)
  have HB1 := Lib.hid (Ascii.below2 HB0.out hB)
  have HT1 := Lib.hid hst
  clear hB hn hst CO HB0 HM HS HW
  go_wp2_with fail
  refine (CS.out _ _ HM1.out HT1.out).mono ?_
  rintro e u2 ⟨rfl, hB⟩
  have HB2 := Lib.hid (Ascii.below2 HB1.out hB)
  clear hB CS
  go_wp2
  go_ret
  exact ⟨rfl, HB2.out⟩

set_option maxHeartbeats 16000000 in
theorem text_cap (u : U) (pv : Value) (hf : Fit u) (x : ByteArray) (hx : tb (capW u) = x) (m : Int) (w : World) (hm : Six.At m w) (hs : Strs w pv u.path) (hk : u.h.k = 3 → Six.Known) :
    Calls Tryz.prog 293 #[.agg (cU u pv)] w fun e w' => e = .returned (.string x) ∧ Below w.heap.size w w' := by
  have H8 := Lib.hid hf.h8
  have HB0 := Lib.hid (show Below w.heap.size w (w.alloc (.cells (cU u pv) 109)) from (Below.refl _ w).alloc (Nat.le_refl _) _)
  have HW := Lib.hid (WAt.new 109 w u pv)
  have HM := Lib.hid (hm.later HB0.out)
  have HS := Lib.hid (hs.later HB0.out)
  obtain ⟨S, hS⟩ : ∃ n, tb (srcT u) = n := ⟨_, rfl⟩
  obtain ⟨F, hF⟩ : ∃ n, tb (whlT u) = n := ⟨_, rfl⟩
  have C1 := Lib.hid (fun y hm hs => text_src u pv hf S hS m y hm hs hk)
  have C2 := Lib.hid (fun y hm hs => text_whl u pv hf F hF m y hm hs hk)
  obtain ⟨D, hD⟩ : ∃ b, decide ((F.size : Int) ≤ 4096) = b := ⟨_, rfl⟩
  have HX := Lib.hid (show (if D then F else S) = x by
    rw [← hx]
    unfold capW
    have e : F.size = (whlT u).length := size_tb hF
    by_cases h : (whlT u).length ≤ 4096
    · have : D = true := by rw [← hD]; exact decide_eq_true (by omega)
      rw [this, if_pos h, hF]; rfl
    · have : D = false := by rw [← hD]; exact decide_eq_false (by omega)
      rw [this, if_neg h, hS]; rfl)
  have HQ1 := Lib.hid (fun (W : World) (h : Strs W pv u.path) => built_of_whl u pv hf.h8 h)
  have HQ2 := Lib.hid (fun (W : World) (h : Strs W pv u.path) => built_of_src u pv hf.h8 h)
  have q1 := HQ1.out _ hs
  have q2 := HQ2.out _ hs
  clear hf hx hm hs hS hF HQ1 HQ2 hk
  have hw := HW.out
  go_enter Tryz.func293, Tryz.ntmps293
  go_wp2_with (first | ((with_reducible refine wp_loadW (T := 109) (o := ⟨some 5, .load 27 (.tmp 4), _, _, _, _⟩) ?_ (.tmp 4) ?_ w.heap.size ?_ u pv H8.out hw ?_); (· rfl); (· rfl); (· rfl); simp only [Act.put, List.setIfInBounds_toArray, List.set_cons_zero, List.set_cons_succ]) | ((with_reducible refine wp_buildW (o := ⟨some 6, .build 59 #[(0, .tmp 5)], _, _, _, _⟩) 59 ?_ (.tmp 5) ?_ (cU u pv) ?_ q1 ?_); (· rfl); (· rfl); (· rfl); simp only [Act.put, List.setIfInBounds_toArray, List.set_cons_zero, List.set_cons_succ]))
  clear hw q1
  generalize (w.alloc (.cells (cU u pv) 109)) = W at HB0 HW HM HS ⊢
  refine (C2.out _ HM.out HS.out).mono ?_
  rintro e u1 ⟨rfl, hB⟩
  have HM1 := Lib.hid (HM.out.later hB)
  have HS1 := Lib.hid (HS.out.later hB)
  have HW1 := Lib.hid (HW.out.later hB)
  have HB1 := Lib.hid (Ascii.below2 HB0.out hB)
  clear hB C2 HB0 HM HS HW
  cases D
  · have hw := HW1.out
    go_wp2_with (first | ((with_reducible refine wp_loadW (T := 109) (o := ⟨some 13, .load 27 (.tmp 12), _, _, _, _⟩) ?_ (.tmp 12) ?_ w.heap.size ?_ u pv H8.out hw ?_); (· rfl); (· rfl); (· rfl); simp only [Act.put, List.setIfInBounds_toArray, List.set_cons_zero, List.set_cons_succ]) | ((with_reducible refine wp_buildW (o := ⟨some 14, .build 58 #[(0, .tmp 13)], _, _, _, _⟩) 58 ?_ (.tmp 13) ?_ (cU u pv) ?_ q2 ?_); (· rfl); (· rfl); (· rfl); simp only [Act.put, List.setIfInBounds_toArray, List.set_cons_zero, List.set_cons_succ]))
    clear hw
    refine (C1.out _ HM1.out HS1.out).mono ?_
    rintro e u2 ⟨rfl, hB⟩
    have HB2 := Lib.hid (Ascii.below2 HB1.out hB)
    clear hB
    go_wp2
    go_ret
    exact ⟨by rw [← HX.out]; rfl, HB2.out⟩
  · go_wp2
    go_ret
    exact ⟨by rw [← HX.out]; rfl, HB1.out⟩

end Go.Proofs.YtbmnhmbicefemaaGreatDoor.Strip

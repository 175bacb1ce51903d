/-
  Pairs of addresses, and answers, as values and on the heap; built, loaded, compared.
  What is asked of a pair, whether two answer just so; From, Down, Level, Referer.
-/
import Derived.Test.YtbmnhmbicefemaaGreatDoorRfFacts
import Derived.Test.YtbmnhmbicefemaaGreatDoorStAsk
import Derived.Test.YtbmnhmbicefemaaGreatDoorPlLoops
namespace Go.Proofs.YtbmnhmbicefemaaGreatDoor.Refer
set_option linter.unusedSimpArgs false
set_option linter.unusedVariables false
set_option maxRecDepth 100000


open Go.RowKit Go.Shelf

open Url Show Origin Strip

open Host (H none0 mayH showH localH)

open Path (Strs)

open Policy (allowI TabAt)

set_option maxRecDepth 100000

/-- A pair's cells. -/
def cP (u v : U) (pu pv : Value) : Array Value := cU u pu ++ cU v pv

theorem cP_size (u v : U) (pu pv : Value) (h8 : u.h.p.length = 8) (k8 : v.h.p.length = 8) : (cP u v pu pv).size = 42 := by
  unfold cP
  rw [Array.size_append, cU_size u pu h8, cU_size v pv k8]

theorem cP_from (u v : U) (pu pv : Value) (h8 : u.h.p.length = 8) (j : Nat) (hj : j < 21) : (cP u v pu pv)[0 + j]? = (cU u pu)[j]? := by
  unfold cP
  rw [Nat.zero_add, Array.getElem?_append_left (by rw [cU_size u pu h8]; exact hj)]

theorem cP_to (u v : U) (pu pv : Value) (h8 : u.h.p.length = 8) (j : Nat) (hj : j < 21) : (cP u v pu pv)[21 + j]? = (cU v pv)[j]? := by
  unfold cP
  rw [Array.getElem?_append_right (by rw [cU_size u pu h8]; omega), cU_size u pu h8, Nat.add_sub_cancel_left]

def PAt (W : World) (g : Nat) (u v : U) (pu pv : Value) : Prop := W.heap[g]? = some (.cells (cP u v pu pv) 52 (0, 0))

theorem PAt.lt {w : World} {g : Nat} {u v : U} {pu pv : Value} (a : PAt w g u v pu pv) : g < w.heap.size := (Array.getElem?_eq_some_iff.1 a).1

theorem PAt.new (w : World) (u v : U) (pu pv : Value) : PAt (w.alloc (.cells (cP u v pu pv) 52)) w.heap.size u v pu pv := heap_alloc_new w _

theorem PAt.past {w : World} {g : Nat} {u v : U} {pu pv : Value} (a : PAt w g u v pu pv) (x : Obj) : PAt (w.alloc x) g u v pu pv := (heap_alloc_old w x a.lt).trans a

theorem PAt.later {w y : World} {g : Nat} {u v : U} {pu pv : Value} (a : PAt w g u v pu pv) (hB : Below w.heap.size w y) : PAt y g u v pu pv := (hB.block g a.lt).trans a

/-- An address that lies within a block. -/
theorem load_mid {w : World} {g : Nat} {T : TypeId} {cs : Array Value} {fr : Nat × Nat} (h : w.heap[g]? = some (.cells cs T fr)) (off : Nat) (l : Array Value) (hs : l.size = 21) (hl : ∀ j, j < 21 → cs[off + j]? = l[j]?) :
    (loadVar 27 ⟨g, off, none⟩).run Tryz.prog w = .ok (.agg l) w := by
  have hl : (loadCells ⟨g, off, none⟩ l.toList.length).run Tryz.prog w = .ok l.toList.toArray w :=
    run_loadCells_list (P := Tryz.prog) w ⟨g, off, none⟩ l.toList (fun j v hv => by
      have hadd : (⟨g, off, none⟩ : Addr).add j = ⟨g, off + j, none⟩ := by unfold Addr.add; split <;> simp_all
      have hj : j < 21 := by have := (List.getElem?_eq_some_iff.1 hv).1; rwa [Array.length_toList, hs] at this
      rw [hadd, cell_of_row w g (off + j) cs T fr h, hl j hj]
      simpa using hv)
  have hagg : (isAgg 27).run Tryz.prog w = .ok true w := by kernel_rfl
  have hsz : (sizeOf 27).run Tryz.prog w = .ok 21 w := by kernel_rfl
  have hlen : l.toList.length = 21 := by rw [Array.length_toList, hs]
  rw [hlen] at hl
  simp [loadVar, Sem.run_bind, hagg, hsz, hl]

theorem PAt.from {w : World} {g : Nat} {u v : U} {pu pv : Value} (a : PAt w g u v pu pv) (h8 : u.h.p.length = 8) : (loadVar 27 ⟨g, 0, none⟩).run Tryz.prog w = .ok (.agg (cU u pu)) w :=
  load_mid a 0 _ (cU_size u pu h8) (cP_from u v pu pv h8)

theorem PAt.to {w : World} {g : Nat} {u v : U} {pu pv : Value} (a : PAt w g u v pu pv) (h8 : u.h.p.length = 8) (k8 : v.h.p.length = 8) : (loadVar 27 ⟨g, 21, none⟩).run Tryz.prog w = .ok (.agg (cU v pv)) w :=
  load_mid a 21 _ (cU_size v pv k8) (cP_to u v pu pv h8)

theorem builtP (u v : U) (sa : Option Addr) (sn sc : Nat) (ta : Option Addr) (tn tc : Nat) (h8 : u.h.p.length = 8) (k8 : v.h.p.length = 8) :
    Tryz.prog.built 52 [(0, .agg (cU u (.slice sa sn sc))), (1, .agg (cU v (.slice ta tn tc)))] = some (cP u v (.slice sa sn sc) (.slice ta tn tc)) := by
  obtain ⟨sch, usr, pas, ⟨k, s, n, p⟩, port, path, opq, qry, frg, hq, hf⟩ := u
  obtain ⟨sch', usr', pas', ⟨k', s', n', p'⟩, port', path', opq', qry', frg', hq', hf'⟩ := v
  obtain ⟨a, b, c, d, e, f, g, i, rfl⟩ := eight h8
  obtain ⟨a', b', c', d', e', f', g', i', rfl⟩ := eight k8
  kernel_rfl

theorem builtP_of {W : World} (u v : U) (pu pv : Value) (h8 : u.h.p.length = 8) (k8 : v.h.p.length = 8) (h : Strs W pu u.path) (k : Strs W pv v.path) :
    Tryz.prog.built 52 [(0, .agg (cU u pu)), (1, .agg (cU v pv))] = some (cP u v pu pv) := by
  obtain ⟨sa, sn, sc, rfl⟩ := strs_slice h
  obtain ⟨ta, tn, tc, rfl⟩ := strs_slice k
  exact builtP u v sa sn sc ta tn tc h8 k8
/-! ### answers -/

theorem built1 : Tryz.prog.built 54 [(0, .bool true)] = some #[.bool true, .bool false] := by kernel_rfl

theorem built2 (a b : Bool) : Tryz.prog.built 54 [(0, .bool a), (1, .bool b)] = some #[.bool a, .bool b] := by kernel_rfl

def AAt (W : World) (g : Nat) (a b : Bool) : Prop := W.heap[g]? = some (.cells #[.bool a, .bool b] 54 (0, 0))

theorem AAt.lt {w : World} {g : Nat} {a b : Bool} (h : AAt w g a b) : g < w.heap.size := (Array.getElem?_eq_some_iff.1 h).1

theorem AAt.new (w : World) (a b : Bool) : AAt (w.alloc (.cells #[.bool a, .bool b] 54)) w.heap.size a b := heap_alloc_new w _

theorem AAt.past {w : World} {g : Nat} {a b : Bool} (h : AAt w g a b) (x : Obj) : AAt (w.alloc x) g a b := (heap_alloc_old w x h.lt).trans h

theorem AAt.later {w y : World} {g : Nat} {a b : Bool} (h : AAt w g a b) (hB : Below w.heap.size w y) : AAt y g a b := (hB.block g h.lt).trans h

theorem AAt.row {W : World} {g : Nat} {a b : Bool} (h : AAt W g a b) (c d : Bool) : AAt (W.setRow g #[.bool c, .bool d]) g c d := setRow_heap W g _ _ 54 (0, 0) h

theorem oneA (c d : Bool) : (#[.bool c, .bool d] : Array Value).all (·.oneCell') = true := by cases c <;> cases d <;> simp [Value.oneCell']

theorem sizeA : (Tryz.prog.info? 54).map (·.size) = some 2 := by kernel_rfl

theorem AAt.load {w : World} {g : Nat} {a b : Bool} (h : AAt w g a b) : (loadVar 54 ⟨g, 0, none⟩).run Tryz.prog w = .ok (.agg #[.bool a, .bool b]) w :=
  run_loadVar_row w g 54 54 #[.bool a, .bool b] (0, 0) _ h Tryz.underlying54 rfl sizeA

theorem eqA (a b c d : Bool) (w : World) : (Op.equalIn 10000 54 (.agg #[.bool a, .bool b]) (.agg #[.bool c, .bool d])).run Tryz.prog w = .ok ((a == c) && (b == d)) w := by
  cases a <;> cases b <;> cases c <;> cases d <;> kernel_rfl

theorem ret_a {fn : Func} {d : Tmp} (h : fn.results = #[.cell d 54]) {tmps : Array Value} {W : World} (g : Nat) (a b : Bool) (hp : tmps.getD d undef = .pointer (some ⟨g, 0, none⟩)) (hr : AAt W g a b) :
    (results fn tmps).run Tryz.prog W = .ok (.agg #[.bool a, .bool b]) W := by
  have hp' : tmps[d]?.getD undef = .pointer (some ⟨g, 0, none⟩) := by simpa using hp
  simp [results, h, hp', asAddr, hr.load]

theorem wp_storeA {ops : Array Oper} {rest : List Oper} {o : Oper} {a : Act} {w : World} {Q : Exit → Act → World → Prop} (hgd : o.guard = none) (x y : Operand) (ho : o.op = .store 54 x y) (g : Nat) (hx : a.eval x = .pointer (some ⟨g, 0, none⟩))
    (c d : Bool) (hy : a.eval y = .agg #[.bool c, .bool d]) (p q : Bool) (hr : AAt w g p q) (h : wpList Tryz.prog ops Q rest (a.put o.dst undef) (w.setRow g #[.bool c, .bool d])) : wpList Tryz.prog ops Q (o :: rest) a w :=
  wpList_plain hgd fun _ hK => wp_store_row 54 x y ho g #[.bool c, .bool d] hx hy 54 #[.bool p, .bool q] hr sizeA rfl (oneA c d) (hK _ _ h)

theorem wp_build2 {ops : Array Oper} {rest : List Oper} {o : Oper} {a : Act} {w : World} {Q : Exit → Act → World → Prop} (hgd : o.guard = none) (x y : Operand) (ho : o.op = .build 54 #[(0, x), (1, y)]) (c d : Bool) (hx : a.eval x = .bool c) (hy : a.eval y = .bool d)
    (hk : wpList Tryz.prog ops Q rest (a.put o.dst (.agg #[.bool c, .bool d])) w) : wpList Tryz.prog ops Q (o :: rest) a w :=
  wpList_plain hgd fun _ hK => by
    unfold Oper.wp execOp
    have hb' : Tryz.prog.built 54 (#[(0, a.eval x), (1, a.eval y)] : Array (Nat × Value)).toList = some #[.bool c, .bool d] := by rw [hx, hy]; exact built2 c d
    simp only [ho, Sem.run_bind, List.map_toArray, List.map_cons, List.map_nil, run_build w 54 _ _ hb', Result.andThen_ok]
    exact hK _ _ hk

theorem wp_build1 {ops : Array Oper} {rest : List Oper} {o : Oper} {a : Act} {w : World} {Q : Exit → Act → World → Prop} (hgd : o.guard = none) (x : Operand) (ho : o.op = .build 54 #[(0, x)]) (hx : a.eval x = .bool true)
    (hk : wpList Tryz.prog ops Q rest (a.put o.dst (.agg #[.bool true, .bool false])) w) : wpList Tryz.prog ops Q (o :: rest) a w :=
  wpList_plain hgd fun _ hK => by
    unfold Oper.wp execOp
    have hb' : Tryz.prog.built 54 (#[(0, a.eval x)] : Array (Nat × Value)).toList = some #[.bool true, .bool false] := by rw [hx]; exact built1
    simp only [ho, Sem.run_bind, List.map_toArray, List.map_cons, List.map_nil, run_build w 54 _ _ hb', Result.andThen_ok]
    exact hK _ _ hk



set_option maxRecDepth 100000

set_option maxHeartbeats 16000000 in
theorem trusted_any (u v : U) (pu pv : Value) (hf : Fit u) (hg : Fit v) (a b : Bool) (ha : trustU u = a) (hb : trustU v = b) (m : Int) (w : World) (hm : Six.At m w) (hs : Strs w pu u.path) (ht : Strs w pv v.path) :
    Calls Tryz.prog 35 #[.agg (cP u v pu pv)] w fun e w' => e = .returned (.agg #[.bool a, .bool b]) ∧ Below w.heap.size w w' := by
  have hs1 : (w.alloc (.cells (cP u v pu pv) 52)).heap.size = w.heap.size + 1 := Array.size_push _
  have hb1 := (Below.refl w.heap.size w).alloc (Nat.le_refl _) (.cells (cP u v pu pv) 52)
  have hb2 := hb1.alloc (Nat.le_trans (Nat.le_succ _) (Nat.le_of_eq hs1.symm)) (.cells #[.bool false, .bool false] 54)
  have HB0 := Lib.hid hb2
  have HP := Lib.hid ((PAt.new w u v pu pv).past (.cells #[.bool false, .bool false] 54))
  have HA := Lib.hid (show AAt ((w.alloc (.cells (cP u v pu pv) 52)).alloc (.cells #[.bool false, .bool false] 54)) (w.heap.size + 1) false false from by rw [← hs1]; exact AAt.new _ false false)
  have HM := Lib.hid (hm.later hb2)
  have HS := Lib.hid (hs.later hb2)
  have HT := Lib.hid (ht.later hb2)
  have H8 := Lib.hid hf.h8
  have K8 := Lib.hid hg.h8
  have C1 := Lib.hid (fun y hm hs => trust_any u pu hf a ha m y hm hs)
  have C2 := Lib.hid (fun y hm ht => trust_any v pv hg b hb m y hm ht)
  clear hs1 hb1 hb2 hf hg hm hs ht ha hb
  go_enter Tryz.func35, Tryz.ntmps35
  go_wp2_with fail
  generalize ((w.alloc (.cells (cP u v pu pv) 52)).alloc (.cells #[.bool false, .bool false] 54)) = W at HB0 HP HA HM HS HT ⊢
  have hc : Below W.heap.size W W.drew := (Below.refl _ _).drew
  refine wp_region_held_drew (S := fun y => PAt y w.heap.size u v pu pv) (by kernel_rfl) (HP.out.later hc) (fun hS => ?_)
  refine wpAnyH_take (i := 0) (oi := ⟨some 3, .fieldAddr 52 (.tmp 1) 0, _, _, _, _⟩) (v := .pointer (some ⟨w.heap.size, 0, none⟩)) rfl (by kernel_rfl) (by kernel_rfl) (by kernel_rfl) (fun _ _ _ h => h) (Or.inl ⟨by rfl, ?_⟩) (by assumption) ?_
  · (intro v hv; go_simp)
  simp only [Act.put, List.setIfInBounds_toArray, List.set_cons_zero, List.set_cons_succ]
  refine wpAnyH_take (i := 1) (oi := ⟨some 4, .load 27 (.tmp 3), _, _, _, _⟩) (v := .agg (cU u pu)) rfl (by kernel_rfl) (by kernel_rfl) (by kernel_rfl) (fun _ _ _ h => h) (Or.inl ⟨by rfl, ?_⟩) (by assumption) ?_
  · (exact fun y hy => run_load_of 27 (.tmp 3) ⟨w.heap.size, 0, none⟩ rfl (.agg (cU u pu)) (hy.from H8.out))
  simp only [Act.put, List.setIfInBounds_toArray, List.set_cons_zero, List.set_cons_succ]
  refine wpAnyH_take (i := 3) (oi := ⟨some 6, .fieldAddr 52 (.tmp 1) 1, _, _, _, _⟩) (v := .pointer (some ⟨w.heap.size, 21, none⟩)) rfl (by kernel_rfl) (by kernel_rfl) (by kernel_rfl) (fun _ _ _ h => h) (Or.inl ⟨by rfl, ?_⟩) (by assumption) ?_
  · (intro v hv; go_simp)
  simp only [Act.put, List.setIfInBounds_toArray, List.set_cons_zero, List.set_cons_succ]
  refine wpAnyH_take (i := 4) (oi := ⟨some 7, .load 27 (.tmp 6), _, _, _, _⟩) (v := .agg (cU v pv)) rfl (by kernel_rfl) (by kernel_rfl) (by kernel_rfl) (fun _ _ _ h => h) (Or.inl ⟨by rfl, ?_⟩) (by assumption) ?_
  · (exact fun y hy => run_load_of 27 (.tmp 6) ⟨w.heap.size, 21, none⟩ rfl (.agg (cU v pv)) (hy.to H8.out K8.out))
  simp only [Act.put, List.setIfInBounds_toArray, List.set_cons_zero, List.set_cons_succ]
  refine wpAnyH_ready (rs := [2]) (by kernel_rfl) (by simp) ?_
  refine AllReadyH.cons (o := ⟨some 5, .call ⟨.value (.func 22), #[.tmp 4], _⟩, _, _, _, _⟩) rfl (fun K hK => ?_) AllReadyH.nil
  go_simp
  go_at_call 22
  refine (C1.out _ (HM.out.later hc) (HS.out.later hc)).mono ?_
  rintro e x ⟨rfl, hB⟩
  have hc := below_trans hc hB
  refine hK.out _ _ (HP.out.later hc) (fun hS => ?_)
  clear hB
  refine wpAnyH_ready (rs := [5]) (by kernel_rfl) (by simp) ?_
  refine AllReadyH.cons (o := ⟨some 8, .call ⟨.value (.func 22), #[.tmp 7], _⟩, _, _, _, _⟩) rfl (fun K hK => ?_) AllReadyH.nil
  go_simp
  go_at_call 22
  refine (C2.out _ (HM.out.later hc) (HT.out.later hc)).mono ?_
  rintro e x ⟨rfl, hB⟩
  have hc := below_trans hc hB
  refine hK.out _ _ (HP.out.later hc) (fun hS => ?_)
  clear hB
  refine wpAnyH_take (i := 6) (oi := ⟨some 9, .build 54 #[(0, .tmp 5), (1, .tmp 8)], _, _, _, _⟩) (v := .agg #[.bool a, .bool b]) rfl (by kernel_rfl) (by kernel_rfl) (by kernel_rfl) (fun _ _ _ h => h) (Or.inl ⟨by rfl, ?_⟩) (by assumption) ?_
  · (intro y hy; refine run_build_of rfl ?_; simp only [List.map_toArray, List.map_cons, List.map_nil]; exact built2 a b)
  simp only [Act.put, List.setIfInBounds_toArray, List.set_cons_zero, List.set_cons_succ]
  refine wpAnyH_ready (rs := [7]) (by kernel_rfl) (by simp) ?_
  refine AllReadyH.cons (o := ⟨none, .store 54 (.tmp 2) (.tmp 9), _, _, _, _⟩) rfl (fun K hK => ?_) AllReadyH.nil
  rw [if_pos (by rfl)]
  have hr := HA.out.later hc
  refine wp_store_row 54 (.tmp 2) (.tmp 9) rfl (w.heap.size + 1) #[.bool a, .bool b] rfl rfl 54 #[.bool false, .bool false] hr sizeA rfl (oneA a b) ?_
  have hp := HP.out.later hc
  refine hK.out _ _ ((Url.setRow_other _ _ _ (by omega)).trans hp) (fun hS => ?_)
  refine wpAnyH_done (by kernel_rfl) ?_ _
  have hfin := hr.row a b
  have hbe := Ascii.below2 HB0.out hc
  go_wp2
  exact bodyPost_ret (ret_a rfl (w.heap.size + 1) a b rfl hfin) rfl ⟨rfl, below_row hbe (Nat.le_succ _) _⟩

set_option maxHeartbeats 16000000 in
theorem matched_any (u v : U) (pu pv : Value) (hf : Fit u) (hg : Fit v) (b : Bool) (hb : bothU u v = b) (m : Int) (w : World) (hm : Six.At m w) (hs : Strs w pu u.path) (ht : Strs w pv v.path) :
    Calls Tryz.prog 36 #[.agg (cP u v pu pv)] w fun e w' => e = .returned (.agg #[.bool b, .bool b]) ∧ Below w.heap.size w w' := by
  have hs1 : (w.alloc (.cells (cP u v pu pv) 52)).heap.size = w.heap.size + 1 := Array.size_push _
  have hb1 := (Below.refl w.heap.size w).alloc (Nat.le_refl _) (.cells (cP u v pu pv) 52)
  have hb2 := hb1.alloc (Nat.le_trans (Nat.le_succ _) (Nat.le_of_eq hs1.symm)) (.cells #[.bool false, .bool false] 54)
  have HB0 := Lib.hid hb2
  have HP := Lib.hid ((PAt.new w u v pu pv).past (.cells #[.bool false, .bool false] 54))
  have HA := Lib.hid (show AAt ((w.alloc (.cells (cP u v pu pv) 52)).alloc (.cells #[.bool false, .bool false] 54)) (w.heap.size + 1) false false from by rw [← hs1]; exact AAt.new _ false false)
  have HM := Lib.hid (hm.later hb2)
  have HS := Lib.hid (hs.later hb2)
  have HT := Lib.hid (ht.later hb2)
  have H8 := Lib.hid hf.h8
  have K8 := Lib.hid hg.h8
  have C1 := Lib.hid (fun y hm hs ht => both_any u v pu pv hf hg b hb m y hm hs ht)
  clear hs1 hb1 hb2 hf hg hm hs ht hb
  have l1 := HP.out.from H8.out
  have l2 := HP.out.to H8.out K8.out
  go_enter Tryz.func36, Tryz.ntmps36
  go_wp2_with (first | ((with_reducible refine Host.wp_load_at (o := ⟨some 5, .load 27 (.tmp 4), _, _, _, _⟩) ?_ 27 (.tmp 4) ?_ ⟨w.heap.size, 0, none⟩ ?_ (.agg (cU u pu)) l1 ?_); (· rfl); (· rfl); (· rfl); simp only [Act.put, List.setIfInBounds_toArray, List.set_cons_zero, List.set_cons_succ]) | ((with_reducible refine Host.wp_load_at (o := ⟨some 7, .load 27 (.tmp 6), _, _, _, _⟩) ?_ 27 (.tmp 6) ?_ ⟨w.heap.size, 21, none⟩ ?_ (.agg (cU v pv)) l2 ?_); (· rfl); (· rfl); (· rfl); simp only [Act.put, List.setIfInBounds_toArray, List.set_cons_zero, List.set_cons_succ]))
  clear l1 l2
  generalize ((w.alloc (.cells (cP u v pu pv) 52)).alloc (.cells #[.bool false, .bool false] 54)) = W at HB0 HP HA HM HS HT ⊢
  refine (C1.out _ HM.out HS.out HT.out).mono ?_
  rintro e x ⟨rfl, hB⟩
  have hr := HA.out.later hB
  have hbe := Ascii.below2 HB0.out hB
  go_wp2_with (first | ((with_reducible refine wp_build2 (o := ⟨some 11, .build 54 #[(0, .tmp 9), (1, .tmp 10)], _, _, _, _⟩) ?_ (.tmp 9) (.tmp 10) ?_ b b ?_ ?_ ?_); (· rfl); (· rfl); (· rfl); (· rfl); simp only [Act.put, List.setIfInBounds_toArray, List.set_cons_zero, List.set_cons_succ]) | ((with_reducible refine wp_storeA (o := ⟨none, .store 54 (.tmp 2) (.tmp 11), _, _, _, _⟩) ?_ (.tmp 2) (.tmp 11) ?_ (w.heap.size + 1) ?_ b b ?_ false false hr ?_); (· rfl); (· rfl); (· rfl); (· rfl); simp only [Act.put, List.setIfInBounds_toArray, List.set_cons_zero, List.set_cons_succ]))
  have hfin := hr.row b b
  exact bodyPost_ret (ret_a rfl (w.heap.size + 1) b b rfl hfin) rfl ⟨rfl, below_row hbe (Nat.le_succ _) _⟩

set_option maxHeartbeats 16000000 in
theorem answers_trusted (u v : U) (pu pv : Value) (hf : Fit u) (hg : Fit v) (a b : Bool) (ha : trustU u = a) (hb : trustU v = b) (c d r : Bool) (hr : ((a == c) && (b == d)) = r) (m : Int) (w : World) (hm : Six.At m w) (hs : Strs w pu u.path) (ht : Strs w pv v.path) :
    Calls Tryz.prog 34 #[.agg (cU u pu), .agg (cU v pv), .func (.func 35) #[] #[], .agg #[.bool c, .bool d]] w fun e w' => e = .returned (.bool r) ∧ Below w.heap.size w w' := by
  have hs1 : (w.alloc (.cells (cU u pu) 27)).heap.size = w.heap.size + 1 := Array.size_push _
  have hb1 := (Below.refl w.heap.size w).alloc (Nat.le_refl _) (.cells (cU u pu) 27)
  have hb2 := hb1.alloc (Nat.le_trans (Nat.le_succ _) (Nat.le_of_eq hs1.symm)) (.cells (cU v pv) 27)
  have hs2 : ((w.alloc (.cells (cU u pu) 27)).alloc (.cells (cU v pv) 27)).heap.size = w.heap.size + 2 := by rw [show ((w.alloc (.cells (cU u pu) 27)).alloc (.cells (cU v pv) 27)).heap.size = (w.alloc (.cells (cU u pu) 27)).heap.size + 1 from Array.size_push _, hs1]
  have hb3 := hb2.alloc (by omega) (.cells #[.bool c, .bool d] 54)
  have HB0 := Lib.hid hb3
  have HU := Lib.hid (((UrlAt.new w u pu).past (.cells (cU v pv) 27)).past (.cells #[.bool c, .bool d] 54))
  have HV := Lib.hid ((show UrlAt ((w.alloc (.cells (cU u pu) 27)).alloc (.cells (cU v pv) 27)) (w.heap.size + 1) v pv from by rw [← hs1]; exact UrlAt.new _ v pv).past (.cells #[.bool c, .bool d] 54))
  have HA := Lib.hid (show AAt (((w.alloc (.cells (cU u pu) 27)).alloc (.cells (cU v pv) 27)).alloc (.cells #[.bool c, .bool d] 54)) (w.heap.size + 2) c d from by rw [← hs2]; exact AAt.new _ c d)
  have HM := Lib.hid (hm.later hb3)
  have HS := Lib.hid (hs.later hb3)
  have HT := Lib.hid (ht.later hb3)
  have H8 := Lib.hid hf.h8
  have K8 := Lib.hid hg.h8
  have hbp := builtP_of u v pu pv hf.h8 hg.h8 hs ht
  have HBP := Lib.hid hbp
  have C1 := Lib.hid (fun y hm hs ht => trusted_any u v pu pv hf hg a b ha hb m y hm hs ht)
  have HE := Lib.hid (fun y => eqA a b c d y)
  rw [hr] at HE
  clear hs1 hs2 hb1 hb2 hb3 hf hg hm hs ht ha hb hbp hr
  go_enter Tryz.func34, Tryz.ntmps34
  go_wp2_with fail
  generalize (((w.alloc (.cells (cU u pu) 27)).alloc (.cells (cU v pv) 27)).alloc (.cells #[.bool c, .bool d] 54)) = W at HB0 HU HV HA HM HS HT ⊢
  have hc : Below W.heap.size W W.drew := (Below.refl _ _).drew
  refine wp_region_held_drew (S := fun y => UrlAt y w.heap.size u pu ∧ UrlAt y (w.heap.size + 1) v pv ∧ AAt y (w.heap.size + 2) c d) (by kernel_rfl) ⟨HU.out.later hc, HV.out.later hc, HA.out.later hc⟩ (fun hS => ?_)
  refine wpAnyH_take (i := 0) (oi := ⟨some 9, .move (.tmp 2), _, _, _, _⟩) (v := .func (.func 35) #[] #[]) rfl (by kernel_rfl) (by kernel_rfl) (by kernel_rfl) (fun _ _ _ h => h) (Or.inl ⟨by rfl, ?_⟩) (by assumption) ?_
  · (intro v hv; go_simp)
  simp only [Act.put, List.setIfInBounds_toArray, List.set_cons_zero, List.set_cons_succ]
  refine wpAnyH_take (i := 1) (oi := ⟨some 10, .load 27 (.tmp 4), _, _, _, _⟩) (v := .agg (cU u pu)) rfl (by kernel_rfl) (by kernel_rfl) (by kernel_rfl) (fun _ _ _ h => h) (Or.inl ⟨by rfl, ?_⟩) (by assumption) ?_
  · (exact fun y hy => run_load_of 27 (.tmp 4) ⟨w.heap.size, 0, none⟩ rfl (.agg (cU u pu)) (hy.1.load H8.out))
  simp only [Act.put, List.setIfInBounds_toArray, List.set_cons_zero, List.set_cons_succ]
  refine wpAnyH_take (i := 2) (oi := ⟨some 11, .load 27 (.tmp 5), _, _, _, _⟩) (v := .agg (cU v pv)) rfl (by kernel_rfl) (by kernel_rfl) (by kernel_rfl) (fun _ _ _ h => h) (Or.inl ⟨by rfl, ?_⟩) (by assumption) ?_
  · (exact fun y hy => run_load_of 27 (.tmp 5) ⟨w.heap.size + 1, 0, none⟩ rfl (.agg (cU v pv)) (hy.2.1.load K8.out))
  simp only [Act.put, List.setIfInBounds_toArray, List.set_cons_zero, List.set_cons_succ]
  refine wpAnyH_take (i := 3) (oi := ⟨some 12, .build 52 #[(0, .tmp 10), (1, .tmp 11)], _, _, _, _⟩) (v := .agg (cP u v pu pv)) rfl (by kernel_rfl) (by kernel_rfl) (by kernel_rfl) (fun _ _ _ h => h) (Or.inl ⟨by rfl, ?_⟩) (by assumption) ?_
  · (intro y hy; refine run_build_of rfl ?_; simp only [List.map_toArray, List.map_cons, List.map_nil]; exact HBP.out)
  simp only [Act.put, List.setIfInBounds_toArray, List.set_cons_zero, List.set_cons_succ]
  refine wpAnyH_take (i := 5) (oi := ⟨some 14, .load 54 (.tmp 7), _, _, _, _⟩) (v := .agg #[.bool c, .bool d]) rfl (by kernel_rfl) (by kernel_rfl) (by kernel_rfl) (fun _ _ _ h => h) (Or.inl ⟨by rfl, ?_⟩) (by assumption) ?_
  · (exact fun y hy => run_load_of 54 (.tmp 7) ⟨w.heap.size + 2, 0, none⟩ rfl (.agg #[.bool c, .bool d]) hy.2.2.load)
  simp only [Act.put, List.setIfInBounds_toArray, List.set_cons_zero, List.set_cons_succ]
  refine wpAnyH_ready (rs := [4]) (by kernel_rfl) (by simp) ?_
  refine AllReadyH.cons (o := ⟨some 13, .call ⟨.value (.tmp 9), #[.tmp 12], _⟩, _, _, _, _⟩) rfl (fun K hK => ?_) AllReadyH.nil
  go_simp
  go_at_call 35
  refine (C1.out _ (HM.out.later hc) (HS.out.later hc) (HT.out.later hc)).mono ?_
  rintro e x ⟨rfl, hB⟩
  have hc := below_trans hc hB
  refine hK.out _ _ (⟨HU.out.later hc, HV.out.later hc, HA.out.later hc⟩) (fun hS => ?_)
  clear hB
  refine wpAnyH_take (i := 6) (oi := ⟨some 15, .binOp .eql 54 (.tmp 13) (.tmp 14) 54, _, _, _, _⟩) (v := .bool r) rfl (by kernel_rfl) (by kernel_rfl) (by kernel_rfl) (fun _ _ _ h => h) (Or.inl ⟨by rfl, ?_⟩) (by assumption) ?_
  · (intro y hy; have he := HE.out; go_simp)
  simp only [Act.put, List.setIfInBounds_toArray, List.set_cons_zero, List.set_cons_succ]
  refine wpAnyH_take (i := 7) (oi := ⟨some 8, .assign (.tmp 15), _, _, _, _⟩) (v := .bool r) rfl (by kernel_rfl) (by kernel_rfl) (by kernel_rfl) (fun _ _ _ h => h) (Or.inl ⟨by rfl, ?_⟩) (by assumption) ?_
  · (intro v hv; go_simp)
  simp only [Act.put, List.setIfInBounds_toArray, List.set_cons_zero, List.set_cons_succ]
  refine wpAnyH_done (by kernel_rfl) ?_ _
  go_wp2
  go_ret
  exact ⟨rfl, Ascii.below2 HB0.out hc⟩

set_option maxHeartbeats 16000000 in
theorem answers_matched (u v : U) (pu pv : Value) (hf : Fit u) (hg : Fit v) (b : Bool) (hb : bothU u v = b) (c d r : Bool) (hr : ((b == c) && (b == d)) = r) (m : Int) (w : World) (hm : Six.At m w) (hs : Strs w pu u.path) (ht : Strs w pv v.path) :
    Calls Tryz.prog 34 #[.agg (cU u pu), .agg (cU v pv), .func (.func 36) #[] #[], .agg #[.bool c, .bool d]] w fun e w' => e = .returned (.bool r) ∧ Below w.heap.size w w' := by
  have hs1 : (w.alloc (.cells (cU u pu) 27)).heap.size = w.heap.size + 1 := Array.size_push _
  have hb1 := (Below.refl w.heap.size w).alloc (Nat.le_refl _) (.cells (cU u pu) 27)
  have hb2 := hb1.alloc (Nat.le_trans (Nat.le_succ _) (Nat.le_of_eq hs1.symm)) (.cells (cU v pv) 27)
  have hs2 : ((w.alloc (.cells (cU u pu) 27)).alloc (.cells (cU v pv) 27)).heap.size = w.heap.size + 2 := by rw [show ((w.alloc (.cells (cU u pu) 27)).alloc (.cells (cU v pv) 27)).heap.size = (w.alloc (.cells (cU u pu) 27)).heap.size + 1 from Array.size_push _, hs1]
  have hb3 := hb2.alloc (by omega) (.cells #[.bool c, .bool d] 54)
  have HB0 := Lib.hid hb3
  have HU := Lib.hid (((UrlAt.new w u pu).past (.cells (cU v pv) 27)).past (.cells #[.bool c, .bool d] 54))
  have HV := Lib.hid ((show UrlAt ((w.alloc (.cells (cU u pu) 27)).alloc (.cells (cU v pv) 27)) (w.heap.size + 1) v pv from by rw [← hs1]; exact UrlAt.new _ v pv).past (.cells #[.bool c, .bool d] 54))
  have HA := Lib.hid (show AAt (((w.alloc (.cells (cU u pu) 27)).alloc (.cells (cU v pv) 27)).alloc (.cells #[.bool c, .bool d] 54)) (w.heap.size + 2) c d from by rw [← hs2]; exact AAt.new _ c d)
  have HM := Lib.hid (hm.later hb3)
  have HS := Lib.hid (hs.later hb3)
  have HT := Lib.hid (ht.later hb3)
  have H8 := Lib.hid hf.h8
  have K8 := Lib.hid hg.h8
  have hbp := builtP_of u v pu pv hf.h8 hg.h8 hs ht
  have HBP := Lib.hid hbp
  have C1 := Lib.hid (fun y hm hs ht => matched_any u v pu pv hf hg b hb m y hm hs ht)
  have HE := Lib.hid (fun y => eqA b b c d y)
  rw [hr] at HE
  clear hs1 hs2 hb1 hb2 hb3 hf hg hm hs ht hb hbp hr
  go_enter Tryz.func34, Tryz.ntmps34
  go_wp2_with fail
  generalize (((w.alloc (.cells (cU u pu) 27)).alloc (.cells (cU v pv) 27)).alloc (.cells #[.bool c, .bool d] 54)) = W at HB0 HU HV HA HM HS HT ⊢
  have hc : Below W.heap.size W W.drew := (Below.refl _ _).drew
  refine wp_region_held_drew (S := fun y => UrlAt y w.heap.size u pu ∧ UrlAt y (w.heap.size + 1) v pv ∧ AAt y (w.heap.size + 2) c d) (by kernel_rfl) ⟨HU.out.later hc, HV.out.later hc, HA.out.later hc⟩ (fun hS => ?_)
  refine wpAnyH_take (i := 0) (oi := ⟨some 9, .move (.tmp 2), _, _, _, _⟩) (v := .func (.func 36) #[] #[]) rfl (by kernel_rfl) (by kernel_rfl) (by kernel_rfl) (fun _ _ _ h => h) (Or.inl ⟨by rfl, ?_⟩) (by assumption) ?_
  · (intro v hv; go_simp)
  simp only [Act.put, List.setIfInBounds_toArray, List.set_cons_zero, List.set_cons_succ]
  refine wpAnyH_take (i := 1) (oi := ⟨some 10, .load 27 (.tmp 4), _, _, _, _⟩) (v := .agg (cU u pu)) rfl (by kernel_rfl) (by kernel_rfl) (by kernel_rfl) (fun _ _ _ h => h) (Or.inl ⟨by rfl, ?_⟩) (by assumption) ?_
  · (exact fun y hy => run_load_of 27 (.tmp 4) ⟨w.heap.size, 0, none⟩ rfl (.agg (cU u pu)) (hy.1.load H8.out))
  simp only [Act.put, List.setIfInBounds_toArray, List.set_cons_zero, List.set_cons_succ]
  refine wpAnyH_take (i := 2) (oi := ⟨some 11, .load 27 (.tmp 5), _, _, _, _⟩) (v := .agg (cU v pv)) rfl (by kernel_rfl) (by kernel_rfl) (by kernel_rfl) (fun _ _ _ h => h) (Or.inl ⟨by rfl, ?_⟩) (by assumption) ?_
  · (exact fun y hy => run_load_of 27 (.tmp 5) ⟨w.heap.size + 1, 0, none⟩ rfl (.agg (cU v pv)) (hy.2.1.load K8.out))
  simp only [Act.put, List.setIfInBounds_toArray, List.set_cons_zero, List.set_cons_succ]
  refine wpAnyH_take (i := 3) (oi := ⟨some 12, .build 52 #[(0, .tmp 10), (1, .tmp 11)], _, _, _, _⟩) (v := .agg (cP u v pu pv)) rfl (by kernel_rfl) (by kernel_rfl) (by kernel_rfl) (fun _ _ _ h => h) (Or.inl ⟨by rfl, ?_⟩) (by assumption) ?_
  · (intro y hy; refine run_build_of rfl ?_; simp only [List.map_toArray, List.map_cons, List.map_nil]; exact HBP.out)
  simp only [Act.put, List.setIfInBounds_toArray, List.set_cons_zero, List.set_cons_succ]
  refine wpAnyH_take (i := 5) (oi := ⟨some 14, .load 54 (.tmp 7), _, _, _, _⟩) (v := .agg #[.bool c, .bool d]) rfl (by kernel_rfl) (by kernel_rfl) (by kernel_rfl) (fun _ _ _ h => h) (Or.inl ⟨by rfl, ?_⟩) (by assumption) ?_
  · (exact fun y hy => run_load_of 54 (.tmp 7) ⟨w.heap.size + 2, 0, none⟩ rfl (.agg #[.bool c, .bool d]) hy.2.2.load)
  simp only [Act.put, List.setIfInBounds_toArray, List.set_cons_zero, List.set_cons_succ]
  refine wpAnyH_ready (rs := [4]) (by kernel_rfl) (by simp) ?_
  refine AllReadyH.cons (o := ⟨some 13, .call ⟨.value (.tmp 9), #[.tmp 12], _⟩, _, _, _, _⟩) rfl (fun K hK => ?_) AllReadyH.nil
  go_simp
  go_at_call 36
  refine (C1.out _ (HM.out.later hc) (HS.out.later hc) (HT.out.later hc)).mono ?_
  rintro e x ⟨rfl, hB⟩
  have hc := below_trans hc hB
  refine hK.out _ _ (⟨HU.out.later hc, HV.out.later hc, HA.out.later hc⟩) (fun hS => ?_)
  clear hB
  refine wpAnyH_take (i := 6) (oi := ⟨some 15, .binOp .eql 54 (.tmp 13) (.tmp 14) 54, _, _, _, _⟩) (v := .bool r) rfl (by kernel_rfl) (by kernel_rfl) (by kernel_rfl) (fun _ _ _ h => h) (Or.inl ⟨by rfl, ?_⟩) (by assumption) ?_
  · (intro y hy; have he := HE.out; go_simp)
  simp only [Act.put, List.setIfInBounds_toArray, List.set_cons_zero, List.set_cons_succ]
  refine wpAnyH_take (i := 7) (oi := ⟨some 8, .assign (.tmp 15), _, _, _, _⟩) (v := .bool r) rfl (by kernel_rfl) (by kernel_rfl) (by kernel_rfl) (fun _ _ _ h => h) (Or.inl ⟨by rfl, ?_⟩) (by assumption) ?_
  · (intro v hv; go_simp)
  simp only [Act.put, List.setIfInBounds_toArray, List.set_cons_zero, List.set_cons_succ]
  refine wpAnyH_done (by kernel_rfl) ?_ _
  go_wp2
  go_ret
  exact ⟨rfl, Ascii.below2 HB0.out hc⟩

set_option maxHeartbeats 16000000 in
theorem down_any (u v : U) (pu pv : Value) (hf : Fit u) (hg : Fit v) (b : Bool) (hb : downU u v = b) (m : Int) (w : World) (hm : Six.At m w) (hs : Strs w pu u.path) (ht : Strs w pv v.path) :
    Calls Tryz.prog 16 #[.agg (cU u pu), .agg (cU v pv)] w fun e w' => e = .returned (.bool b) ∧ Below w.heap.size w w' := by
  have hs1 : (w.alloc (.cells (cU u pu) 27)).heap.size = w.heap.size + 1 := Array.size_push _
  have hb1 := (Below.refl w.heap.size w).alloc (Nat.le_refl _) (.cells (cU u pu) 27)
  have hb2 := hb1.alloc (Nat.le_trans (Nat.le_succ _) (Nat.le_of_eq hs1.symm)) (.cells (cU v pv) 27)
  have HB0 := Lib.hid hb2
  have HU := Lib.hid ((UrlAt.new w u pu).past (.cells (cU v pv) 27))
  have HV := Lib.hid (show UrlAt ((w.alloc (.cells (cU u pu) 27)).alloc (.cells (cU v pv) 27)) (w.heap.size + 1) v pv from by rw [← hs1]; exact UrlAt.new _ v pv)
  have HM := Lib.hid (hm.later hb2)
  have HS := Lib.hid (hs.later hb2)
  have HT := Lib.hid (ht.later hb2)
  have H8 := Lib.hid hf.h8
  have K8 := Lib.hid hg.h8
  have hr : ((trustU u == true) && (trustU v == false)) = b := by rw [← hb]; unfold downU; cases trustU u <;> cases trustU v <;> rfl
  have C1 := Lib.hid (fun y hm hs ht => answers_trusted u v pu pv hf hg _ _ rfl rfl true false b hr m y hm hs ht)
  clear hs1 hb1 hb2 hf hg hm hs ht hb hr
  have hu := HU.out
  have hv := HV.out
  go_enter Tryz.func16, Tryz.ntmps16
  go_wp2_with (first | ((with_reducible refine wp_load27 (o := ⟨some 5, .load 27 (.tmp 2), _, _, _, _⟩) ?_ (.tmp 2) ?_ w.heap.size ?_ u pu H8.out hu ?_); (· rfl); (· rfl); (· rfl); simp only [Act.put, List.setIfInBounds_toArray, List.set_cons_zero, List.set_cons_succ]) | ((with_reducible refine wp_load27 (o := ⟨some 6, .load 27 (.tmp 3), _, _, _, _⟩) ?_ (.tmp 3) ?_ (w.heap.size + 1) ?_ v pv K8.out hv ?_); (· rfl); (· rfl); (· rfl); simp only [Act.put, List.setIfInBounds_toArray, List.set_cons_zero, List.set_cons_succ]) | ((with_reducible refine wp_build1 (o := ⟨some 7, .build 54 #[(0, .const (.bool true))], _, _, _, _⟩) ?_ (.const (.bool true)) ?_ ?_ ?_); (· rfl); (· rfl); (· rfl); simp only [Act.put, List.setIfInBounds_toArray, List.set_cons_zero, List.set_cons_succ]))
  clear hu hv
  generalize ((w.alloc (.cells (cU u pu) 27)).alloc (.cells (cU v pv) 27)) = W at HB0 HU HV HM HS HT ⊢
  refine (C1.out _ HM.out HS.out HT.out).mono ?_
  rintro e x ⟨rfl, hB⟩
  have hbe := Ascii.below2 HB0.out hB
  go_wp2
  go_ret
  exact ⟨rfl, hbe⟩

set_option maxHeartbeats 16000000 in
theorem level_any (p : Int) (u v : U) (pu pv : Value) (hf : Fit u) (hg : Fit v) (n : Int) (hn : levelU p u v = n) (m : Int) (w : World) (hm : Six.At m w) (hs : Strs w pu u.path) (ht : Strs w pv v.path) (hT : TabAt w) :
    Calls Tryz.prog 17 #[.int .i64 p, .agg (cU u pu), .agg (cU v pv)] w fun e w' => e = .returned (.int .i64 n) ∧ Below w.heap.size w w' := by
  have hs1 : (w.alloc (.cells (cU u pu) 27)).heap.size = w.heap.size + 1 := Array.size_push _
  have hb1 := (Below.refl w.heap.size w).alloc (Nat.le_refl _) (.cells (cU u pu) 27)
  have hb2 := hb1.alloc (Nat.le_trans (Nat.le_succ _) (Nat.le_of_eq hs1.symm)) (.cells (cU v pv) 27)
  have HB0 := Lib.hid hb2
  have HU := Lib.hid ((UrlAt.new w u pu).past (.cells (cU v pv) 27))
  have HV := Lib.hid (show UrlAt ((w.alloc (.cells (cU u pu) 27)).alloc (.cells (cU v pv) 27)) (w.heap.size + 1) v pv from by rw [← hs1]; exact UrlAt.new _ v pv)
  have HM := Lib.hid (hm.later hb2)
  have HS := Lib.hid (hs.later hb2)
  have HT := Lib.hid (ht.later hb2)
  have H8 := Lib.hid hf.h8
  have K8 := Lib.hid hg.h8
  have HP := Lib.hid (hT.later hb2)
  obtain ⟨s, hs'⟩ : ∃ b, bothU u v = b := ⟨_, rfl⟩
  obtain ⟨d, hd⟩ : ∃ b, downU u v = b := ⟨_, rfl⟩
  have hr : ((s == true) && (s == true)) = s := by cases s <;> rfl
  have hn' : allowI p s d = n := by rw [← hn, ← hs', ← hd]; rfl
  have C1 := Lib.hid (fun y hm hs ht => answers_matched u v pu pv hf hg s hs' true true s hr m y hm hs ht)
  have C2 := Lib.hid (fun y hm hs ht => down_any u v pu pv hf hg d hd m y hm hs ht)
  have C3 := Lib.hid (fun y hT => Policy.allow_any p s d y hT)
  rw [hn'] at C3
  clear hs1 hb1 hb2 hf hg hm hs ht hn hr hn' hs' hd hT
  have hu := HU.out
  have hv := HV.out
  go_enter Tryz.func17, Tryz.ntmps17
  go_wp2_with (first | ((with_reducible refine wp_load27 (o := ⟨some 8, .load 27 (.tmp 4), _, _, _, _⟩) ?_ (.tmp 4) ?_ w.heap.size ?_ u pu H8.out hu ?_); (· rfl); (· rfl); (· rfl); simp only [Act.put, List.setIfInBounds_toArray, List.set_cons_zero, List.set_cons_succ]) | ((with_reducible refine wp_load27 (o := ⟨some 9, .load 27 (.tmp 5), _, _, _, _⟩) ?_ (.tmp 5) ?_ (w.heap.size + 1) ?_ v pv K8.out hv ?_); (· rfl); (· rfl); (· rfl); simp only [Act.put, List.setIfInBounds_toArray, List.set_cons_zero, List.set_cons_succ]) | ((with_reducible refine wp_build2 (o := ⟨some 10, .build 54 #[(0, .const (.bool true)), (1, .const (.bool true))], _, _, _, _⟩) ?_ (.const (.bool true)) (.const (.bool true)) ?_ true true ?_ ?_ ?_); (· rfl); (· rfl); (· rfl); (· rfl); simp only [Act.put, List.setIfInBounds_toArray, List.set_cons_zero, List.set_cons_succ]))
  clear hu hv
  generalize ((w.alloc (.cells (cU u pu) 27)).alloc (.cells (cU v pv) 27)) = W at HB0 HU HV HM HS HT HP ⊢
  refine (C1.out _ HM.out HS.out HT.out).mono ?_
  rintro e x ⟨rfl, hB⟩
  have HB1 := Lib.hid (Ascii.below2 HB0.out hB)
  have hu := HU.out.later hB
  have hv := HV.out.later hB
  have HM1 := Lib.hid (HM.out.later hB)
  have HS1 := Lib.hid (HS.out.later hB)
  have HT1 := Lib.hid (HT.out.later hB)
  have HP1 := Lib.hid (HP.out.later hB)
  clear hB C1 HB0 HU HV HM HS HT HP
  go_wp2_with (first | ((with_reducible refine wp_load27 (o := ⟨some 14, .load 27 (.tmp 4), _, _, _, _⟩) ?_ (.tmp 4) ?_ w.heap.size ?_ u pu H8.out hu ?_); (· rfl); (· rfl); (· rfl); simp only [Act.put, List.setIfInBounds_toArray, List.set_cons_zero, List.set_cons_succ]) | ((with_reducible refine wp_load27 (o := ⟨some 15, .load 27 (.tmp 5), _, _, _, _⟩) ?_ (.tmp 5) ?_ (w.heap.size + 1) ?_ v pv K8.out hv ?_); (· rfl); (· rfl); (· rfl); simp only [Act.put, List.setIfInBounds_toArray, List.set_cons_zero, List.set_cons_succ]))
  clear hu hv
  refine (C2.out _ HM1.out HS1.out HT1.out).mono ?_
  rintro e y ⟨rfl, hB⟩
  have HB2 := Lib.hid (Ascii.below2 HB1.out hB)
  have HP2 := Lib.hid (HP1.out.later hB)
  clear hB C2
  go_wp2_with fail
  refine (C3.out _ HP2.out).mono ?_
  rintro e z ⟨rfl, hB⟩
  have HB3 := Lib.hid (Ascii.below2 HB2.out hB)
  clear hB C3
  go_wp2
  go_ret
  exact ⟨rfl, HB3.out⟩

set_option maxHeartbeats 16000000 in
theorem from_any (l : T) (hl : l.length ≤ 25000) (b : Bool) (hb : fromB l = b) (x : U) (hx : fromU l = x) (m : Int) (w : World) (hm : Six.At m w) :
    Calls Tryz.prog 10 #[.string (tb l)] w (GotP w x b) := by
  have HZ0 := Lib.hid (new_url w)
  have hB0 := (Below.refl w.heap.size w).alloc (Nat.le_refl _) (.cells #[.string ⟨#[]⟩, .string ⟨#[]⟩, .string ⟨#[]⟩, .int .i64 0, .string ⟨#[]⟩, .int .i64 0, .int .i64 0, .int .i64 0, .int .i64 0, .int .i64 0, .int .i64 0, .int .i64 0, .int .i64 0, .int .i64 0, .int .i64 0, .slice none 0 0, .string ⟨#[]⟩, .string ⟨#[]⟩, .string ⟨#[]⟩, .bool false, .bool false] 27)
  have HB0 := Lib.hid hB0
  have hs0 : (w.alloc (.cells #[.string ⟨#[]⟩, .string ⟨#[]⟩, .string ⟨#[]⟩, .int .i64 0, .string ⟨#[]⟩, .int .i64 0, .int .i64 0, .int .i64 0, .int .i64 0, .int .i64 0, .int .i64 0, .int .i64 0, .int .i64 0, .int .i64 0, .int .i64 0, .slice none 0 0, .string ⟨#[]⟩, .string ⟨#[]⟩, .string ⟨#[]⟩, .bool false, .bool false] 27)).heap.size = w.heap.size + 1 := Array.size_push _
  have HN0 := Lib.hid hs0
  obtain ⟨k, hk⟩ : ∃ k, okU l = k := ⟨_, rfl⟩
  obtain ⟨y, hy⟩ : ∃ y, parU l = y := ⟨_, rfl⟩
  obtain ⟨z, hz⟩ : ∃ z, webI y.sch = z := ⟨_, rfl⟩
  have y8 : y.h.p.length = 8 := by rw [← hy]; exact par8 _
  have Y8 := Lib.hid y8
  have HN := Lib.hid (show (k = false ∨ z = 0) → b = false ∧ x = none1 from fun h => by
    have e : fromB l = false := by
      cases e : fromB l
      · rfl
      · obtain ⟨e1, e2⟩ := (from_iff l).1 e
        rcases h with h | h
        · rw [hk, h] at e1; cases e1
        · rw [hy, hz] at e2; exact absurd h e2
    exact ⟨hb.symm.trans e, hx.symm.trans (from_no e)⟩)
  have HY := Lib.hid (show k = true → z ≠ 0 → b = true ∧ x = y from fun h h' => by
    have e : fromB l = true := (from_iff l).2 ⟨hk.trans h, by rw [hy, hz]; exact h'⟩
    exact ⟨hb.symm.trans e, hx.symm.trans ((from_yes e).trans hy)⟩)
  have CP := Lib.hid (fun v hm => parse_at l hl y k hy hk m v hm)
  have HM := Lib.hid (hm.later hB0)
  have CW := Lib.hid (fun v => web_at y.sch z hz v)
  clear hB0 hs0 hb hx hk hy hz y8 hm
  go_enter Tryz.func10, Tryz.ntmps10
  go_wp2_with fail
  generalize (w.alloc (.cells #[.string ⟨#[]⟩, .string ⟨#[]⟩, .string ⟨#[]⟩, .int .i64 0, .string ⟨#[]⟩, .int .i64 0, .int .i64 0, .int .i64 0, .int .i64 0, .int .i64 0, .int .i64 0, .int .i64 0, .int .i64 0, .int .i64 0, .int .i64 0, .slice none 0 0, .string ⟨#[]⟩, .string ⟨#[]⟩, .string ⟨#[]⟩, .bool false, .bool false] 27)) = W at HZ0 HB0 HN0 HM ⊢
  refine (CP.out _ HM.out).mono ?_
  rintro e u1 ⟨pv, rfl, hst, hn, hB⟩
  have hone := strs_one hst
  have hnew := new_url u1
  have HZ1 := Lib.hid ((HZ0.out.later hB).later (below_url u1 y pv))
  have HB1 := Lib.hid (Ascii.below2 HB0.out (below_trans hB (below_url u1 y pv)))
  have HS1 := Lib.hid (hst.later (below_url u1 y pv))
  have HU1 := Lib.hid (hnew.row y pv)
  have HNW := Lib.hid (show Path.New (w.heap.size + 1) pv from hn.mono (Nat.le_of_eq HN0.out.symm))
  clear hst hn hB
  go_upto_region 2 with ((with_reducible refine wp_store27 (o := ⟨none, .store 27 (.tmp 4) (.tmp 9), _, _, _, _⟩) ?_ (.tmp 4) (.tmp 9) ?_ u1.heap.size ?_ y pv ?_ Y8.out hone none1 (.slice none 0 0) rfl hnew ?_); (· rfl); (· rfl); (· rfl); (· rfl); simp only [Act.put, List.setIfInBounds_toArray, List.set_cons_zero, List.set_cons_succ])
  generalize (u1.alloc (.cells #[.string ⟨#[]⟩, .string ⟨#[]⟩, .string ⟨#[]⟩, .int .i64 0, .string ⟨#[]⟩, .int .i64 0, .int .i64 0, .int .i64 0, .int .i64 0, .int .i64 0, .int .i64 0, .int .i64 0, .int .i64 0, .int .i64 0, .int .i64 0, .slice none 0 0, .string ⟨#[]⟩, .string ⟨#[]⟩, .string ⟨#[]⟩, .bool false, .bool false] 27)).setRow u1.heap.size (cU y pv) = V1 at HB1 HZ1 HS1 HU1 ⊢
  generalize u1.heap.size = g1 at HU1 ⊢
  clear hnew CP
  have hz1 := HZ1.out
  have fin := fun (h : k = false ∨ z = 0) => HN.out h
  cases k
  · obtain ⟨rfl, rfl⟩ := fin (.inl (by first | rfl | trivial))
    go_wp2_with ((with_reducible refine wp_store27 (o := ⟨none, .store 27 (.tmp 2) (.tmp 19), _, _, _, _⟩) ?_ (.tmp 2) (.tmp 19) ?_ w.heap.size ?_ none1 (.slice none 0 0) ?_ rfl rfl none1 (.slice none 0 0) rfl hz1 ?_); (· rfl); (· rfl); (· rfl); (· rfl); simp only [Act.put, List.setIfInBounds_toArray, List.set_cons_zero, List.set_cons_succ])
    exact bodyPost_ret (ret_two rfl w.heap.size none1 (.slice none 0 0) rfl (.bool false) rfl rfl (hz1.row none1 (.slice none 0 0))) rfl ⟨.slice none 0 0, rfl, Strs.nil _, (fun b o s n c e => by cases e), below_row HB1.out (Nat.le_refl _) _⟩
  have c0 := HU1.out.cell 0
  rw [(cU_at y pv Y8.out).1] at c0
  go_wp2_with fail
  refine (CW.out _).mono ?_
  rintro e X ⟨rfl, rfl⟩
  clear CW c0
  by_cases h0 : z = 0
  · subst h0
    obtain ⟨rfl, rfl⟩ := fin (.inr (by first | rfl | trivial))
    go_wp2_with ((with_reducible refine wp_store27 (o := ⟨none, .store 27 (.tmp 2) (.tmp 19), _, _, _, _⟩) ?_ (.tmp 2) (.tmp 19) ?_ w.heap.size ?_ none1 (.slice none 0 0) ?_ rfl rfl none1 (.slice none 0 0) rfl hz1 ?_); (· rfl); (· rfl); (· rfl); (· rfl); simp only [Act.put, List.setIfInBounds_toArray, List.set_cons_zero, List.set_cons_succ])
    exact bodyPost_ret (ret_two rfl w.heap.size none1 (.slice none 0 0) rfl (.bool false) rfl rfl (hz1.row none1 (.slice none 0 0))) rfl ⟨.slice none 0 0, rfl, Strs.nil _, (fun b o s n c e => by cases e), below_row HB1.out (Nat.le_refl _) _⟩
  · have q0 : (z == 0) = false := beq_eq_false_iff_ne.2 h0
    obtain ⟨rfl, rfl⟩ := HY.out (by first | rfl | trivial) h0
    have hu1 := HU1.out
    clear fin
    go_wp2_with (first | ((with_reducible refine wp_load27 (o := ⟨some 20, .load 27 (.tmp 4), _, _, _, _⟩) ?_ (.tmp 4) ?_ g1 ?_ x pv Y8.out hu1 ?_); (· rfl); (· rfl); (· rfl); simp only [Act.put, List.setIfInBounds_toArray, List.set_cons_zero, List.set_cons_succ]) | ((with_reducible refine wp_store27 (o := ⟨none, .store 27 (.tmp 2) (.tmp 20), _, _, _, _⟩) ?_ (.tmp 2) (.tmp 20) ?_ w.heap.size ?_ x pv ?_ Y8.out hone none1 (.slice none 0 0) rfl hz1 ?_); (· rfl); (· rfl); (· rfl); (· rfl); simp only [Act.put, List.setIfInBounds_toArray, List.set_cons_zero, List.set_cons_succ]))
    exact bodyPost_ret (ret_two rfl w.heap.size x pv Y8.out (.bool true) rfl rfl (hz1.row x pv)) rfl ⟨pv, rfl, strs_other w.heap.size HS1.out HNW.out (fun k hk => Url.setRow_other _ _ _ (Ne.symm hk)), HNW.out.mono (Nat.le_succ _), below_row HB1.out (Nat.le_refl _) _⟩

set_option maxHeartbeats 16000000 in
theorem referer_any (p : Int) (l : T) (v : U) (pv : Value) (hl : l.length ≤ 25000) (hf : Fit (parU l)) (hg : Fit v) (b : Bool) (hb : refB p l v = b) (x : ByteArray) (hx : tb (refT p l v) = x) (m : Int) (w : World) (hm : Six.At m w) (ht : Strs w pv v.path) (hT : TabAt w) (hk3 : (parU l).h.k = 3 → Six.Known) :
    Calls Tryz.prog 13 #[.int .i64 p, .string (tb l), .agg (cU v pv)] w fun e w' => e = .returned (.tuple #[.string x, .bool b]) ∧ Below w.heap.size w w' := by
  have K8 := Lib.hid hg.h8
  have hB0 := (Below.refl w.heap.size w).alloc (Nat.le_refl _) (.cells (cU v pv) 27)
  have HB0 := Lib.hid hB0
  have HV := Lib.hid (UrlAt.new w v pv)
  have HM := Lib.hid (hm.later hB0)
  have HP := Lib.hid (hT.later hB0)
  have HT := Lib.hid (ht.later hB0)
  obtain ⟨k, hk⟩ : ∃ k, fromB l = k := ⟨_, rfl⟩
  obtain ⟨y, hy⟩ : ∃ y, parU l = y := ⟨_, rfl⟩
  obtain ⟨q, hq⟩ : ∃ q, fromU l = q := ⟨_, rfl⟩
  obtain ⟨n, hn⟩ : ∃ n, levelU p y v = n := ⟨_, rfl⟩
  have fy : Fit y := hy ▸ hf
  have Y8 := Lib.hid fy.h8
  have q8 : q.h.p.length = 8 := by
    rw [← hq]
    unfold fromU
    split
    · exact hf.h8
    · rfl
  have Q8 := Lib.hid q8
  have HN := Lib.hid (show k = false → b = false ∧ x = ⟨#[]⟩ from fun h => by
    obtain ⟨e1, e2⟩ := ref_no (p := p) (v := v) (hk.trans h)
    exact ⟨hb.symm.trans e1, by rw [← hx, e2]; rfl⟩)
  have HY := Lib.hid (show k = true → q = y ∧ tellB y n = b ∧ tb (tellT y n) = x from fun h => by
    obtain ⟨e1, e2⟩ := ref_yes (p := p) (v := v) (hk.trans h)
    rw [hy, hn] at e1 e2
    exact ⟨hq.symm.trans ((from_yes (hk.trans h)).trans hy), e1.symm.trans hb, by rw [← e2]; exact hx⟩)
  have CF := Lib.hid (fun y hm => from_any l hl k hk q hq m y hm)
  have CL := Lib.hid (fun pu y hm hs ht hT => level_any p _ v pu pv fy hg n hn m y hm hs ht hT)
  have CT0 := Lib.hid (fun b h1 x h2 pu y hm hs => tell_any _ pu fy n b h1 x h2 m y hm hs (fun h3 => hk3 (hy ▸ h3)))
  clear hB0 hf hg hm ht hT hk hq hn hb hx fy q8 hk3 hy
  go_enter Tryz.func13, Tryz.ntmps13
  go_wp2_with fail
  generalize (w.alloc (.cells (cU v pv) 27)) = W at HB0 HV HT HM HP ⊢
  refine (CF.out _ HM.out).mono ?_
  rintro e u1 ⟨pu, rfl, hst, hn', hB⟩
  have hone := strs_one hst
  have hnew := new_url u1
  have hB2 := below_trans hB (below_url u1 q pu)
  have HB1 := Lib.hid (Ascii.below2 HB0.out hB2)
  have HV1 := Lib.hid (HV.out.later hB2)
  have HT1 := Lib.hid (HT.out.later hB2)
  have HM1 := Lib.hid (HM.out.later hB2)
  have HP1 := Lib.hid (HP.out.later hB2)
  have HS1 := Lib.hid (hst.later (below_url u1 q pu))
  have HU1 := Lib.hid (hnew.row q pu)
  clear hst hn' hB hB2 CF
  go_upto_region 2 with ((with_reducible refine wp_store27 (o := ⟨none, .store 27 (.tmp 8) (.tmp 13), _, _, _, _⟩) ?_ (.tmp 8) (.tmp 13) ?_ u1.heap.size ?_ q pu ?_ Q8.out hone none1 (.slice none 0 0) rfl hnew ?_); (· rfl); (· rfl); (· rfl); (· rfl); simp only [Act.put, List.setIfInBounds_toArray, List.set_cons_zero, List.set_cons_succ])
  generalize (u1.alloc (.cells #[.string ⟨#[]⟩, .string ⟨#[]⟩, .string ⟨#[]⟩, .int .i64 0, .string ⟨#[]⟩, .int .i64 0, .int .i64 0, .int .i64 0, .int .i64 0, .int .i64 0, .int .i64 0, .int .i64 0, .int .i64 0, .int .i64 0, .int .i64 0, .slice none 0 0, .string ⟨#[]⟩, .string ⟨#[]⟩, .string ⟨#[]⟩, .bool false, .bool false] 27)).setRow u1.heap.size (cU q pu) = V1 at HB1 HV1 HT1 HS1 HU1 HM1 HP1 ⊢
  generalize u1.heap.size = g1 at HU1 ⊢
  clear hnew hone
  cases k
  · obtain ⟨rfl, rfl⟩ := HN.out (by first | rfl | trivial)
    go_wp2
    go_ret2
    exact ⟨by first | rfl | trivial, HB1.out⟩
  obtain ⟨rfl, h1, h2⟩ := HY.out (by first | rfl | trivial)
  have CT := Lib.hid (CT0.out b h1 x h2)
  clear HY HN CT0 h1 h2
  go_wp2_with fail
  have hc : Below V1.heap.size V1 V1.drew := (Below.refl _ _).drew
  refine wp_region_held_drew (S := fun y => UrlAt y g1 q pu ∧ UrlAt y w.heap.size v pv) (by kernel_rfl) ⟨HU1.out.later hc, HV1.out.later hc⟩ (fun hS => ?_)
  refine wpAnyH_take (i := 0) (oi := ⟨some 17, .load 27 (.tmp 8), _, _, _, _⟩) (v := .agg (cU q pu)) rfl (by kernel_rfl) (by kernel_rfl) (by kernel_rfl) (fun _ _ _ h => h) (Or.inl ⟨by rfl, ?_⟩) (by assumption) ?_
  · (exact fun y hy => run_load_of 27 (.tmp 8) ⟨g1, 0, none⟩ rfl (.agg (cU q pu)) (hy.1.load Q8.out))
  simp only [Act.put, List.setIfInBounds_toArray, List.set_cons_zero, List.set_cons_succ]
  refine wpAnyH_take (i := 1) (oi := ⟨some 18, .move (.tmp 0), _, _, _, _⟩) (v := .int .i64 p) rfl (by kernel_rfl) (by kernel_rfl) (by kernel_rfl) (fun _ _ _ h => h) (Or.inl ⟨by rfl, ?_⟩) (by assumption) ?_
  · (intro v hv; go_simp)
  simp only [Act.put, List.setIfInBounds_toArray, List.set_cons_zero, List.set_cons_succ]
  refine wpAnyH_take (i := 2) (oi := ⟨some 19, .load 27 (.tmp 8), _, _, _, _⟩) (v := .agg (cU q pu)) rfl (by kernel_rfl) (by kernel_rfl) (by kernel_rfl) (fun _ _ _ h => h) (Or.inl ⟨by rfl, ?_⟩) (by assumption) ?_
  · (exact fun y hy => run_load_of 27 (.tmp 8) ⟨g1, 0, none⟩ rfl (.agg (cU q pu)) (hy.1.load Q8.out))
  simp only [Act.put, List.setIfInBounds_toArray, List.set_cons_zero, List.set_cons_succ]
  refine wpAnyH_take (i := 3) (oi := ⟨some 20, .load 27 (.tmp 5), _, _, _, _⟩) (v := .agg (cU v pv)) rfl (by kernel_rfl) (by kernel_rfl) (by kernel_rfl) (fun _ _ _ h => h) (Or.inl ⟨by rfl, ?_⟩) (by assumption) ?_
  · (exact fun y hy => run_load_of 27 (.tmp 5) ⟨w.heap.size, 0, none⟩ rfl (.agg (cU v pv)) (hy.2.load K8.out))
  simp only [Act.put, List.setIfInBounds_toArray, List.set_cons_zero, List.set_cons_succ]
  refine wpAnyH_ready (rs := [4]) (by kernel_rfl) (by simp) ?_
  refine AllReadyH.cons (o := ⟨some 21, .call ⟨.value (.func 17), #[.tmp 18, .tmp 19, .tmp 20], _⟩, _, _, _, _⟩) rfl (fun K hK => ?_) AllReadyH.nil
  go_simp
  go_at_call 17
  refine (CL.out _ _ (HM1.out.later hc) (HS1.out.later hc) (HT1.out.later hc) (HP1.out.later hc)).mono ?_
  rintro e z ⟨rfl, hB⟩
  have hc := below_trans hc hB
  refine hK.out _ _ (⟨HU1.out.later hc, HV1.out.later hc⟩) (fun hS => ?_)
  clear hB
  refine wpAnyH_ready (rs := [5]) (by kernel_rfl) (by simp) ?_
  refine AllReadyH.cons (o := ⟨some 22, .call ⟨.value (.func 31), #[.tmp 17, .tmp 21], _⟩, _, _, _, _⟩) rfl (fun K hK => ?_) AllReadyH.nil
  go_simp
  go_at_call 31
  refine (CT.out _ _ (HM1.out.later hc) (HS1.out.later hc)).mono ?_
  rintro e z ⟨rfl, hB⟩
  have hc := below_trans hc hB
  refine hK.out _ _ (⟨HU1.out.later hc, HV1.out.later hc⟩) (fun hS => ?_)
  clear hB
  refine wpAnyH_take (i := 6) (oi := ⟨some 23, .extract (.tmp 22) 0, _, _, _, _⟩) (v := .string x) rfl (by kernel_rfl) (by kernel_rfl) (by kernel_rfl) (fun _ _ _ h => h) (Or.inl ⟨by rfl, ?_⟩) (by assumption) ?_
  · (intro v hv; go_simp)
  simp only [Act.put, List.setIfInBounds_toArray, List.set_cons_zero, List.set_cons_succ]
  refine wpAnyH_take (i := 7) (oi := ⟨some 24, .extract (.tmp 22) 1, _, _, _, _⟩) (v := .bool b) rfl (by kernel_rfl) (by kernel_rfl) (by kernel_rfl) (fun _ _ _ h => h) (Or.inl ⟨by rfl, ?_⟩) (by assumption) ?_
  · (intro v hv; go_simp)
  simp only [Act.put, List.setIfInBounds_toArray, List.set_cons_zero, List.set_cons_succ]
  refine wpAnyH_take (i := 8) (oi := ⟨some 6, .assign (.tmp 23), _, _, _, _⟩) (v := .string x) rfl (by kernel_rfl) (by kernel_rfl) (by kernel_rfl) (fun _ _ _ h => h) (Or.inl ⟨by rfl, ?_⟩) (by assumption) ?_
  · (intro v hv; go_simp)
  simp only [Act.put, List.setIfInBounds_toArray, List.set_cons_zero, List.set_cons_succ]
  refine wpAnyH_take (i := 9) (oi := ⟨some 7, .assign (.tmp 24), _, _, _, _⟩) (v := .bool b) rfl (by kernel_rfl) (by kernel_rfl) (by kernel_rfl) (fun _ _ _ h => h) (Or.inl ⟨by rfl, ?_⟩) (by assumption) ?_
  · (intro v hv; go_simp)
  simp only [Act.put, List.setIfInBounds_toArray, List.set_cons_zero, List.set_cons_succ]
  refine wpAnyH_done (by kernel_rfl) ?_ _
  go_wp2
  go_ret2
  exact ⟨by first | rfl | trivial, Ascii.below2 HB1.out hc⟩

end Go.Proofs.YtbmnhmbicefemaaGreatDoor.Refer

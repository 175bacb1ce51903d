/-
  Hosts compared; what a host is (told).
-/
import Derived.Test.YtidmlhefdjpafaaDoorHHost
import Derived.Laws.StructEq
import Derived.BigQuiet
import Derived.Deep.QuietTactic
namespace Go.Proofs.YtidmlhefdjpafaaDoor.Host
open Go.RowKit
open Six (arr RowAt zero8)
set_option linter.unusedSimpArgs false
set_option linter.unusedVariables false
/-- A whole value read, the same in every world of the class. -/
theorem quiet_load {P : Program} {C : World → Prop} {o : Oper} {a : Act} {K : Act → Prop} (ty : TypeId) (x : Operand) (ho : o.op = .load ty x) (p : Addr) (hx : a.eval x = .pointer (some p)) (v : Value) (hr : ∀ u, C u → (loadVar ty p).run P u = .ok v u) (hk : K (a.put o.dst v)) : o.quiet P a C K :=
  ⟨_, fun w hw => by
    unfold Oper.quietAt execOp
    simp only [ho, hx, Instr.loadAt, Instr.sureAddr, Sem.run_bind, Sem.run_pure, Result.andThen_ok, hr w hw]
    exact ⟨rfl, rfl⟩, hk⟩
theorem wp_load_of {P : Program} {o : Oper} {a : Act} {w : World} {K : Act → World → Prop} {Q : Exit → Act → World → Prop} (ty : TypeId) (x : Operand) (ho : o.op = .load ty x) (p : Addr) (hx : a.eval x = .pointer (some p)) (v : Value) (hr : (loadVar ty p).run P w = .ok v w)
    (h : K (a.put o.dst v) w) : o.wp P a w K Q := by
  unfold Oper.wp execOp
  simp only [ho, hx, Instr.loadAt, Instr.sureAddr, Sem.run_bind, Sem.run_pure, Result.andThen_ok, hr]
  exact h
theorem wp_load_at {P : Program} {ops : Array Oper} {rest : List Oper} {o : Oper} {a : Act} {w : World} {Q : Exit → Act → World → Prop} (hgd : Region.wanted o (yielded ops a.tmps) = true) (ty : TypeId) (x : Operand) (ho : o.op = .load ty x) (p : Addr) (hx : a.eval x = .pointer (some p)) (v : Value) (hr : (loadVar ty p).run P w = .ok v w)
    (h : wpList P ops Q rest (a.put o.dst v) w) : wpList P ops Q (o :: rest) a w :=
  Six.wpList_taken hgd fun _ hK => wp_load_of ty x ho p hx v hr (hK _ _ h)
/-! ### Compared -/
theorem cells_at (h : H) : h.cells[0]? = some (.int .i64 h.k) ∧ h.cells[1]? = some (.string h.s) ∧ h.cells[2]? = some (.int .i64 h.n) := ⟨rfl, rfl, rfl⟩
theorem cells_six (h : H) (h8 : h.p.length = 8) : h.cells.extract 3 11 = arr h.p := by
  obtain ⟨k, s, n, p⟩ := h
  match p, h8 with
  | [a0, a1, a2, a3, a4, a5, a6, a7], _ => rfl
theorem cells_sixat (h : H) (j : Nat) : h.cells[3 + j]? = (arr h.p)[j]? := by
  simp [H.cells, cH, arr, Nat.add_comm 3 j]
theorem part_k (h : H) (w : World) : (part 3 h.cells 0).run Tryd.prog w = .ok (.int .i64 h.k) w := by
  have ha : (isAgg 3).run Tryd.prog w = .ok false w := by kernel_rfl
  simp [part, Sem.run_bind, ha, (cells_at h).1]
theorem part_n (h : H) (w : World) : (part 3 h.cells 2).run Tryd.prog w = .ok (.int .i64 h.n) w := by
  have ha : (isAgg 3).run Tryd.prog w = .ok false w := by kernel_rfl
  simp [part, Sem.run_bind, ha, (cells_at h).2.2]
theorem part_s (h : H) (w : World) : (part 9 h.cells 1).run Tryd.prog w = .ok (.string h.s) w := by
  have ha : (isAgg 9).run Tryd.prog w = .ok false w := by kernel_rfl
  simp [part, Sem.run_bind, ha, (cells_at h).2.1]
theorem part_p (h : H) (h8 : h.p.length = 8) (w : World) : (part 22 h.cells 3).run Tryd.prog w = .ok (.agg (arr h.p)) w := by
  have ha : (isAgg 22).run Tryd.prog w = .ok true w := by kernel_rfl
  have hs : (sizeOf 22).run Tryd.prog w = .ok 8 w := by kernel_rfl
  simp [part, Sem.run_bind, ha, hs, cells_six h h8]
set_option maxRecDepth 100000 in
theorem eq22d (p q : List Int) (hp : p.length = 8) (hq : q.length = 8) (w : World) : (Op.equalIn 9999 22 (.agg (arr p)) (.agg (arr q))).run Tryd.prog w = .ok (decide (p = q)) w := by
  obtain ⟨i, hi⟩ : ∃ i, Tryd.prog.info? 3 = some i := by
    cases e : Tryd.prog.info? 3 with
    | some i => exact ⟨i, rfl⟩
    | none =>
      have : (Tryd.prog.info? 3).isSome = true := by kernel_rfl
      rw [e] at this
      cases this
  rw [show (9999 : Nat) = 9998 + 1 from rfl, run_equalIn_array w 9998 (arr p) (arr q) Tryd.underlying22 hi, show Tryd.prog.cellsOf 3 = 1 by kernel_rfl, Six.items3 9997 p q (by omega) _ (by intro j hj; simp at hj; omega)]
  congr 1
  match p, hp, q, hq with
  | [a0, a1, a2, a3, a4, a5, a6, a7], _, [b0, b1, b2, b3, b4, b5, b6, b7], _ => simp [List.range, List.range.loop]; rfl
def sameH (h k : H) : Bool := (h.k == k.k) && ((h.s.toList == k.s.toList) && ((h.n == k.n) && decide (h.p = k.p)))
theorem same_iff (h k : H) : sameH h k = true ↔ h = k := by
  unfold sameH
  rw [Bool.and_eq_true, Bool.and_eq_true, Bool.and_eq_true, beq_iff_eq, beq_iff_eq, beq_iff_eq, decide_eq_true_iff, toList_ba, toList_ba]
  constructor
  · rintro ⟨h1, h2, h3, h4⟩
    obtain ⟨a, b, c, d⟩ := h
    obtain ⟨a', b', c', d'⟩ := k
    simp only at h1 h2 h3 h4
    subst h1; subst h3; subst h4
    congr
    apply ByteArray.ext
    exact Array.toList_inj.1 h2
  · rintro rfl; exact ⟨rfl, rfl, rfl, rfl⟩
set_option maxRecDepth 100000 in
theorem eq24 (h k : H) (h8 : h.p.length = 8) (k8 : k.p.length = 8) (b : Bool) (hb : sameH h k = b) (w : World) : (Op.equalIn 10000 24 (.agg h.cells) (.agg k.cells)).run Tryd.prog w = .ok b w := by
  have hf : (Tryd.prog.fieldsOf 24).toList = [{ name := "Kind", type := 3, offset := 0, embedded := false, tag := "", pkgPath := "", byteOffset := 0 }, { name := "Name", type := 9, offset := 1, embedded := false, tag := "", pkgPath := "", byteOffset := 8 }, { name := "Num", type := 3, offset := 2, embedded := false, tag := "", pkgPath := "", byteOffset := 24 }, { name := "Six", type := 22, offset := 3, embedded := false, tag := "", pkgPath := "", byteOffset := 32 }] := by
    unfold Program.fieldsOf
    rw [Tryd.underlying24]
  subst hb
  rw [show (10000 : Nat) = 9999 + 1 from rfl, run_equalIn_struct w 9999 24 _ _ (by kernel_rfl) (by kernel_rfl), hf]
  have e3 : ∀ u : World, (Op.equalIn 9999 3 (.int .i64 h.k) (.int .i64 k.k)).run Tryd.prog u = .ok (h.k == k.k) u := fun u => run_equalIn_int u 9998 3 .i64 .i64 _ _ Tryd.underlying3
  have e3' : ∀ u : World, (Op.equalIn 9999 3 (.int .i64 h.n) (.int .i64 k.n)).run Tryd.prog u = .ok (h.n == k.n) u := fun u => run_equalIn_int u 9998 3 .i64 .i64 _ _ Tryd.underlying3
  have e9 : ∀ u : World, (Op.equalIn 9999 9 (.string h.s) (.string k.s)).run Tryd.prog u = .ok (h.s.toList == k.s.toList) u := fun u => run_equalIn_string u 9998 9 _ _ Tryd.underlying9
  have e22 := eq22d h.p k.p h8 k8
  have q1 := part_p h h8
  have q2 := part_p k k8
  have n1 : ("Kind" : String) ≠ "_" := by decide
  have n2 : ("Name" : String) ≠ "_" := by decide
  have n3 : ("Num" : String) ≠ "_" := by decide
  have n4 : ("Six" : String) ≠ "_" := by decide
  unfold sameH
  generalize (h.k == k.k) = b1 at e3 ⊢
  generalize (h.n == k.n) = b2 at e3' ⊢
  generalize (h.s.toList == k.s.toList) = b3 at e9 ⊢
  generalize decide (h.p = k.p) = b4 at e22 ⊢
  simp only [Op.eqFields, if_pos n1, if_pos n2, if_pos n3, if_pos n4, Sem.run_bind, part_k, part_n, part_s, q1, q2, Result.andThen_ok, e3]
  cases b1 <;> cases b2 <;> cases b3 <;> cases b4 <;> simp [part_n, part_s, q1, q2, e3', e9, e22]
/-! ### told -/
theorem method42 (s : ByteArray) (w : World) (n : Nat) : (method (n + 1) 42 (.string s) "postmark/host.may").run Tryd.prog w = .ok (42, .string s) w := by kernel_rfl
theorem method44 (z : Int) (w : World) (n : Nat) : (method (n + 1) 44 (.int .i64 z) "postmark/host.may").run Tryd.prog w = .ok (115, .int .i64 z) w := by kernel_rfl
theorem method46 (p : Array Value) (w : World) (n : Nat) : (method (n + 1) 46 (.agg p) "postmark/host.may").run Tryd.prog w = .ok (116, .agg p) w := by kernel_rfl
theorem HostAt.six {w : World} {g : Nat} {h : H} (a : HostAt w g h) (h8 : h.p.length = 8) : (loadVar 22 ⟨g, 3, none⟩).run Tryd.prog w = .ok (.agg (arr h.p)) w := by
  have hl : (loadCells ⟨g, 3, none⟩ (arr h.p).toList.length).run Tryd.prog w = .ok (arr h.p).toList.toArray w :=
    run_loadCells_list (P := Tryd.prog) w ⟨g, 3, none⟩ (arr h.p).toList (fun j v hv => by
      have hadd : (⟨g, 3, none⟩ : Addr).add j = ⟨g, 3 + j, none⟩ := by unfold Addr.add; split <;> simp_all
      rw [hadd, a.cell, cells_sixat]
      simpa using hv)
  have hagg : (isAgg 22).run Tryd.prog w = .ok true w := by kernel_rfl
  have hsz : (sizeOf 22).run Tryd.prog w = .ok 8 w := by kernel_rfl
  have hlen : (arr h.p).toList.length = 8 := by rw [Array.length_toList, Six.arr_size, h8]
  rw [hlen] at hl
  simp [loadVar, Sem.run_bind, hagg, hsz, hl]
set_option maxRecDepth 100000 in
set_option maxHeartbeats 4000000 in
theorem told_dom (s : ByteArray) (n : Int) (p : List Int) (h8 : p.length = 8) (hs : s.size ≤ 1000) (b1 b2 : Bool) (hb1 : sameH ⟨1, s, n, p⟩ ⟨1, s, 0, zero8⟩ = b1) (hb2 : domB s.data.toList = b2) (m : Int) (w : World) (hm : Six.At m w) :
    Calls Tryd.prog 16 #[.agg (H.cells ⟨1, s, n, p⟩)] w fun e w' => e = .returned (if b1 && b2 then .iface 42 (.string s) else .nilIface) ∧ Below w.heap.size w w' := by
  have c0 : (H.cells ⟨1, s, n, p⟩)[0]? = some (.int .i64 1) := rfl
  have c1 : (H.cells ⟨1, s, n, p⟩)[1]? = some (.string s) := rfl
  have c2 : (H.cells ⟨1, s, n, p⟩)[2]? = some (.int .i64 n) := rfl
  have HB0 := Lib.hid (show Below w.heap.size w (w.alloc (.cells (H.cells ⟨1, s, n, p⟩) 24)) from (Below.refl _ w).alloc (Nat.le_refl _) _)
  have HR0 := Lib.hid (HostAt.new w ⟨1, s, n, p⟩)
  have heq := fun u => eq24 ⟨1, s, n, p⟩ ⟨1, s, 0, zero8⟩ h8 (by first | rfl | exact h8) b1 hb1 u
  have HL := Lib.hid (fun u (hu : HostAt u w.heap.size ⟨1, s, n, p⟩) => hu.load h8)
  have HSx := Lib.hid (fun u (hu : HostAt u w.heap.size ⟨1, s, n, p⟩) => hu.six h8)
  have cW := Lib.hid (fun u => whole_dom s u)
  have cD := Lib.hid (fun u (hu : Six.At m u) => dmay_any s (by omega) b2 hb2 m u hu)
  have HM := Lib.hid (hm.later HB0.out)
  have hmt := fun u => method42 s u 238
  rw [show cH 1 s 0 zero8 = H.cells ⟨1, s, 0, zero8⟩ from rfl] at cW
  generalize H.cells ⟨1, s, n, p⟩ = Cs at c0 c1 c2 heq HB0 HL HM HR0 ⊢
  generalize H.cells ⟨1, s, 0, zero8⟩ = Ds at heq cW
  clear hb1 hb2 h8 hs hm
  go_enter Tryd.func16, Tryd.ntmps16
  go_wp2
  generalize w.alloc (.cells Cs 24) = W at HB0 HR0 HM ⊢
  clear c0 c1 c2 HSx
  have hany : ∀ p : Prop, (∀ u, Below W.heap.size W u → p) ↔ p := fun p => ⟨fun h => h _ (Below.refl _ _), fun h _ _ => h⟩
  cases b1
  · refine Ascii.wp_region_quiet_below (by kernel_rfl) (by kernel_rfl) ?_
    ((go_big_quiet_want; (with_reducible refine quiet_load (o := ⟨some 21, .load 24 (.tmp 1), _, _, _, _⟩) 24 (.tmp 1) ?_ ⟨w.heap.size, 0, none⟩ ?_ (.agg Cs) ?_ ?_); (· rfl); (· rfl); (· exact fun u hu => HL.out u (HR0.out.later hu))); go_big_quiet_on; simp only [Act.put, List.setIfInBounds_toArray, List.set_cons_succ, List.set_cons_zero])
    repeat (go_big_quiet_step ((intro hu; go_at_call 21; exact (cW.out _).mono fun e u' h => ⟨h.1, hu.trans (h.2.mono hu.size)⟩)))
    refine wpQuiet_nil ?_
    intro u hu
    go_wp2
    go_ret
    exact ⟨rfl, Ascii.below2 HB0.out hu⟩
  · refine Ascii.wp_region_quiet_below (by kernel_rfl) (by kernel_rfl) ?_
    ((go_big_quiet_want; (with_reducible refine quiet_load (o := ⟨some 21, .load 24 (.tmp 1), _, _, _, _⟩) 24 (.tmp 1) ?_ ⟨w.heap.size, 0, none⟩ ?_ (.agg Cs) ?_ ?_); (· rfl); (· rfl); (· exact fun u hu => HL.out u (HR0.out.later hu))); go_big_quiet_on; simp only [Act.put, List.setIfInBounds_toArray, List.set_cons_succ, List.set_cons_zero])
    iterate 5 (go_big_quiet_step ((intro hu; go_at_call 21; exact (cW.out _).mono fun e u' h => ⟨h.1, hu.trans (h.2.mono hu.size)⟩)))
    go_big_quiet_step ((intro hu; go_at_call 42; exact (cD.out _ (HM.out.later hu)).mono fun e u' h => ⟨h.1, hu.trans (h.2.mono hu.size)⟩))
    repeat (go_big_quiet_step (fail))
    refine wpQuiet_nil ?_
    intro u hu
    cases b2
    · go_wp2
      go_ret
      exact ⟨rfl, Ascii.below2 HB0.out hu⟩
    · go_wp2
      go_ret
      exact ⟨rfl, Ascii.below2 HB0.out hu⟩
set_option maxRecDepth 100000 in
set_option maxHeartbeats 4000000 in
theorem told_num (s : ByteArray) (n : Int) (p : List Int) (h8 : p.length = 8) (hs : s.size ≤ 1000) (b1 b2 : Bool) (hb1 : sameH ⟨2, s, n, p⟩ ⟨2, ⟨#[]⟩, n, zero8⟩ = b1) (hb2 : Four.fitsB n = b2) (m : Int) (w : World) (hm : Six.At m w) :
    Calls Tryd.prog 16 #[.agg (H.cells ⟨2, s, n, p⟩)] w fun e w' => e = .returned (if b1 && b2 then .iface 44 (.int .i64 n) else .nilIface) ∧ Below w.heap.size w w' := by
  have c0 : (H.cells ⟨2, s, n, p⟩)[0]? = some (.int .i64 2) := rfl
  have c1 : (H.cells ⟨2, s, n, p⟩)[1]? = some (.string s) := rfl
  have c2 : (H.cells ⟨2, s, n, p⟩)[2]? = some (.int .i64 n) := rfl
  have HB0 := Lib.hid (show Below w.heap.size w (w.alloc (.cells (H.cells ⟨2, s, n, p⟩) 24)) from (Below.refl _ w).alloc (Nat.le_refl _) _)
  have HR0 := Lib.hid (HostAt.new w ⟨2, s, n, p⟩)
  have heq := fun u => eq24 ⟨2, s, n, p⟩ ⟨2, ⟨#[]⟩, n, zero8⟩ h8 (by first | rfl | exact h8) b1 hb1 u
  have HL := Lib.hid (fun u (hu : HostAt u w.heap.size ⟨2, s, n, p⟩) => hu.load h8)
  have HSx := Lib.hid (fun u (hu : HostAt u w.heap.size ⟨2, s, n, p⟩) => hu.six h8)
  have cW := Lib.hid (fun u => whole_num n u)
  have cD := Lib.hid (fun u => nmay_any n b2 hb2 u)
  have HM := Lib.hid (hm.later HB0.out)
  have hmt := fun u => method44 n u 238
  rw [show cH 2 ⟨#[]⟩ n zero8 = H.cells ⟨2, ⟨#[]⟩, n, zero8⟩ from rfl] at cW
  generalize H.cells ⟨2, s, n, p⟩ = Cs at c0 c1 c2 heq HB0 HL HM HR0 ⊢
  generalize H.cells ⟨2, ⟨#[]⟩, n, zero8⟩ = Ds at heq cW
  clear hb1 hb2 h8 hs hm
  go_enter Tryd.func16, Tryd.ntmps16
  go_wp2
  generalize w.alloc (.cells Cs 24) = W at HB0 HR0 HM ⊢
  clear c0 c1 c2 HSx
  have hany : ∀ p : Prop, (∀ u, Below W.heap.size W u → p) ↔ p := fun p => ⟨fun h => h _ (Below.refl _ _), fun h _ _ => h⟩
  cases b1
  · refine Ascii.wp_region_quiet_below (by kernel_rfl) (by kernel_rfl) ?_
    ((go_big_quiet_want; (with_reducible refine quiet_load (o := ⟨some 21, .load 24 (.tmp 1), _, _, _, _⟩) 24 (.tmp 1) ?_ ⟨w.heap.size, 0, none⟩ ?_ (.agg Cs) ?_ ?_); (· rfl); (· rfl); (· exact fun u hu => HL.out u (HR0.out.later hu))); go_big_quiet_on; simp only [Act.put, List.setIfInBounds_toArray, List.set_cons_succ, List.set_cons_zero])
    repeat (go_big_quiet_step ((intro hu; go_at_call 21; exact (cW.out _).mono fun e u' h => ⟨h.1, hu.trans (h.2.mono hu.size)⟩)))
    refine wpQuiet_nil ?_
    intro u hu
    go_wp2
    go_ret
    exact ⟨rfl, Ascii.below2 HB0.out hu⟩
  · refine Ascii.wp_region_quiet_below (by kernel_rfl) (by kernel_rfl) ?_
    ((go_big_quiet_want; (with_reducible refine quiet_load (o := ⟨some 21, .load 24 (.tmp 1), _, _, _, _⟩) 24 (.tmp 1) ?_ ⟨w.heap.size, 0, none⟩ ?_ (.agg Cs) ?_ ?_); (· rfl); (· rfl); (· exact fun u hu => HL.out u (HR0.out.later hu))); go_big_quiet_on; simp only [Act.put, List.setIfInBounds_toArray, List.set_cons_succ, List.set_cons_zero])
    iterate 5 (go_big_quiet_step ((intro hu; go_at_call 21; exact (cW.out _).mono fun e u' h => ⟨h.1, hu.trans (h.2.mono hu.size)⟩)))
    go_big_quiet_step ((intro hu; go_at_call 115; exact (cD.out _).mono fun e u' h => ⟨h.1, hu.trans (h.2.mono hu.size)⟩))
    repeat (go_big_quiet_step (fail))
    refine wpQuiet_nil ?_
    intro u hu
    cases b2
    · go_wp2
      go_ret
      exact ⟨rfl, Ascii.below2 HB0.out hu⟩
    · go_wp2
      go_ret
      exact ⟨rfl, Ascii.below2 HB0.out hu⟩
set_option maxRecDepth 100000 in
set_option maxHeartbeats 4000000 in
theorem told_six (s : ByteArray) (n : Int) (p : List Int) (h8 : p.length = 8) (hs : s.size ≤ 1000) (b1 b2 : Bool) (hb1 : sameH ⟨3, s, n, p⟩ ⟨3, ⟨#[]⟩, 0, p⟩ = b1) (hb2 : Six.mayP p = b2) (m : Int) (w : World) (hm : Six.At m w) :
    Calls Tryd.prog 16 #[.agg (H.cells ⟨3, s, n, p⟩)] w fun e w' => e = .returned (if b1 && b2 then .iface 46 (.agg (arr p)) else .nilIface) ∧ Below w.heap.size w w' := by
  have c0 : (H.cells ⟨3, s, n, p⟩)[0]? = some (.int .i64 3) := rfl
  have c1 : (H.cells ⟨3, s, n, p⟩)[1]? = some (.string s) := rfl
  have c2 : (H.cells ⟨3, s, n, p⟩)[2]? = some (.int .i64 n) := rfl
  have HB0 := Lib.hid (show Below w.heap.size w (w.alloc (.cells (H.cells ⟨3, s, n, p⟩) 24)) from (Below.refl _ w).alloc (Nat.le_refl _) _)
  have HR0 := Lib.hid (HostAt.new w ⟨3, s, n, p⟩)
  have heq := fun u => eq24 ⟨3, s, n, p⟩ ⟨3, ⟨#[]⟩, 0, p⟩ h8 (by first | rfl | exact h8) b1 hb1 u
  have HL := Lib.hid (fun u (hu : HostAt u w.heap.size ⟨3, s, n, p⟩) => hu.load h8)
  have HSx := Lib.hid (fun u (hu : HostAt u w.heap.size ⟨3, s, n, p⟩) => hu.six h8)
  have cW := Lib.hid (fun u => whole_six p h8 u)
  have cD := Lib.hid (fun u => pmay_any p h8 b2 hb2 u)
  have HM := Lib.hid (hm.later HB0.out)
  have hmt := fun u => method46 (arr p) u 238
  rw [show cH 3 ⟨#[]⟩ 0 p = H.cells ⟨3, ⟨#[]⟩, 0, p⟩ from rfl] at cW
  generalize H.cells ⟨3, s, n, p⟩ = Cs at c0 c1 c2 heq HB0 HL HM HR0 ⊢
  generalize H.cells ⟨3, ⟨#[]⟩, 0, p⟩ = Ds at heq cW
  clear hb1 hb2 h8 hs hm
  go_enter Tryd.func16, Tryd.ntmps16
  go_wp2_with ((with_reducible refine wp_load_at (o := ⟨some 19, .load 22 (.tmp 18), _, _, _, _⟩) ?_ 22 (.tmp 18) ?_ ⟨w.heap.size, 3, none⟩ ?_ (.agg (arr p)) (HSx.out _ HR0.out) ?_); (· rfl); (· rfl); (· rfl))
  generalize w.alloc (.cells Cs 24) = W at HB0 HR0 HM ⊢
  clear c0 c1 c2 HSx
  have hany : ∀ p : Prop, (∀ u, Below W.heap.size W u → p) ↔ p := fun p => ⟨fun h => h _ (Below.refl _ _), fun h _ _ => h⟩
  cases b1
  · refine Ascii.wp_region_quiet_below (by kernel_rfl) (by kernel_rfl) ?_
    ((go_big_quiet_want; (with_reducible refine quiet_load (o := ⟨some 21, .load 24 (.tmp 1), _, _, _, _⟩) 24 (.tmp 1) ?_ ⟨w.heap.size, 0, none⟩ ?_ (.agg Cs) ?_ ?_); (· rfl); (· rfl); (· exact fun u hu => HL.out u (HR0.out.later hu))); go_big_quiet_on; simp only [Act.put, List.setIfInBounds_toArray, List.set_cons_succ, List.set_cons_zero])
    repeat (go_big_quiet_step ((intro hu; go_at_call 21; exact (cW.out _).mono fun e u' h => ⟨h.1, hu.trans (h.2.mono hu.size)⟩)))
    refine wpQuiet_nil ?_
    intro u hu
    go_wp2
    go_ret
    exact ⟨rfl, Ascii.below2 HB0.out hu⟩
  · refine Ascii.wp_region_quiet_below (by kernel_rfl) (by kernel_rfl) ?_
    ((go_big_quiet_want; (with_reducible refine quiet_load (o := ⟨some 21, .load 24 (.tmp 1), _, _, _, _⟩) 24 (.tmp 1) ?_ ⟨w.heap.size, 0, none⟩ ?_ (.agg Cs) ?_ ?_); (· rfl); (· rfl); (· exact fun u hu => HL.out u (HR0.out.later hu))); go_big_quiet_on; simp only [Act.put, List.setIfInBounds_toArray, List.set_cons_succ, List.set_cons_zero])
    iterate 5 (go_big_quiet_step ((intro hu; go_at_call 21; exact (cW.out _).mono fun e u' h => ⟨h.1, hu.trans (h.2.mono hu.size)⟩)))
    go_big_quiet_step ((intro hu; go_at_call 116; exact (cD.out _).mono fun e u' h => ⟨h.1, hu.trans (h.2.mono hu.size)⟩))
    repeat (go_big_quiet_step (fail))
    refine wpQuiet_nil ?_
    intro u hu
    cases b2
    · go_wp2
      go_ret
      exact ⟨rfl, Ascii.below2 HB0.out hu⟩
    · go_wp2
      go_ret
      exact ⟨rfl, Ascii.below2 HB0.out hu⟩
set_option maxRecDepth 100000 in
set_option maxHeartbeats 2000000 in
theorem told_no (h : H) (k1 : (h.k == 1) = false) (k2 : (h.k == 2) = false) (k3 : (h.k == 3) = false) (w : World) :
    Calls Tryd.prog 16 #[.agg h.cells] w fun e w' => e = .returned .nilIface ∧ Below w.heap.size w w' := by
  have c0 : h.cells[0]? = some (.int .i64 h.k) := rfl
  have HB0 := Lib.hid (show Below w.heap.size w (w.alloc (.cells h.cells 24)) from (Below.refl _ w).alloc (Nat.le_refl _) _)
  generalize h.cells = Cs at c0 HB0
  generalize h.k = k at *
  go_enter Tryd.func16, Tryd.ntmps16
  go_wp2
  go_ret
  exact ⟨rfl, HB0.out⟩
/-- May a host be? -/
def mayH (h : H) : Bool := if h.k = 1 then sameH h ⟨1, h.s, 0, zero8⟩ && domB h.s.data.toList else if h.k = 2 then sameH h ⟨2, ⟨#[]⟩, h.n, zero8⟩ && Four.fitsB h.n else if h.k = 3 then sameH h ⟨3, ⟨#[]⟩, 0, h.p⟩ && Six.mayP h.p else false
/-- What it is. -/
def whatH (h : H) : Value := if mayH h then (if h.k = 1 then .iface 42 (.string h.s) else if h.k = 2 then .iface 44 (.int .i64 h.n) else .iface 46 (.agg (arr h.p))) else .nilIface
theorem told_any (h : H) (h8 : h.p.length = 8) (hs : h.s.size ≤ 1000) (v : Value) (hv : whatH h = v) (m : Int) (w : World) (hm : Six.At m w) :
    Calls Tryd.prog 16 #[.agg h.cells] w fun e w' => e = .returned v ∧ Below w.heap.size w w' := by
  subst hv
  obtain ⟨k, s, n, p⟩ := h
  unfold whatH mayH
  by_cases h1 : k = 1
  · subst h1
    exact told_dom s n p h8 hs _ _ rfl rfl m w hm
  · by_cases h2 : k = 2
    · subst h2
      exact told_num s n p h8 hs _ _ rfl rfl m w hm
    · by_cases h3 : k = 3
      · subst h3
        exact told_six s n p h8 hs _ _ rfl rfl m w hm
      · have := told_no ⟨k, s, n, p⟩ (beq_false_of_ne h1) (beq_false_of_ne h2) (beq_false_of_ne h3) w
        simp only [if_neg h1, if_neg h2, if_neg h3]
        exact this
theorem what_cases (h : H) : (mayH h = false ∧ whatH h = .nilIface) ∨ (mayH h = true ∧ h = ⟨1, h.s, 0, zero8⟩ ∧ domB h.s.data.toList = true ∧ whatH h = .iface 42 (.string h.s)) ∨
    (mayH h = true ∧ h = ⟨2, ⟨#[]⟩, h.n, zero8⟩ ∧ Four.fitsB h.n = true ∧ whatH h = .iface 44 (.int .i64 h.n)) ∨ (mayH h = true ∧ h = ⟨3, ⟨#[]⟩, 0, h.p⟩ ∧ Six.mayP h.p = true ∧ whatH h = .iface 46 (.agg (arr h.p))) := by
  cases e : mayH h
  · exact .inl ⟨rfl, by unfold whatH; rw [e]; rfl⟩
  · have hw : whatH h = (if h.k = 1 then .iface 42 (.string h.s) else if h.k = 2 then .iface 44 (.int .i64 h.n) else .iface 46 (.agg (arr h.p))) := by unfold whatH; rw [if_pos e]
    unfold mayH at e
    by_cases h1 : h.k = 1
    · rw [if_pos h1, Bool.and_eq_true, same_iff] at e
      exact .inr (.inl ⟨rfl, e.1, e.2, by rw [hw, if_pos h1]⟩)
    · rw [if_neg h1] at e
      by_cases h2 : h.k = 2
      · rw [if_pos h2, Bool.and_eq_true, same_iff] at e
        exact .inr (.inr (.inl ⟨rfl, e.1, e.2, by rw [hw, if_neg h1, if_pos h2]⟩))
      · rw [if_neg h2] at e
        by_cases h3 : h.k = 3
        · rw [if_pos h3, Bool.and_eq_true, same_iff] at e
          exact .inr (.inr (.inr ⟨rfl, e.1, e.2, by rw [hw, if_neg h1, if_neg h2]⟩))
        · rw [if_neg h3] at e; cases e
set_option maxRecDepth 100000 in
set_option maxHeartbeats 2000000 in
/-- May, what the host is told. -/
theorem may_in (h : H) (h8 : h.p.length = 8) (hs : h.s.size ≤ 1000) (v : Value) (hv : whatH h = v) (b : Bool) (hb : (v = .nilIface ∧ b = false) ∨ (∃ t x, v = .iface t x ∧ b = true)) (m : Int) (w : World) (hm : Six.At m w) :
    Calls Tryd.prog 11 #[.agg h.cells] w fun e w' => e = .returned (.bool b) ∧ Below w.heap.size w w' := by
  have HB0 := Lib.hid (show Below w.heap.size w (w.alloc (.cells h.cells 24)) from (Below.refl _ w).alloc (Nat.le_refl _) _)
  have HR0 := Lib.hid (HostAt.new w h)
  have HM := Lib.hid (hm.later HB0.out)
  have cT := Lib.hid (fun u (hu : Six.At m u) => told_any h h8 hs v hv m u hu)
  have H8 := Lib.hid h8
  have HH := Lib.hid hb
  clear hm h8 hs hv hb
  go_enter Tryd.func11, Tryd.ntmps11
  go_wp2_with ((with_reducible refine wp_load24 (o := ⟨some 3, .load 24 (.tmp 1), _, _, _, _⟩) ?_ (.tmp 1) ?_ w.heap.size ?_ h H8.out HR0.out ?_); (· rfl); (· rfl); (· rfl))
  refine (cT.out _ HM.out).mono ?_
  rintro e u1 ⟨rfl, hB1⟩
  have HB1 := Lib.hid (Ascii.below2 HB0.out hB1)
  clear hB1 cT HB0 HR0 HM
  rcases HH.out with ⟨rfl, rfl⟩ | ⟨t, x, rfl, rfl⟩
  · go_wp2
    go_ret
    exact ⟨rfl, HB1.out⟩
  · go_wp2
    go_ret
    exact ⟨rfl, HB1.out⟩
theorem may_any (h : H) (h8 : h.p.length = 8) (hs : h.s.size ≤ 1000) (b : Bool) (hb : mayH h = b) (m : Int) (w : World) (hm : Six.At m w) :
    Calls Tryd.prog 11 #[.agg h.cells] w fun e w' => e = .returned (.bool b) ∧ Below w.heap.size w w' := by
  subst hb
  refine may_in h h8 hs _ rfl _ ?_ m w hm
  rcases what_cases h with ⟨h1, h2⟩ | ⟨h1, _, _, h2⟩ | ⟨h1, _, _, h2⟩ | ⟨h1, _, _, h2⟩
  · exact .inl ⟨h2, h1⟩
  · exact .inr ⟨_, _, h2, h1⟩
  · exact .inr ⟨_, _, h2, h1⟩
  · exact .inr ⟨_, _, h2, h1⟩
end Go.Proofs.YtidmlhefdjpafaaDoor.Host

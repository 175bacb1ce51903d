/-
  url's Same, and the laws' Few.
-/
import Derived.Test.YtfdhhjigpboieaaGreatDoorUObj
namespace Go.Proofs.YtfdhhjigpboieaaGreatDoor.Url
open Go.RowKit Go.Shelf
open Host (H HostAt none0 okH mayH)
open Six (arr RowAt zero8)
open Path (Strs)
set_option linter.unusedSimpArgs false
set_option linter.unusedVariables false
set_option maxRecDepth 100000

theorem tb_inj {l k : T} (h : tb l = tb k) : l = k := by have := congrArg (fun x : ByteArray => x.data.toList) h; exact this
theorem map_tb {l k : List T} : l.map tb = k.map tb ↔ l = k := by
  constructor
  · intro h
    induction l generalizing k with
    | nil => cases k with
      | nil => rfl
      | cons a r => cases h
    | cons a r ih => cases k with
      | nil => cases h
      | cons b q =>
        simp only [List.map_cons, List.cons.injEq] at h
        rw [tb_inj h.1, ih h.2]
  · intro h; rw [h]
theorem getD_tb (l : List T) (j : Nat) (h : j < l.length) (e : ByteArray) : (l.map tb).getD j e = tb l[j] := by simp [List.getD, h]
theorem equal_any (pv qv : Value) (l k : List T) (b : Bool) (hb : (l == k) = b) (w : World) (h : Strs w pv l) (h' : Strs w qv k) :
    Calls Tryz.prog 58 #[pv, qv] w fun e w' => e = .returned (.bool b) ∧ Below w.heap.size w w' := by
  subst hb
  obtain ⟨a, c, rfl, h1, h2, h3, h4⟩ := h
  obtain ⟨a', c', rfl, h1', h2', h3', h4'⟩ := h'
  unfold maxLen at h2 h2'
  by_cases hn : l.length = k.length
  · cases l with
    | nil =>
      obtain rfl : k = [] := List.length_eq_zero_iff.1 hn.symm
      refine (Tryz.slices_Equal_string_empty a a' c ([] : List T).length c' w (by omega)).mono fun e w' h => ⟨?_, by rw [h.2]; exact Below.refl _ _⟩
      rw [h.1]; rfl
    | cons x r =>
      cases k with
      | nil => simp at hn
      | cons y q =>
        obtain ⟨b1, o1, rfl, hc1⟩ := h4 (by simp)
        obtain ⟨b2, o2, rfl, hc2⟩ := h4' (by simp)
        have key := Tryz.slices_Equal_string b1 o1 (x :: r).length c b2 o2 (y :: q).length c' ((x :: r).map tb) ((y :: q).map tb) w (by simp) (by simp) (by omega) (by omega)
          (fun j hj => by
            have hj' : j < (x :: r).length := by simpa using hj
            rw [hc1 j hj', getD_tb _ j hj']; rfl)
          (fun j hj => by
            have hj' : j < (y :: q).length := by simpa using hj
            rw [hc2 j hj', getD_tb _ j hj']; rfl)
        refine key.mono fun e w' h => ⟨?_, ?_⟩
        · rw [h.1, List.take_of_length_le (by simp), List.take_of_length_le (by simp)]
          congr 2
          rw [decide_eq_decide.2 (map_tb (l := x :: r) (k := y :: q))]
          by_cases e : x :: r = y :: q
          · exact (decide_eq_true e).trans (beq_iff_eq.2 e).symm
          · rw [decide_eq_false e]; exact (beq_eq_false_iff_ne.2 e).symm
        · obtain ⟨n, rfl⟩ := h.2
          exact below_drew (Below.refl _ _) n
  · refine (Tryz.slices_Equal_string_lens a a' l.length c k.length c' w hn).mono fun e w' h => ⟨?_, by rw [h.2]; exact Below.refl _ _⟩
    rw [h.1]
    congr 2
    exact (beq_eq_false_iff_ne.2 (fun e => hn (by rw [e]))).symm
theorem beq_tb (l k : T) : ((tb l).toList == (tb k).toList) = (l == k) := by rw [Path.tl, Path.tl]; rfl
theorem wp_box27 {ops : Array Oper} {rest : List Oper} {o : Oper} {a : Act} {w : World} {Q : Exit → Act → World → Prop} (hgd : o.guard = none) (x : Operand) (ho : o.op = .box 27 x) (cs : Array Value) (hx : a.eval x = .agg cs)
    (hk : wpList Tryz.prog ops Q rest (a.put o.dst (.pointer (some ⟨w.heap.size, 0, none⟩))) (w.alloc (.cells cs 27))) : wpList Tryz.prog ops Q (o :: rest) a w :=
  wpList_plain hgd fun _ hK => by
    have hr : (execOp a.eval o).run Tryz.prog w = .ok (.value (.pointer (some ⟨w.heap.size, 0, none⟩))) (w.alloc (.cells cs 27)) := by
      unfold execOp
      simp only [ho, hx]
      simp [go_sem]
    unfold Oper.wp
    rw [hr]
    exact hK _ _ hk
set_option maxHeartbeats 8000000 in
theorem same_any (a b : U) (pv qv : Value) (ha : a.h.p.length = 8) (hb : b.h.p.length = 8) (r : Bool) (hr : sameU a b = r) (w : World) (hp : Strs w pv a.path) (hq : Strs w qv b.path) :
    Calls Tryz.prog 22 #[.agg (cU a pv), .agg (cU b qv)] w fun e w' => e = .returned (.bool r) ∧ Below w.heap.size w w' := by
  have hs1 : (w.alloc (.cells (cU a pv) 27)).heap.size = w.heap.size + 1 := Array.size_push _
  have hB1 := (Below.refl w.heap.size w).alloc (Nat.le_refl _) (.cells (cU a pv) 27)
  have hB2 := hB1.alloc (Nat.le_trans (Nat.le_succ _) (Nat.le_of_eq hs1.symm)) (.cells (cU b qv) 27)
  have HU := Lib.hid ((UrlAt.new w a pv).past (.cells (cU b qv) 27))
  have HV := Lib.hid (show UrlAt ((w.alloc (.cells (cU a pv) 27)).alloc (.cells (cU b qv) 27)) (w.heap.size + 1) b qv from by rw [← hs1]; exact UrlAt.new _ b qv)
  have HP := Lib.hid (hp.later hB2)
  have HQ := Lib.hid (hq.later hB2)
  have HB2 := Lib.hid hB2
  have CE := Lib.hid (fun v h h' => equal_any pv qv a.path b.path _ rfl v h h')
  have q1 := beq_tb a.sch b.sch
  have q2 := beq_tb a.usr b.usr
  have q3 := beq_tb a.pas b.pas
  have heq : ∀ v, (Op.equalIn 10000 24 (.agg a.h.cells) (.agg b.h.cells)).run Tryz.prog v = .ok (Host.sameH a.h b.h) v := fun v => Host.eq24 a.h b.h ha hb _ rfl v
  have q7 := beq_tb a.opq b.opq
  have q8 := beq_tb a.qry b.qry
  have q10 := beq_tb a.frg b.frg
  unfold sameU at hr
  subst hr
  generalize (a.sch == b.sch) = s1 at q1 ⊢
  generalize (a.usr == b.usr) = s2 at q2 ⊢
  generalize (a.pas == b.pas) = s3 at q3 ⊢
  generalize Host.sameH a.h b.h = s4 at heq ⊢
  generalize (a.path == b.path) = s6 at CE ⊢
  generalize (a.opq == b.opq) = s7 at q7 ⊢
  generalize (a.qry == b.qry) = s8 at q8 ⊢
  generalize (a.frg == b.frg) = s10 at q10 ⊢
  clear hB1 hB2 hp hq
  have c0 := HU.out.cell 0
  rw [(cU_at a _ ha).1] at c0
  have c1 := HU.out.cell 1
  rw [(cU_at a _ ha).2.1] at c1
  have c2 := HU.out.cell 2
  rw [(cU_at a _ ha).2.2.1] at c2
  have c14 := HU.out.cell 14
  rw [(cU_at a _ ha).2.2.2.2.1] at c14
  have c15 := HU.out.cell 15
  rw [(cU_at a _ ha).2.2.2.2.2.1] at c15
  have d0 := HV.out.cell 0
  rw [(cU_at b _ hb).1] at d0
  have d1 := HV.out.cell 1
  rw [(cU_at b _ hb).2.1] at d1
  have d2 := HV.out.cell 2
  rw [(cU_at b _ hb).2.2.1] at d2
  have d14 := HV.out.cell 14
  rw [(cU_at b _ hb).2.2.2.2.1] at d14
  have d15 := HV.out.cell 15
  rw [(cU_at b _ hb).2.2.2.2.2.1] at d15
  cases s1
  · go_enter Tryz.func22, Tryz.ntmps22; simp only [List.append_eq, List.cons_append, List.nil_append]
    go_wp2_with (first | ((with_reducible refine wp_box27 (o := ⟨some 2, .box 27 (.tmp 0), _, _, _, _⟩) ?_ (.tmp 0) ?_ (cU a pv) ?_ ?_); (· rfl); (· rfl); (· rfl); simp only [Act.put, List.setIfInBounds_toArray, List.set_cons_zero, List.set_cons_succ]) | ((with_reducible refine wp_box27 (o := ⟨some 3, .box 27 (.tmp 1), _, _, _, _⟩) ?_ (.tmp 1) ?_ (cU b qv) ?_ ?_); (· rfl); (· rfl); (· rfl); rw [hs1]; simp only [Act.put, List.setIfInBounds_toArray, List.set_cons_zero, List.set_cons_succ]) | ((with_reducible refine wp_load24u (o := ⟨some 26, .load 24 (.tmp 25), _, _, _, _⟩) ?_ (.tmp 25) ?_ w.heap.size ?_ a pv ha HU.out ?_); (· rfl); (· rfl); (· rfl); simp only [Act.put, List.setIfInBounds_toArray, List.set_cons_zero, List.set_cons_succ]) | ((with_reducible refine wp_load24u (o := ⟨some 28, .load 24 (.tmp 27), _, _, _, _⟩) ?_ (.tmp 27) ?_ (w.heap.size + 1) ?_ b qv hb HV.out ?_); (· rfl); (· rfl); (· rfl); simp only [Act.put, List.setIfInBounds_toArray, List.set_cons_zero, List.set_cons_succ]))
    go_ret
    exact ⟨rfl, HB2.out⟩
  cases s2
  · go_enter Tryz.func22, Tryz.ntmps22; simp only [List.append_eq, List.cons_append, List.nil_append]
    go_wp2_with (first | ((with_reducible refine wp_box27 (o := ⟨some 2, .box 27 (.tmp 0), _, _, _, _⟩) ?_ (.tmp 0) ?_ (cU a pv) ?_ ?_); (· rfl); (· rfl); (· rfl); simp only [Act.put, List.setIfInBounds_toArray, List.set_cons_zero, List.set_cons_succ]) | ((with_reducible refine wp_box27 (o := ⟨some 3, .box 27 (.tmp 1), _, _, _, _⟩) ?_ (.tmp 1) ?_ (cU b qv) ?_ ?_); (· rfl); (· rfl); (· rfl); rw [hs1]; simp only [Act.put, List.setIfInBounds_toArray, List.set_cons_zero, List.set_cons_succ]) | ((with_reducible refine wp_load24u (o := ⟨some 26, .load 24 (.tmp 25), _, _, _, _⟩) ?_ (.tmp 25) ?_ w.heap.size ?_ a pv ha HU.out ?_); (· rfl); (· rfl); (· rfl); simp only [Act.put, List.setIfInBounds_toArray, List.set_cons_zero, List.set_cons_succ]) | ((with_reducible refine wp_load24u (o := ⟨some 28, .load 24 (.tmp 27), _, _, _, _⟩) ?_ (.tmp 27) ?_ (w.heap.size + 1) ?_ b qv hb HV.out ?_); (· rfl); (· rfl); (· rfl); simp only [Act.put, List.setIfInBounds_toArray, List.set_cons_zero, List.set_cons_succ]))
    go_ret
    exact ⟨rfl, HB2.out⟩
  cases s3
  · go_enter Tryz.func22, Tryz.ntmps22; simp only [List.append_eq, List.cons_append, List.nil_append]
    go_wp2_with (first | ((with_reducible refine wp_box27 (o := ⟨some 2, .box 27 (.tmp 0), _, _, _, _⟩) ?_ (.tmp 0) ?_ (cU a pv) ?_ ?_); (· rfl); (· rfl); (· rfl); simp only [Act.put, List.setIfInBounds_toArray, List.set_cons_zero, List.set_cons_succ]) | ((with_reducible refine wp_box27 (o := ⟨some 3, .box 27 (.tmp 1), _, _, _, _⟩) ?_ (.tmp 1) ?_ (cU b qv) ?_ ?_); (· rfl); (· rfl); (· rfl); rw [hs1]; simp only [Act.put, List.setIfInBounds_toArray, List.set_cons_zero, List.set_cons_succ]) | ((with_reducible refine wp_load24u (o := ⟨some 26, .load 24 (.tmp 25), _, _, _, _⟩) ?_ (.tmp 25) ?_ w.heap.size ?_ a pv ha HU.out ?_); (· rfl); (· rfl); (· rfl); simp only [Act.put, List.setIfInBounds_toArray, List.set_cons_zero, List.set_cons_succ]) | ((with_reducible refine wp_load24u (o := ⟨some 28, .load 24 (.tmp 27), _, _, _, _⟩) ?_ (.tmp 27) ?_ (w.heap.size + 1) ?_ b qv hb HV.out ?_); (· rfl); (· rfl); (· rfl); simp only [Act.put, List.setIfInBounds_toArray, List.set_cons_zero, List.set_cons_succ]))
    go_ret
    exact ⟨rfl, HB2.out⟩
  cases s4
  · go_enter Tryz.func22, Tryz.ntmps22; simp only [List.append_eq, List.cons_append, List.nil_append]
    go_wp2_with (first | ((with_reducible refine wp_box27 (o := ⟨some 2, .box 27 (.tmp 0), _, _, _, _⟩) ?_ (.tmp 0) ?_ (cU a pv) ?_ ?_); (· rfl); (· rfl); (· rfl); simp only [Act.put, List.setIfInBounds_toArray, List.set_cons_zero, List.set_cons_succ]) | ((with_reducible refine wp_box27 (o := ⟨some 3, .box 27 (.tmp 1), _, _, _, _⟩) ?_ (.tmp 1) ?_ (cU b qv) ?_ ?_); (· rfl); (· rfl); (· rfl); rw [hs1]; simp only [Act.put, List.setIfInBounds_toArray, List.set_cons_zero, List.set_cons_succ]) | ((with_reducible refine wp_load24u (o := ⟨some 26, .load 24 (.tmp 25), _, _, _, _⟩) ?_ (.tmp 25) ?_ w.heap.size ?_ a pv ha HU.out ?_); (· rfl); (· rfl); (· rfl); simp only [Act.put, List.setIfInBounds_toArray, List.set_cons_zero, List.set_cons_succ]) | ((with_reducible refine wp_load24u (o := ⟨some 28, .load 24 (.tmp 27), _, _, _, _⟩) ?_ (.tmp 27) ?_ (w.heap.size + 1) ?_ b qv hb HV.out ?_); (· rfl); (· rfl); (· rfl); simp only [Act.put, List.setIfInBounds_toArray, List.set_cons_zero, List.set_cons_succ]))
    go_ret
    exact ⟨rfl, HB2.out⟩
  cases q5 : (a.port == b.port)
  · go_enter Tryz.func22, Tryz.ntmps22; simp only [List.append_eq, List.cons_append, List.nil_append]
    go_wp2_with (first | ((with_reducible refine wp_box27 (o := ⟨some 2, .box 27 (.tmp 0), _, _, _, _⟩) ?_ (.tmp 0) ?_ (cU a pv) ?_ ?_); (· rfl); (· rfl); (· rfl); simp only [Act.put, List.setIfInBounds_toArray, List.set_cons_zero, List.set_cons_succ]) | ((with_reducible refine wp_box27 (o := ⟨some 3, .box 27 (.tmp 1), _, _, _, _⟩) ?_ (.tmp 1) ?_ (cU b qv) ?_ ?_); (· rfl); (· rfl); (· rfl); rw [hs1]; simp only [Act.put, List.setIfInBounds_toArray, List.set_cons_zero, List.set_cons_succ]) | ((with_reducible refine wp_load24u (o := ⟨some 26, .load 24 (.tmp 25), _, _, _, _⟩) ?_ (.tmp 25) ?_ w.heap.size ?_ a pv ha HU.out ?_); (· rfl); (· rfl); (· rfl); simp only [Act.put, List.setIfInBounds_toArray, List.set_cons_zero, List.set_cons_succ]) | ((with_reducible refine wp_load24u (o := ⟨some 28, .load 24 (.tmp 27), _, _, _, _⟩) ?_ (.tmp 27) ?_ (w.heap.size + 1) ?_ b qv hb HV.out ?_); (· rfl); (· rfl); (· rfl); simp only [Act.put, List.setIfInBounds_toArray, List.set_cons_zero, List.set_cons_succ]))
    go_ret
    exact ⟨rfl, HB2.out⟩
  go_enter Tryz.func22, Tryz.ntmps22; simp only [List.append_eq, List.cons_append, List.nil_append]
  go_wp2_with (first | ((with_reducible refine wp_box27 (o := ⟨some 2, .box 27 (.tmp 0), _, _, _, _⟩) ?_ (.tmp 0) ?_ (cU a pv) ?_ ?_); (· rfl); (· rfl); (· rfl); simp only [Act.put, List.setIfInBounds_toArray, List.set_cons_zero, List.set_cons_succ]) | ((with_reducible refine wp_box27 (o := ⟨some 3, .box 27 (.tmp 1), _, _, _, _⟩) ?_ (.tmp 1) ?_ (cU b qv) ?_ ?_); (· rfl); (· rfl); (· rfl); rw [hs1]; simp only [Act.put, List.setIfInBounds_toArray, List.set_cons_zero, List.set_cons_succ]) | ((with_reducible refine wp_load24u (o := ⟨some 26, .load 24 (.tmp 25), _, _, _, _⟩) ?_ (.tmp 25) ?_ w.heap.size ?_ a pv ha HU.out ?_); (· rfl); (· rfl); (· rfl); simp only [Act.put, List.setIfInBounds_toArray, List.set_cons_zero, List.set_cons_succ]) | ((with_reducible refine wp_load24u (o := ⟨some 28, .load 24 (.tmp 27), _, _, _, _⟩) ?_ (.tmp 27) ?_ (w.heap.size + 1) ?_ b qv hb HV.out ?_); (· rfl); (· rfl); (· rfl); simp only [Act.put, List.setIfInBounds_toArray, List.set_cons_zero, List.set_cons_succ]))
  clear c0 c1 c2 c14 c15 d0 d1 d2 d14 d15 heq
  generalize (w.alloc (.cells (cU a pv) 27)).alloc (.cells (cU b qv) 27) = W at HU HV HP HQ HB2 ⊢
  refine (CE.out _ HP.out HQ.out).mono ?_
  rintro e u1 ⟨rfl, hB1⟩
  have HU1 := Lib.hid (HU.out.later hB1)
  have HV1 := Lib.hid (HV.out.later hB1)
  have HB1 := Lib.hid (Ascii.below2 HB2.out hB1)
  clear HU HV HP HQ HB2 hB1 CE
  have c16 := HU1.out.cell 16
  rw [(cU_at a _ ha).2.2.2.2.2.2.1] at c16
  have c17 := HU1.out.cell 17
  rw [(cU_at a _ ha).2.2.2.2.2.2.2.1] at c17
  have c18 := HU1.out.cell 18
  rw [(cU_at a _ ha).2.2.2.2.2.2.2.2.1] at c18
  have c19 := HU1.out.cell 19
  rw [(cU_at a _ ha).2.2.2.2.2.2.2.2.2.1] at c19
  have c20 := HU1.out.cell 20
  rw [(cU_at a _ ha).2.2.2.2.2.2.2.2.2.2] at c20
  have d16 := HV1.out.cell 16
  rw [(cU_at b _ hb).2.2.2.2.2.2.1] at d16
  have d17 := HV1.out.cell 17
  rw [(cU_at b _ hb).2.2.2.2.2.2.2.1] at d17
  have d18 := HV1.out.cell 18
  rw [(cU_at b _ hb).2.2.2.2.2.2.2.2.1] at d18
  have d19 := HV1.out.cell 19
  rw [(cU_at b _ hb).2.2.2.2.2.2.2.2.2.1] at d19
  have d20 := HV1.out.cell 20
  rw [(cU_at b _ hb).2.2.2.2.2.2.2.2.2.2] at d20
  cases s6
  · go_wp2
    go_ret
    exact ⟨rfl, HB1.out⟩
  cases s7
  · go_wp2
    go_ret
    exact ⟨rfl, HB1.out⟩
  cases s8
  · go_wp2
    go_ret
    exact ⟨rfl, HB1.out⟩
  cases q9 : (a.hq == b.hq)
  · go_wp2
    go_ret
    exact ⟨by first | rfl | (rw [q9]; rfl) | (rw [q9, q11]; rfl), HB1.out⟩
  cases s10
  · go_wp2
    go_ret
    exact ⟨by first | rfl | (rw [q9]; rfl) | (rw [q9, q11]; rfl), HB1.out⟩
  cases q11 : (a.hf == b.hf)
  · go_wp2
    go_ret
    exact ⟨by first | rfl | (rw [q9]; rfl) | (rw [q9, q11]; rfl), HB1.out⟩
  · go_wp2
    go_ret
    exact ⟨by first | rfl | (rw [q9]; rfl) | (rw [q9, q11]; rfl), HB1.out⟩
end Go.Proofs.YtfdhhjigpboieaaGreatDoor.Url

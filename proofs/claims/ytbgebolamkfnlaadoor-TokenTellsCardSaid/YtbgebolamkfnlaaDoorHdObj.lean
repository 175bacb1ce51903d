/-
  A field in memory: a block of two texts; a slice of fields.
-/
import Derived.Shelf.Strings.Cut
import Derived.Laws.StructEq
import Derived.Test.YtbgebolamkfnlaaDoorHdAny
namespace Go.Proofs.YtbgebolamkfnlaaDoor.Head
set_option linter.unusedSimpArgs false
set_option linter.unusedVariables false
set_option maxRecDepth 100000


open Go.RowKit Go.Shelf

open Url


/-- A whole value read, the same in every world of the class. -/
theorem quiet_load {P : Program} {C : World → Prop} {o : Oper} {a : Act} {K : Act → Prop} (ty : TypeId) (x : Operand) (ho : o.op = .load ty x) (p : Addr) (hx : a.eval x = .pointer (some p)) (v : Value) (hr : ∀ u, C u → (loadVar ty p).run P u = .ok v u) (hk : K (a.put o.dst v)) : o.quiet P a C K :=
  ⟨_, fun w hw => by
    unfold Oper.quietAt execOp
    simp only [ho, hx, Instr.loadAt, Instr.sureAddr, Sem.run_bind, Sem.run_pure, Result.andThen_ok, hr w hw]
    exact ⟨rfl, rfl⟩, hk⟩

theorem wpList_taken {P : Program} {ops : Array Oper} {Q : Exit → Act → World → Prop} {a : Act} {w : World} {rest : List Oper} {o : Oper} (hw : Region.wanted o (yielded ops a.tmps) = true)
    (h : ∀ K : Act → World → Prop, (∀ a w, wpList P ops Q rest a w → K a w) → o.wp P a w K Q) : wpList P ops Q (o :: rest) a w :=
  wpList_step fun K hK => by rw [if_pos hw]; exact h K hK

theorem wp_load_of {P : Program} {o : Oper} {a : Act} {w : World} {K : Act → World → Prop} {Q : Exit → Act → World → Prop} (ty : TypeId) (x : Operand) (ho : o.op = .load ty x) (p : Addr) (hx : a.eval x = .pointer (some p)) (v : Value) (hr : (loadVar ty p).run P w = .ok v w)
    (h : K (a.put o.dst v) w) : o.wp P a w K Q := by
  unfold Oper.wp execOp
  simp only [ho, hx, Instr.loadAt, Instr.sureAddr, Sem.run_bind, Sem.run_pure, Result.andThen_ok, hr]
  exact h

theorem wp_load_at {P : Program} {ops : Array Oper} {rest : List Oper} {o : Oper} {a : Act} {w : World} {Q : Exit → Act → World → Prop} (hgd : Region.wanted o (yielded ops a.tmps) = true) (ty : TypeId) (x : Operand) (ho : o.op = .load ty x) (p : Addr) (hx : a.eval x = .pointer (some p)) (v : Value) (hr : (loadVar ty p).run P w = .ok v w)
    (h : wpList P ops Q rest (a.put o.dst v) w) : wpList P ops Q (o :: rest) a w :=
  wpList_taken hgd fun _ hK => wp_load_of ty x ho p hx v hr (hK _ _ h)

/-- A field's cells. -/
def cF (a b : ByteArray) : Array Value := #[.string a, .string b]

/-- Block g is a field. -/
def FAt (W : World) (g : Nat) (a b : ByteArray) : Prop := W.heap[g]? = some (.cells #[.string a, .string b] 36 (0, 0))

theorem FAt.lt {w : World} {g : Nat} {a b : ByteArray} (h : FAt w g a b) : g < w.heap.size := (Array.getElem?_eq_some_iff.1 h).1

theorem FAt.new (w : World) (a b : ByteArray) : FAt (w.alloc (.cells #[.string a, .string b] 36)) w.heap.size a b := heap_alloc_new w _

theorem FAt.past {w : World} {g : Nat} {a b : ByteArray} (h : FAt w g a b) (o : Obj) : FAt (w.alloc o) g a b := (heap_alloc_old w o h.lt).trans h

theorem FAt.row {W : World} {g : Nat} {a b : ByteArray} (h : FAt W g a b) (c d : ByteArray) : FAt (W.setRow g #[.string c, .string d]) g c d := setRow_heap W g _ _ 36 (0, 0) h

theorem FAt.below {w v : World} {B g : Nat} {a b : ByteArray} (h : FAt w g a b) (hB : Below B w v) (hg : g < B) : FAt v g a b := (hB.block g hg).trans h

theorem FAt.later {w v : World} {g : Nat} {a b : ByteArray} (h : FAt w g a b) (hB : Below w.heap.size w v) : FAt v g a b := h.below hB h.lt

theorem FAt.c0 {w : World} {g : Nat} {a b : ByteArray} (h : FAt w g a b) : w.cell? ⟨g, 0, none⟩ = some (.string a) := cell_of_row w g 0 _ 36 (0, 0) h

theorem FAt.c1 {w : World} {g : Nat} {a b : ByteArray} (h : FAt w g a b) : w.cell? ⟨g, 1, none⟩ = some (.string b) := cell_of_row w g 1 _ 36 (0, 0) h

theorem FAt.free {w : World} {g : Nat} {a b : ByteArray} (h : FAt w g a b) (j : Nat) : w.frozen? ⟨g, j, none⟩ = false := Lib.frozen_of_heap h j

theorem size42 : (Tryd.prog.info? 36).map (·.size) = some 2 := by kernel_rfl

theorem agg42 (w : World) : (isAgg 36).run Tryd.prog w = .ok true w := by kernel_rfl

theorem sizeOf42 (w : World) : (sizeOf 36).run Tryd.prog w = .ok 2 w := by kernel_rfl

theorem FAt.load {w : World} {g : Nat} {a b : ByteArray} (h : FAt w g a b) : (loadVar 36 ⟨g, 0, none⟩).run Tryd.prog w = .ok (.agg #[.string a, .string b]) w :=
  run_loadVar_row w g 36 36 _ (0, 0) _ h Tryd.underlying36 rfl size42

theorem wp_store42 {ops : Array Oper} {rest : List Oper} {o : Oper} {a : Act} {w : World} {Q : Exit → Act → World → Prop} (hgd : o.guard = none) (x y : Operand) (ho : o.op = .store 36 x y) (g : Nat) (hx : a.eval x = .pointer (some ⟨g, 0, none⟩))
    (c d : ByteArray) (hy : a.eval y = .agg #[.string c, .string d]) (c0 d0 : ByteArray) (hr : FAt w g c0 d0) (h : wpList Tryd.prog ops Q rest (a.put o.dst undef) (w.setRow g #[.string c, .string d])) : wpList Tryd.prog ops Q (o :: rest) a w :=
  wpList_plain hgd fun _ hK => wp_store_row 36 x y ho g #[.string c, .string d] hx hy 36 _ hr size42 rfl (by simp [Value.oneCell']) (hK _ _ h)

/-- A field as a call's answer. -/
theorem ret_field {fn : Func} {d : Tmp} (h : fn.results = #[.cell d 36]) {tmps : Array Value} {W : World} {g : Nat} {a b : ByteArray} (hp : tmps.getD d undef = .pointer (some ⟨g, 0, none⟩)) (hg : FAt W g a b) :
    (results fn tmps).run Tryd.prog W = .ok (.agg #[.string a, .string b]) W :=
  results_cell_row h tmps W g 36 _ (0, 0) _ hp hg Tryd.underlying36 rfl size42

theorem below_field {B : Nat} {a w : World} (h : Below B a w) {g : Nat} (hp : B ≤ g) (k : Array Value) : Below B a (w.setRow g k) :=
  h.trans ⟨rfl, rfl, rfl, by simp [World.setRow], fun j hj => by simp [World.setRow, Array.getElem?_modify, show g ≠ j by omega]⟩

set_option maxRecDepth 100000 in
set_option maxHeartbeats 1000000 in
theorem own_any (a b : ByteArray) (ha : a.size ≤ 1000000) (hb : b.size ≤ 1000000) (w : World) :
    Calls Tryd.prog 36 #[.string a, .string b] w fun e w' => e = .returned (.agg #[.string a, .string b]) ∧ Below w.heap.size w w' := by
  have h0 := FAt.new w ⟨#[]⟩ ⟨#[]⟩
  have hB0 := (Below.refl w.heap.size w).alloc (Nat.le_refl _) (.cells #[.string ⟨#[]⟩, .string ⟨#[]⟩] 36)
  go_enter Tryd.func36, Tryd.ntmps36
  go_wp2_with fail
  refine (Path.clone_any a (by omega) _).mono ?_
  rintro e w1 ⟨rfl, hB1⟩
  have h1 := h0.later hB1
  have hb1 := Ascii.below2 hB0 hB1
  clear h0 hB0 hB1
  go_wp2_with fail
  refine (Path.clone_any b (by omega) _).mono ?_
  rintro e w2 ⟨rfl, hB2⟩
  have h2 := h1.later hB2
  have hb2 := Ascii.below2 hb1 hB2
  clear h1 hb1 hB2
  go_wp2_with ((with_reducible refine wp_store42 (o := ⟨none, .store 36 (.tmp 4) (.tmp 9), _, _, _, _⟩) ?_ (.tmp 4) (.tmp 9) ?_ w.heap.size ?_ a b ?_ ⟨#[]⟩ ⟨#[]⟩ h2 ?_); (· rfl); (· rfl); (· rfl); (· rfl); simp only [Act.put, List.setIfInBounds_toArray, List.set_cons_zero, List.set_cons_succ])
  exact bodyPost_ret (ret_field Tryd.results36 rfl (h2.row a b)) rfl ⟨rfl, below_field hb2 (Nat.le_refl _) _⟩

/-! ### Fields compared -/

def eqF (f g : F) : Bool := f.1 == g.1 && f.2 == g.2

theorem eqF_iff (f g : F) : eqF f g = true ↔ f = g := by
  obtain ⟨a, b⟩ := f
  obtain ⟨c, d⟩ := g
  simp [eqF]

theorem part0 (a b : ByteArray) (w : World) : (part 9 #[.string a, .string b] 0).run Tryd.prog w = .ok (.string a) w := by
  have ha : (isAgg 9).run Tryd.prog w = .ok false w := by kernel_rfl
  simp [part, Sem.run_bind, ha]

theorem part1 (a b : ByteArray) (w : World) : (part 9 #[.string a, .string b] 1).run Tryd.prog w = .ok (.string b) w := by
  have ha : (isAgg 9).run Tryd.prog w = .ok false w := by kernel_rfl
  simp [part, Sem.run_bind, ha]

set_option maxRecDepth 100000 in
theorem eq42 (a b c d : ByteArray) (w : World) : (Op.equalIn 10000 36 (.agg #[.string a, .string b]) (.agg #[.string c, .string d])).run Tryd.prog w = .ok (a.toList == c.toList && b.toList == d.toList) w := by
  have hf : (Tryd.prog.fieldsOf 36).toList = [{ name := "Name", type := 9, offset := 0, embedded := false, tag := "", pkgPath := "", byteOffset := 0 }, { name := "Value", type := 9, offset := 1, embedded := false, tag := "", pkgPath := "", byteOffset := 16 }] := by
    unfold Program.fieldsOf
    rw [Tryd.underlying36]
  rw [show (10000 : Nat) = 9999 + 1 from rfl, run_equalIn_struct w 9999 36 _ _ (by kernel_rfl) (by kernel_rfl), hf]
  have e1 : ∀ u : World, (Op.equalIn 9999 9 (.string a) (.string c)).run Tryd.prog u = .ok (a.toList == c.toList) u := fun u => run_equalIn_string u 9998 9 _ _ Tryd.underlying9
  have e2 : ∀ u : World, (Op.equalIn 9999 9 (.string b) (.string d)).run Tryd.prog u = .ok (b.toList == d.toList) u := fun u => run_equalIn_string u 9998 9 _ _ Tryd.underlying9
  have n1 : ("Name" : String) ≠ "_" := by decide
  have n2 : ("Value" : String) ≠ "_" := by decide
  generalize (a.toList == c.toList) = b1 at e1 ⊢
  generalize (b.toList == d.toList) = b2 at e2 ⊢
  simp only [Op.eqFields, if_pos n1, if_pos n2, Sem.run_bind, part0, part1, Result.andThen_ok, e1]
  cases b1 <;> cases b2 <;> simp [part0, part1, e2]

/-! ### A slice of fields -/

def tb (l : T) : ByteArray := ⟨l.toArray⟩

theorem tb_of (s : ByteArray) : tb s.data.toList = s := by cases s; simp [tb]

theorem tb_list (l : T) : (tb l).data.toList = l := by simp [tb]

theorem tb_toList (l : T) : (tb l).toList = l := by rw [ByteArray.toList_eq, tb_list]

theorem tb_size (l : T) : (tb l).size = l.length := rfl

/-- The slice v holds the fields l. -/
def Flds (W : World) (v : Value) (l : List F) : Prop :=
  ∃ a c, v = .slice a l.length c ∧ l.length ≤ c ∧ c ≤ maxLen ∧ (a = none → c = 0) ∧
    (l ≠ [] → ∃ b off, a = some ⟨b, off, none⟩ ∧ ∀ j (h : j < l.length), W.cell? ⟨b, off + j * 2, none⟩ = some (.string (tb (l[j]).1)) ∧ W.cell? ⟨b, off + j * 2 + 1, none⟩ = some (.string (tb (l[j]).2)))

theorem Flds.later {W W' : World} {v : Value} {l : List F} (h : Flds W v l) (hB : Below W.heap.size W W') : Flds W' v l := by
  obtain ⟨a, c, rfl, h1, h2, h3, h4⟩ := h
  refine ⟨a, c, rfl, h1, h2, h3, fun hl => ?_⟩
  obtain ⟨b, off, rfl, hc⟩ := h4 hl
  exact ⟨b, off, rfl, fun j hj => ⟨(hB.cell (p := ⟨b, off + j * 2, none⟩) (World.block_lt_of_cell? _ _ (hc j hj).1)).trans (hc j hj).1, (hB.cell (p := ⟨b, off + j * 2 + 1, none⟩) (World.block_lt_of_cell? _ _ (hc j hj).2)).trans (hc j hj).2⟩⟩

theorem Flds.nil (W : World) : Flds W (.slice none 0 0) [] := ⟨none, 0, rfl, Nat.le_refl _, Nat.zero_le _, fun _ => rfl, fun h => absurd rfl h⟩

theorem load42 {W : World} {b off : Nat} {x y : ByteArray} (h0 : W.cell? ⟨b, off, none⟩ = some (.string x)) (h1 : W.cell? ⟨b, off + 1, none⟩ = some (.string y)) : (loadVar 36 ⟨b, off, none⟩).run Tryd.prog W = .ok (.agg #[.string x, .string y]) W := by
  have hl : (loadCells ⟨b, off, none⟩ [Value.string x, .string y].length).run Tryd.prog W = .ok [Value.string x, .string y].toArray W :=
    run_loadCells_list (P := Tryd.prog) W ⟨b, off, none⟩ [Value.string x, .string y] (fun j v hv => by
      match j, hv with
      | 0, hv =>
        have hadd : (⟨b, off, none⟩ : Addr).add 0 = ⟨b, off, none⟩ := by unfold Addr.add; simp
        rw [hadd, h0]; simpa using hv
      | 1, hv =>
        have hadd : (⟨b, off, none⟩ : Addr).add 1 = ⟨b, off + 1, none⟩ := by unfold Addr.add; simp
        rw [hadd, h1]; simpa using hv)
  simp [loadVar, Sem.run_bind, agg42, sizeOf42] at hl ⊢
  simp [hl]

/-- Are there few, and short ones? -/
def fewF (l : List F) : Bool := decide (l.length ≤ 60) && l.all fun f => decide (f.1.length ≤ 300) && decide (f.2.length ≤ 300)

theorem fewF_iff (l : List F) : fewF l = true ↔ l.length ≤ 60 ∧ ∀ f ∈ l, f.1.length ≤ 300 ∧ f.2.length ≤ 300 := by
  unfold fewF
  rw [Bool.and_eq_true, List.all_eq_true, decide_eq_true_iff]
  simp

set_option maxRecDepth 100000 in
set_option maxHeartbeats 1000000 in
theorem few_any (v : Value) (l : List F) (w : World) (h : Flds w v l) :
    Calls Tryd.prog 10 #[v] w fun e w' => e = .returned (.bool (fewF l)) ∧ w = w' := by
  obtain ⟨a, c, rfl, h1, h2, h3, h4⟩ := h
  unfold maxLen at h2
  have hl : l.length ≤ 9223372036854775807 := by omega
  have H3 := Lib.hid h3
  have H4 := Lib.hid h4
  clear h3 h4
  go_enter Tryd.func10, Tryd.ntmps10
  go_wp2
  go_loop [3] (fun i => ∃ k : Nat, k ≤ l.length ∧ k ≤ 61 ∧ i = .int .i64 k ∧ Hid (∀ j (hj : j < l.length), j < k → (l[j]).1.length ≤ 300 ∧ (l[j]).2.length ≤ 300)) (fun i => l.length - (intOf i).toNat)
  case atStart => exact ⟨0, Nat.zero_le _, by omega, rfl, Lib.hid fun j _ h => absurd h (by omega)⟩
  case round =>
    obtain ⟨k, hk, hk61, rfl, HA⟩ := hrel
    by_cases hlt : k < l.length ∧ k ≤ 60
    · obtain ⟨hlt, h60⟩ := hlt
      obtain ⟨b, off, rfl, hcell⟩ := H4.out (by intro e; rw [e] at hlt; simp at hlt)
      have q1 : decide (k < l.length) = true := decide_eq_true hlt
      have q2 : decide ((k : Int) ≤ 60) = true := decide_eq_true (by omega)
      have g := (hcell k hlt).1
      have g' := (hcell k hlt).2
      have hkc : k < c := by omega
      obtain ⟨t, ht⟩ : ∃ t, l[k] = t := ⟨_, rfl⟩
      rw [ht] at g g'
      have HT := Lib.hid ht
      clear hcell ht
      have s1 := tb_size t.1
      have s2 := tb_size t.2
      generalize tb t.1 = X at g s1
      generalize tb t.2 = Y at g' s2
      by_cases h300 : X.size ≤ 300
      · have q3 : decide ((300 : Int) < (X.size : Int)) = false := decide_eq_false (by omega)
        by_cases h300' : Y.size ≤ 300
        · have q4 : decide ((300 : Int) < (Y.size : Int)) = false := decide_eq_false (by omega)
          go_wp2
          go_round
          case rel => exact ⟨k + 1, by omega, by omega, by go_num, Lib.hid fun j hj hlt' => by
            rcases Nat.lt_or_ge j k with h | h
            · exact HA.out j hj h
            · obtain rfl : j = k := by omega
              rw [HT.out]; exact ⟨by omega, by omega⟩⟩
          case measure => simp [intOf]; omega
        · have q4 : decide ((300 : Int) < (Y.size : Int)) = true := decide_eq_true (by omega)
          have HF : Hid (fewF l = false) := Lib.hid (by
            cases e : fewF l
            · rfl
            · exact absurd (((fewF_iff l).1 e).2 t (by rw [← HT.out]; exact List.getElem_mem _)).2 (by omega))
          go_wp2
          go_ret
          exact ⟨by rw [HF.out]; rfl, rfl⟩
      · have q3 : decide ((300 : Int) < (X.size : Int)) = true := decide_eq_true (by omega)
        have HF : Hid (fewF l = false) := Lib.hid (by
          cases e : fewF l
          · rfl
          · exact absurd (((fewF_iff l).1 e).2 t (by rw [← HT.out]; exact List.getElem_mem _)).1 (by omega))
        go_wp2
        go_ret
        exact ⟨by rw [HF.out]; rfl, rfl⟩
    · have hf : fewF l = decide (l.length ≤ 60) := by
        by_cases h60 : l.length ≤ 60
        · rw [decide_eq_true h60, fewF_iff]
          refine ⟨h60, fun t ht => ?_⟩
          obtain ⟨j, hj, rfl⟩ := List.getElem_of_mem ht
          exact HA.out j hj (by omega)
        · unfold fewF
          rw [decide_eq_false h60, Bool.false_and]
      have HF := Lib.hid hf
      clear hf
      rcases Nat.lt_or_ge k l.length with hlt' | hge
      · have q1 : decide (k < l.length) = true := decide_eq_true hlt'
        have q2 : decide ((k : Int) ≤ 60) = false := decide_eq_false (by omega)
        have q3 : decide ((l.length : Int) ≤ 60) = false := decide_eq_false (by omega)
        go_wp2
        go_ret
        exact ⟨by rw [HF.out]; rw [decide_eq_false (by omega)]; rfl, rfl⟩
      · have q1 : decide (k < l.length) = false := decide_eq_false (by omega)
        by_cases h60 : l.length ≤ 60
        · have q3 : decide ((l.length : Int) ≤ 60) = true := decide_eq_true (by omega)
          go_wp2
          go_ret
          exact ⟨by rw [HF.out]; rw [decide_eq_true (by omega)]; rfl, rfl⟩
        · have q3 : decide ((l.length : Int) ≤ 60) = false := decide_eq_false (by omega)
          go_wp2
          go_ret
          exact ⟨by rw [HF.out]; rw [decide_eq_false (by omega)]; rfl, rfl⟩

end Go.Proofs.YtbgebolamkfnlaaDoor.Head

/-
  Show (a builder) and May.
-/
import Derived.Test.YtbofkmaajhfkeaaDoorPaNorm
namespace Go.Proofs.YtbofkmaajhfkeaaDoor.Path
open Go.RowKit Go.Shelf
set_option linter.unusedSimpArgs false
set_option linter.unusedVariables false

theorem show_len (L : List T) (hs : ∀ t ∈ L, t.length ≤ 1000000) : (show1 L).length ≤ L.length * 1000001 := by
  induction L with
  | nil => simp [show1]
  | cons s r ih =>
    have h1 := hs s (by simp)
    have h2 := ih (fun t ht => hs t (by simp [ht]))
    simp [show1]
    omega
theorem show_take (L : List T) (k : Nat) (h : k < L.length) : show1 (L.take (k + 1)) = show1 (L.take k) ++ 47 :: L[k] := by
  rw [List.take_succ_eq_append_getElem h, show_snoc]

set_option maxRecDepth 100000 in
set_option maxHeartbeats 2000000 in
theorem show_any (v : Value) (L : List T) (hL : L.length ≤ 100000) (hs : ∀ t ∈ L, t.length ≤ 1000000) (w : World) (h : Strs w v L) :
    Calls Tryd.prog 13 #[v] w fun e w' => e = .returned (.string ⟨(show1 L).toArray⟩) ∧ Below w.heap.size w w' := by
  obtain ⟨a, c, rfl, h1, h2, h3, h4⟩ := h
  unfold maxLen at h2
  have H4 := Lib.hid h4
  clear h3 h4
  go_enter Tryd.func13, Tryd.ntmps13
  go_wp2
  go_loopw [8] (fun i wr => ∃ k : Nat, k ≤ L.length ∧ i = .int .i64 k ∧ Lib.IsBuilder 40 5 w.heap.size w.heap.size (Lib.byteCells (show1 (L.take k))) wr ∧ Below w.heap.size w wr) (fun i _ => L.length - (intOf i).toNat)
  case atStart => exact ⟨0, Nat.zero_le _, rfl, .inl ⟨Nat.le_refl _, .slice none 0 0, World.alloc_heap_new w _, ⟨rfl, .inl ⟨rfl, rfl⟩⟩, by simp [Value.ownBlock]⟩, (Below.refl _ _).alloc (Nat.le_refl _) _⟩
  case round =>
    obtain ⟨k, hk, rfl, hb, hB⟩ := hrel
    by_cases hlt : k < L.length
    · obtain ⟨b, off, rfl, hcell⟩ := H4.out (by intro e; rw [e] at hlt; simp at hlt)
      have g : wr.cell? ⟨b, off + k, none⟩ = some (.string ⟨(L[k]).toArray⟩) := (hB.cell (p := ⟨b, off + k, none⟩) (World.block_lt_of_cell? _ _ (hcell k hlt))).trans (hcell k hlt)
      have hkc : k < c := by omega
      have hts := hs _ (List.getElem_mem hlt)
      have hnext := Lib.hid (show_take L k hlt)
      have hlen : (show1 (L.take k)).length ≤ 200000000000 := by
        have := show_len (L.take k) (fun t ht => hs t (List.mem_of_mem_take ht))
        have h5 : (L.take k).length ≤ 100000 := by rw [List.length_take]; omega
        omega
      obtain ⟨t, ht⟩ : ∃ t, L[k] = t := ⟨_, rfl⟩
      rw [ht] at g hts hnext
      clear hcell ht
      have hBs := hB.size
      generalize show1 (L.take k) = so at hb hnext hlen
      go_wp2_with fail
      refine (write_any w.heap.size w.heap.size (Lib.byteCells so) ⟨#[47]⟩ wr hb (by rw [Lib.byteCells_length, show (⟨#[47]⟩ : ByteArray).size = 1 from rfl]; omega) hBs).mono ?_
      rintro e w1 ⟨rfl, hb1, hB1⟩
      have hs1 := hB1.size
      go_wp2_with fail
      refine (write_any w.heap.size w.heap.size _ ⟨t.toArray⟩ w1 (.inr hb1) (by rw [List.length_append, Lib.byteCells_length]; show so.length + 1 + t.length ≤ _; omega) (by omega)).mono ?_
      rintro e w2 ⟨rfl, hb2, hB2⟩
      go_wp2
      go_roundw
      case rel => exact ⟨k + 1, by omega, by go_num, by
        rw [hnext.out, show Lib.byteCells (so ++ 47 :: t) = Lib.byteCells so ++ Lib.strCells ⟨#[47]⟩ ++ Lib.strCells ⟨t.toArray⟩ by simp [Lib.byteCells, Lib.strCells]]
        exact .inr hb2, (hB.trans hB1).trans hB2⟩
      case measure => simp [intOf]; omega
    · obtain rfl : k = L.length := by omega
      rw [List.take_of_length_le (Nat.le_refl _)] at hb
      go_wp2_with fail
      refine (Tryd.Builder_String_any w.heap.size w.heap.size (show1 L) wr hb hB.size).mono ?_
      rintro e w1 ⟨rfl, hB1⟩
      go_wp2
      go_ret
      exact ⟨rfl, hB.trans hB1⟩

set_option maxRecDepth 100000 in
set_option maxHeartbeats 2000000 in
theorem may_any (v : Value) (L : List T) (hL : L.length ≤ 100000) (hs : ∀ t ∈ L, t.length ≤ 1000000) (m : Int) (w : World) (hm : MaxAt m w) (h : Strs w v L) :
    Calls Tryd.prog 14 #[v] w fun e w' => e = .returned (.bool (mayP L)) ∧ Below w.heap.size w w' := by
  obtain ⟨a, c, rfl, h1, h2, h3, h4⟩ := h
  unfold maxLen at h2
  have H4 := Lib.hid h4
  clear h3 h4
  go_enter Tryd.func14, Tryd.ntmps14
  go_wp2
  go_loopw [7] (fun i wr => ∃ k : Nat, k ≤ L.length ∧ i = .int .i64 k ∧ (∀ j (hj : j < L.length), j < k → okT L[j] = true) ∧ Below w.heap.size w wr) (fun i _ => L.length - (intOf i).toNat)
  case atStart => exact ⟨0, Nat.zero_le _, rfl, fun _ _ h => absurd h (by omega), Below.refl _ _⟩
  case round =>
    obtain ⟨k, hk, rfl, hall, hB⟩ := hrel
    have HA := Lib.hid hall
    clear hall
    by_cases hlt : k < L.length
    · obtain ⟨b, off, rfl, hcell⟩ := H4.out (by intro e; rw [e] at hlt; simp at hlt)
      have g : wr.cell? ⟨b, off + k, none⟩ = some (.string ⟨(L[k]).toArray⟩) := (hB.cell (p := ⟨b, off + k, none⟩) (World.block_lt_of_cell? _ _ (hcell k hlt))).trans (hcell k hlt)
      have hkc : k < c := by omega
      have hts := hs _ (List.getElem_mem hlt)
      have hno : okT L[k] = false → mayP L = false := fun e => by
        cases e' : mayP L
        · rfl
        · have := ((mayP_iff L).1 e').1 _ (List.getElem_mem hlt)
          rw [e] at this; cases this
      have hyes : okT L[k] = true → ∀ j (hj : j < L.length), j < k + 1 → okT L[j] = true := fun e j hj hjk => by
        rcases Nat.lt_or_ge j k with h | h
        · exact HA.out j hj h
        · obtain rfl : j = k := by omega
          exact e
      have HNO := Lib.hid hno
      have HYES := Lib.hid hyes
      obtain ⟨t, ht⟩ : ∃ t, L[k] = t := ⟨_, rfl⟩
      rw [ht] at g hts HNO HYES
      clear hcell ht hno hyes
      have hmr := hm.later hB
      cases hr : Pct.readyB 3 t
      · have hr' := Lib.hid hr
        have hf : okT t = false := by unfold okT; rw [hr]; rfl
        have HF := Lib.hid (HNO.out hf)
        clear hr hf
        go_wp2_with fail
        refine (Pct.ready_at ⟨t.toArray⟩ (by rw [size_tx]; unfold maxLen; omega) 3 false hr'.out hB).mono ?_
        rintro e w1 ⟨rfl, hB1⟩
        go_wp2
        go_ret
        exact ⟨by rw [HF.out]; rfl, hB1⟩
      · have hr' := Lib.hid hr
        have hcon : decide (0 ≤ Lib.indexByte t 47) = t.contains 47 := Pct.idx_mem t 47
        cases hc : t.contains 47
        · rw [hc] at hcon
          cases hd : decide (dotsN t = 0)
          · have hd' := Lib.hid (of_decide_eq_false hd)
            have hf : okT t = false := by
              cases e : okT t
              · rfl
              · exact absurd ((okT_iff t).1 e).2.2 (of_decide_eq_false hd)
            have HF := Lib.hid (HNO.out hf)
            have q1 : (((dotsN t : Nat) : Int) != 0) = true := by
              have := of_decide_eq_false hd
              simp
              omega
            have HC := Lib.hid hcon
            clear hr hf hd hc hcon
            go_wp2_with fail
            refine (Pct.ready_at ⟨t.toArray⟩ (by rw [size_tx]; unfold maxLen; omega) 3 true hr'.out hB).mono ?_
            rintro e w1 ⟨rfl, hB1⟩
            go_wp2_with fail
            refine (Tryd.strings_Contains_one ⟨t.toArray⟩ 47 w1).mono ?_
            rintro e w1' ⟨rfl, rfl⟩
            rw [show (⟨t.toArray⟩ : ByteArray).data.toList = t from rfl, HC.out]
            go_wp2_with fail
            refine (dots_any ⟨t.toArray⟩ hts m _ (hm.later hB1)).mono ?_
            rintro e w2 ⟨rfl, hB2⟩
            rw [show (⟨t.toArray⟩ : ByteArray).data.toList = t from rfl]
            go_wp2
            go_ret
            exact ⟨by rw [HF.out]; rfl, hB1.trans (hB2.mono hB1.size)⟩
          · have hd' := of_decide_eq_true hd
            have ho : okT t = true := (okT_iff t).2 ⟨hr, by simpa using hc, hd'⟩
            have HO := Lib.hid (HYES.out ho)
            have HD := dots_at t hts 0 (by rw [hd']; rfl) m
            have HC := Lib.hid hcon
            clear hr ho hd hd' hc hcon
            go_wp2_with fail
            refine (Pct.ready_at ⟨t.toArray⟩ (by rw [size_tx]; unfold maxLen; omega) 3 true hr'.out hB).mono ?_
            rintro e w1 ⟨rfl, hB1⟩
            go_wp2_with fail
            refine (Tryd.strings_Contains_one ⟨t.toArray⟩ 47 w1).mono ?_
            rintro e w1' ⟨rfl, rfl⟩
            rw [show (⟨t.toArray⟩ : ByteArray).data.toList = t from rfl, HC.out]
            go_wp2_with fail
            refine (HD _ (hm.later hB1)).mono ?_
            rintro e w2 ⟨rfl, hB2⟩
            go_wp2
            go_roundw
            case rel => exact ⟨k + 1, by omega, by go_num, HO.out, hB1.trans (hB2.mono hB1.size)⟩
            case measure => simp [intOf]; omega
        · rw [hc] at hcon
          have hf : okT t = false := by
            cases e : okT t
            · rfl
            · have := ((okT_iff t).1 e).2.1
              simp at hc
              exact absurd hc this
          have HF := Lib.hid (HNO.out hf)
          have HC := Lib.hid hcon
          clear hr hf hc hcon
          go_wp2_with fail
          refine (Pct.ready_at ⟨t.toArray⟩ (by rw [size_tx]; unfold maxLen; omega) 3 true hr'.out hB).mono ?_
          rintro e w1 ⟨rfl, hB1⟩
          go_wp2_with fail
          refine (Tryd.strings_Contains_one ⟨t.toArray⟩ 47 w1).mono ?_
          rintro e w1' ⟨rfl, rfl⟩
          rw [show (⟨t.toArray⟩ : ByteArray).data.toList = t from rfl, HC.out]
          go_wp2
          go_ret
          exact ⟨by rw [HF.out]; rfl, hB1⟩
    · obtain rfl : k = L.length := by omega
      have hf : mayP L = decide (0 < L.length) := by
        rw [Bool.eq_iff_iff, mayP_iff, decide_eq_true_iff]
        constructor
        · rintro ⟨_, h⟩; exact List.length_pos_iff.2 h
        · intro h
          refine ⟨fun t ht => ?_, List.length_pos_iff.1 h⟩
          obtain ⟨j, hj, rfl⟩ := List.getElem_of_mem ht
          exact HA.out j hj hj
      have HF := Lib.hid hf
      clear hf
      go_wp2
      go_ret
      exact ⟨by rw [HF.out]; rfl, hB⟩

/-! ### How long what is shown is -/
theorem show_append (a b : List T) : show1 (a ++ b) = show1 a ++ show1 b := by
  induction a with
  | nil => rfl
  | cons s r ih => rw [List.cons_append, show1, ih, show1]; simp
theorem show_drop (a : List T) : (show1 a.dropLast).length ≤ (show1 a).length := by
  rcases List.eq_nil_or_concat a with rfl | ⟨r, x, rfl⟩
  · simp
  · rw [List.concat_eq_append, List.dropLast_concat, show_append]; simp
theorem step_show (out : List T) (last : Bool) (s : T) : (show1 (step out last s)).length ≤ (show1 out).length + 1 + s.length := by
  have h1 := show_drop out
  have h2 : show1 [[]] = [47] := rfl
  unfold step
  split
  · rw [show_append]; simp [show1]; omega
  · split
    · split
      · rw [show_append, h2, List.length_append, List.length_singleton]; omega
      · omega
    · split
      · rw [show_append, h2, List.length_append, List.length_singleton]; omega
      · omega
theorem norm_show (out L : List T) : (show1 (norm out L)).length ≤ (show1 out).length + (show1 L).length := by
  induction L generalizing out with
  | nil => rw [norm_nil]; omega
  | cons s r ih =>
    by_cases hr : r = []
    · subst hr
      rw [norm_one]
      have := step_show out true s
      simp [show1]
      omega
    · rw [norm_cons out s r hr]
      have h1 := ih (step out false s)
      have h2 := step_show out false s
      simp [show1]
      omega
theorem split_show_len (l : T) : (show1 (split l)).length = l.length + 1 := by
  induction l with
  | nil => rfl
  | cons c r ih =>
    unfold split
    split
    · rw [show1]; simp [ih]
    · split
      · rename_i e; exact absurd e (split_ne r)
      · rename_i h t e
        rw [e] at ih
        simp [show1] at ih ⊢
        omega
theorem parse_show_len (s : T) : (show1 (parse s)).length ≤ 3 * s.length + 1 := by
  have h1 := norm_show [] (segs s)
  have h2 := split_show_len (enc (strip s))
  have h3 : (enc (strip s)).length ≤ 3 * (strip s).length := Pct.encode_len 3 _
  have h4 := strip_len s
  have h5 : show1 [] = [] := rfl
  unfold parse
  rw [h5] at h1
  unfold segs at h1 ⊢
  simp at h1
  omega
theorem show_each (L : List T) : ∀ t ∈ L, t.length ≤ (show1 L).length := by
  induction L with
  | nil => simp
  | cons s r ih =>
    intro t ht
    rcases List.mem_cons.1 ht with rfl | ht
    · simp [show1]; omega
    · have := ih t ht; simp [show1]; omega
theorem show_count (L : List T) : L.length ≤ (show1 L).length := by
  induction L with
  | nil => simp
  | cons s r ih => simp [show1]; omega
theorem few_show (L : List T) (h : fewB L = true) : (show1 L).length ≤ 18060 := by
  obtain ⟨h1, h2⟩ := (few_iff L).1 h
  have key : ∀ L : List T, (∀ t ∈ L, t.length ≤ 300) → (show1 L).length ≤ L.length * 301 := by
    intro L hL
    induction L with
    | nil => simp [show1]
    | cons s r ih =>
      have h1 := hL s (by simp)
      have h2 := ih (fun t ht => hL t (by simp [ht]))
      simp [show1]
      omega
  have := key L h2
  omega

end Go.Proofs.YtbofkmaajhfkeaaDoor.Path

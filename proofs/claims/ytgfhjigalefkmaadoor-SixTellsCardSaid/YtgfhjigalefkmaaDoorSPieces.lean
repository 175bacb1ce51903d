/-
  pieces(s).
-/
import Derived.Test.YtgfhjigalefkmaaDoorSPiece
namespace Go.Proofs.YtgfhjigalefkmaaDoor.Six
open Go.RowKit
set_option linter.unusedSimpArgs false
set_option linter.unusedVariables false
theorem data_ne (s : ByteArray) (h : 0 < s.size) : s.data.toList ≠ [] := by
  intro e
  have : s.data.toList.length = s.size := rfl
  rw [e] at this
  simp at this
  omega
theorem empty_no (s : ByteArray) (h : 0 < s.size) : s.toList.isEmpty = false := by
  rw [ByteArray.toList_eq]
  cases e : s.data.toList with
  | nil => exact absurd e (data_ne s h)
  | cons c r => rfl
theorem empty_yes (s : ByteArray) (h : s.size = 0) : s.data.toList = [] := by
  have : s.data.toList.length = s.size := rfl
  rw [h] at this
  exact List.length_eq_zero_iff.1 this
def cutB (s : ByteArray) : List ByteArray := Lib.splitB ⟨#[58]⟩ 0 (min 9 (s.size + 1) - 1) s
theorem cutB_data (s : ByteArray) : (cutB s).map (·.data.toList) = cut9 s.data.toList := Lib.splitB_data _ _ _ _
theorem split_at (s : ByteArray) (hs : s.size ≤ 1000000) (m : Int) (w : World) (hm : At m w) :
    Calls Tryd.prog 27 #[.string s, .string ⟨#[58]⟩, .int .i64 9] w fun e w' => e = .returned (.slice (some ⟨w.heap.size, 0, none⟩) (cutB s).length (min 9 (s.size + 1))) ∧ w.alloc (.cells (Lib.cellsOf (cutB s) (min 9 (s.size + 1))) 9) = w' :=
  (Tryd.strings_SplitN s ⟨#[58]⟩ 9 m w (by omega) hm.max (by decide) (by decide) (by decide)).mono fun e w' h => ⟨h.1, h.2.symm⟩
theorem cells_at (l : List ByteArray) (N : Nat) (j : Nat) (h : j < l.length) : (Lib.cellsOf l N)[j]? = some (.string l[j]) := by
  unfold Lib.cellsOf
  rw [List.getElem?_toArray, List.getElem?_append_left (by simpa using h), List.getElem?_map, List.getElem?_eq_getElem h]
  rfl
theorem split_le (k : Nat) (l p : List UInt8) (h : p ∈ Lib.splitK [58] 0 k l) : p.length ≤ l.length := by
  induction k generalizing l with
  | zero => simp [Lib.splitK] at h; rw [h]; exact Nat.le_refl _
  | succ k ih =>
    rcases first_colon l with hn | ⟨a, r, rfl, hn⟩
    · rw [split_none _ _ hn] at h
      simp at h
      rw [h]; exact Nat.le_refl _
    · rw [split_colon _ _ _ hn, List.mem_cons] at h
      simp
      rcases h with rfl | h
      · omega
      · have := ih r h; omega
theorem cutB_le (s p : ByteArray) (h : p ∈ cutB s) : p.size ≤ s.size := by
  have : p.data.toList ∈ cut9 s.data.toList := by rw [← cutB_data]; exact List.mem_map_of_mem h
  exact split_le _ _ _ this
theorem cut_len (k : Nat) (l : List UInt8) : (Lib.splitK [58] 0 k l).length ≤ k + 1 := by
  induction k generalizing l with
  | zero => simp [Lib.splitK]
  | succ k ih =>
    rcases first_colon l with hn | ⟨a, r, rfl, hn⟩
    · rw [split_none _ _ hn]; simp
    · rw [split_colon _ _ _ hn, List.length_cons]
      have := ih r
      omega
theorem cutB_len (s : ByteArray) : (cutB s).length ≤ 9 := by
  have h1 : (cutB s).length = (cut9 s.data.toList).length := by rw [← cutB_data, List.length_map]
  have h2 := cut_len (min 9 (s.data.toList.length + 1) - 1) s.data.toList
  unfold cut9 at h1
  omega
theorem alloc_len (w : World) (C : Array Value) (t : TypeId) : w.heap.size + 1 = (w.alloc (.cells C t)).heap.size := by simp
theorem cell_one_new3 (w : World) (x : Value) : ∀ j u, [x][j]? = some u → (w.alloc (.cells #[x] 3)).cell? ((⟨w.heap.size, 0, none⟩ : Addr).add j) = some u := by
  intro j u hj
  have e : (⟨w.heap.size, 0, none⟩ : Addr).add j = ⟨w.heap.size, j, none⟩ := by unfold Addr.add; split <;> simp_all
  rw [e, World.cell?_alloc_at _ _ _ _ rfl]
  simpa using hj
def PiecesPost (w : World) (l : List Nat) (b : Bool) (e : Ending) (W' : World) : Prop := ∃ v, e = .returned (.tuple #[v, .bool b]) ∧ Ints W' v l ∧ Below w.heap.size w W'

set_option maxRecDepth 100000 in
set_option maxHeartbeats 4000000 in
theorem pieces_in (s : ByteArray) (h0 : 0 < s.size) (hs : s.size ≤ 1000000) (m : Int) (w : World) (hm : At m w) : Calls Tryd.prog 19 #[.string s] w (PiecesPost w (valK s.data.toList) (okK s.data.toList)) := by
  obtain ⟨i0, hi, hz0, hz1, hz2⟩ := info_parts Tryd.infoInt
  have hsp := split_at s hs m w hm
  have hcells : ∀ j (h : j < (cutB s).length), (w.alloc (.cells (Lib.cellsOf (cutB s) (min 9 (s.size + 1))) 9)).cell? ⟨w.heap.size, j, none⟩ = some (.string (cutB s)[j]) := fun j h => by
    rw [World.cell?_alloc_at _ _ _ _ rfl]
    exact cells_at _ _ _ h
  have HCut := Lib.hid (okK_cut s.data.toList (data_ne s h0))
  have HData := Lib.hid (cutB_data s)
  have HLe := Lib.hid (fun (p : ByteArray) (h : p ∈ cutB s) => Nat.le_trans (cutB_le s p h) hs)
  have HLen := Lib.hid (cutB_len s)
  have HV := Lib.hid (show valK s.data.toList = if okK s.data.toList then valL s.data.toList else [] from rfl)
  have b0 := empty_no s h0
  have hB0 : Below w.heap.size w (w.alloc (.cells (Lib.cellsOf (cutB s) (min 9 (s.size + 1))) 9)) := (Below.refl _ w).alloc (Nat.le_refl _) _
  have hsz := alloc_len w (Lib.cellsOf (cutB s) (min 9 (s.size + 1))) 9
  generalize valL s.data.toList = vl at HCut HV
  generalize okK s.data.toList = ok at HCut HV ⊢
  generalize valK s.data.toList = vk at HV ⊢
  generalize cut9 s.data.toList = ct at HCut HData
  generalize (min 9 (s.size + 1)) = N at hsp hcells hB0 hsz
  generalize w.alloc (.cells (Lib.cellsOf (cutB s) N) 9) = W at hsp hcells hB0 hsz
  generalize cutB s = cs at hsp hcells HData HLe HLen
  obtain ⟨n, hn⟩ : ∃ n, cs.length = n := ⟨_, rfl⟩
  rw [hn] at hsp HLen
  have HN := Lib.hid hn
  have HCells := Lib.hid hcells
  have HSz := Lib.hid hsz
  have HB0 := Lib.hid hB0
  clear hm hs h0 hn hcells hsz hB0
  go_enter Tryd.func19, Tryd.ntmps19
  go_wp2_with (go_at_call 27; refine hsp.mono ?_; rintro e w' ⟨rfl, rfl⟩)
  clear hsp b0
  go_loopw [4, 6, 7, 8, 14] (fun v _ _ _ i wr => ∃ (k : Nat) (l : List Nat), k ≤ n ∧ i = .int .i64 k ∧ l.length = k ∧ wr.ownsRow W.heap.size 3 1 v l.length (l.map iv) ∧ Hid (l = (ct.take k).map valN ∧ (ct.take k).all okP = true) ∧ Below W.heap.size W wr) (fun _ _ _ _ i _ => n - (intOf i).toNat)
  case atStart => exact ⟨0, [], Nat.zero_le _, rfl, rfl, World.ownsRow_nil _ _ _ _, Lib.hid ⟨rfl, rfl⟩, Below.refl _ _⟩
  case round =>
    obtain ⟨k, l, hk, rfl, hl, hrow, HI, hw⟩ := hrel
    by_cases hlt : k < n
    · have t1 : (k : Int) < (n : Int) := by omega
      have hkc : k < cs.length := by have := HN.out; omega
      have hcell := (hw.cell (p := ⟨w.heap.size, k, none⟩) (by have := HSz.out; show w.heap.size < W.heap.size; omega)).trans (HCells.out k hkc)
      have hkt : k < ct.length := by rw [← HData.out, List.length_map]; exact hkc
      obtain ⟨p, hp⟩ : ∃ p, cs[k] = p := ⟨_, rfl⟩
      have HCt := Lib.hid (show ct[k] = p.data.toList by simp only [← HData.out, List.getElem_map, hp])
      have HTk := Lib.hid (List.take_succ_eq_append_getElem hkt)
      have HMem := Lib.hid (List.getElem_mem hkt)
      have hpc := piece_any p (HLe.out p (by rw [← hp]; exact List.getElem_mem hkc)) wr
      rw [hp] at hcell
      cases hok : okP p.data.toList
      · rw [hok] at hpc
        have HNo := Lib.hid (show ok = false ∧ vk = [] by
          have e1 : ok = false := by
            rw [HCut.out.1, List.all_eq_false]
            exact ⟨ct[k], HMem.out, by rw [HCt.out, hok]; simp⟩
          exact ⟨e1, by rw [HV.out, e1]; rfl⟩)
        clear hok hp HCt HTk HMem hkc hkt
        go_wp2_with (go_at_call 28; refine hpc.mono ?_; rintro e w' ⟨rfl, rfl⟩)
        go_ret2
        obtain ⟨rfl, rfl⟩ := HNo.out
        exact ⟨_, rfl, .inl ⟨rfl, rfl⟩, HB0.out.trans (hw.mono (by have := HSz.out; omega))⟩
      · rw [hok] at hpc
        have hvb := okP_val _ hok
        have HNext := Lib.hid (show l ++ [valN p.data.toList] = (ct.take (k + 1)).map valN ∧ (ct.take (k + 1)).all okP = true by
          rw [HTk.out, List.map_append, List.all_append, HI.out.2, ← HI.out.1, HCt.out]
          simp [hok])
        obtain ⟨x, hx⟩ : ∃ x, valN p.data.toList = x := ⟨_, rfl⟩
        rw [hx] at HNext hpc hvb
        have hb2 : l.length + 1 ≤ maxLen := by have := HLen.out; unfold maxLen; omega
        have hb3 : (l.length + 1) * 8 ≤ 140737488355328 := by have := HLen.out; omega
        have hsz := hw.size
        have hsz1 : W.heap.size ≤ (wr.alloc (.cells #[.int .i64 (x : Int)] 3)).heap.size := by simp; omega
        have hone : ∀ u ∈ [Value.int .i64 (x : Int)], u.oneCell' = true := by simp [Value.oneCell']
        have HO := Lib.hid hone
        clear hok hp HCt HTk HMem hkc hkt hx hone
        go_wp2_with (first | (go_at_call 28; refine hpc.mono ?_; rintro e w' ⟨rfl, rfl⟩) | (at_builtin; refine wpList_append_own _ rfl _ _ 38 rfl W.heap.size 3 i0 (.int .i64 0) 1 8 Tryd.underlying38 hi hz0 hz1 hz2 rfl (by decide) _ _ _ rfl (hrow.alloc _) ⟨wr.heap.size, 0, none⟩ 1 1 [.int .i64 (x : Int)] rfl rfl (cell_one_new3 _ _) HO.out hb2 hb3 hsz1 ?_; intro v' w2 hown' hgrow _))
        go_roundw
        case rel => exact ⟨k + 1, l ++ [x], by omega, by go_num, by simp; exact hl, by simpa [iv] using hown', HNext, (hw.alloc hw.size _).trans (grown_below3 (hrow.alloc _) hsz1 hgrow)⟩
        case measure => simp [intOf]; omega
    · obtain rfl : k = n := by omega
      have HDone := Lib.hid (show ok = true ∧ vk = l by
        have ht : ct.take l.length = ct := List.take_of_length_le (by rw [← HData.out, List.length_map, HN.out]; omega)
        have h1 := HI.out
        rw [← hl, ht] at h1
        have e1 : ok = true := by rw [HCut.out.1, h1.2]
        exact ⟨e1, by rw [HV.out, e1, HCut.out.2 e1, h1.1]; rfl⟩)
      have hints := Lib.hid (ints_owned hrow)
      clear hrow
      go_wp2
      go_ret2
      obtain ⟨rfl, rfl⟩ := HDone.out
      exact ⟨_, rfl, hints.out, HB0.out.trans (hw.mono (by have := HSz.out; omega))⟩

set_option maxRecDepth 100000 in
set_option maxHeartbeats 1000000 in
theorem pieces_any (s : ByteArray) (hs : s.size ≤ 1000000) (m : Int) (w : World) (hm : At m w) : Calls Tryd.prog 19 #[.string s] w (PiecesPost w (valK s.data.toList) (okK s.data.toList)) := by
  by_cases h0 : s.size = 0
  · have e := empty_yes s h0
    rw [e]
    have b0 : s.toList.isEmpty = true := by rw [ByteArray.toList_eq, e]; rfl
    clear h0 e hm
    go_enter Tryd.func19, Tryd.ntmps19
    go_wp2
    go_ret2
    exact ⟨_, rfl, .inl ⟨rfl, rfl⟩, Below.refl _ _⟩
  · exact pieces_in s (by omega) hs m w hm
theorem par_K (l : List UInt8) : parB l = (okK (cutL l).1 && (okK (cutL l).2.1 && fitB ((valK (cutL l).1).length + (valK (cutL l).2.1).length) (cutL l).2.2)) := by
  unfold parB
  generalize (cutL l).1 = a
  generalize (cutL l).2.1 = b
  generalize (cutL l).2.2 = sh
  have key : ∀ n : Nat, 9 < n → fitB n sh = false := by
    intro n hn
    unfold fitB
    cases sh
    · simp; omega
    · simp; omega
  cases ha : okK a
  · cases hla : okL a
    · rfl
    · have : 9 < (valL a).length := by unfold okK at ha; rw [hla] at ha; simp at ha; omega
      rw [key _ (by omega)]
      simp
  · have ea : valK a = valL a := by unfold valK; rw [ha]; rfl
    have oa : okL a = true := by unfold okK at ha; rw [Bool.and_eq_true] at ha; exact ha.1
    cases hb : okK b
    · cases hlb : okL b
      · simp
      · have : 9 < (valL b).length := by unfold okK at hb; rw [hlb] at hb; simp at hb; omega
        rw [key _ (by omega)]
        simp
    · have eb : valK b = valL b := by unfold valK; rw [hb]; rfl
      have ob : okL b = true := by unfold okK at hb; rw [Bool.and_eq_true] at hb; exact hb.1
      rw [ea, eb, oa, ob]
theorem arr_toList (p : List Int) : (arr p).toList = p.map (Value.int .i64) := by simp [arr]
theorem size3 : (Tryd.prog.info? 3).map (·.size) = some 1 := by kernel_rfl
/-- copy onto an array's cells. -/
theorem copy_ints {W : World} {g : Nat} {p : List Int} (h8 : p.length = 8) (hr : RowAt W g p) {v : Value} {l : List Nat} (hi : Ints W v l) (o dl dc : Nat) (hdl : l.length ≤ dl) (hfit : o + l.length ≤ 8) :
    ∃ W', (∀ ty, (Builtin.copy_ #[38, 38] ty #[.slice (some ⟨g, o, none⟩) dl dc, v]).run Tryd.prog W = .ok (goInt l.length) W') ∧ RowAt W' g (p.take o ++ ints l ++ p.drop (o + l.length)) ∧ Below g W W' := by
  rcases hi with ⟨rfl, rfl⟩ | ⟨b, cap, rfl, hb, hc, hcell⟩
  · refine ⟨W, fun ty => run_copy_nil Tryd.prog W 38 38 ty 3 _ _ _ Tryd.underlying38 (by kernel_rfl), ?_, Below.refl _ _⟩
    simpa [ints] using hr
  · have hn : (l.map iv).length = Nat.min l.length dl := by rw [List.length_map]; exact (Nat.min_eq_left hdl).symm
    refine ⟨W.setRow g ((arr p).toList.take o ++ l.map iv ++ (arr p).toList.drop (o + l.length)).toArray, fun ty => ?_, ?_, ?_⟩
    · have := run_copy_row (P := Tryd.prog) W 38 38 ty 3 g o dl dc ⟨b, 0, none⟩ l.length cap (arr p) 22 (l.map iv) Tryd.underlying38 size3 hr hn (fun j u hj => by
        have e : (⟨b, 0, none⟩ : Addr).add j = ⟨b, j, none⟩ := by unfold Addr.add; split <;> simp_all
        rw [List.getElem?_map] at hj
        obtain ⟨y, hy, rfl⟩ := Option.map_eq_some_iff.1 hj
        obtain ⟨h1, h2⟩ := List.getElem?_eq_some_iff.1 hy
        rw [e, hcell j h1, h2]
        rfl) (by rw [List.length_map, arr_size, h8]; exact hfit) (by intro u hu; simp [iv] at hu; obtain ⟨y, _, rfl⟩ := hu; rfl)
      rw [List.length_map] at this
      exact this
    · have := hr.row (p.take o ++ ints l ++ p.drop (o + l.length))
      have e : ((arr p).toList.take o ++ l.map iv ++ (arr p).toList.drop (o + l.length)).toArray = arr (p.take o ++ ints l ++ p.drop (o + l.length)) := by
        rw [arr_toList]
        unfold arr ints
        congr 1
        simp only [List.map_append, List.map_take, List.map_drop, List.map_map]
        rfl
      rw [e]
      exact this
    · exact below_setRow (Below.refl _ _) (Nat.le_refl _) _
theorem ints_len (l : List Nat) : (ints l).length = l.length := by simp [ints]
theorem ints_append (a b : List Nat) : ints (a ++ b) = ints a ++ ints b := by simp [ints]
theorem fill_copy (a b : List Nat) (h : a.length + b.length ≤ 8) (q : Nat) (hq : q + b.length = 8) :
    ((zero8.take 0 ++ ints a ++ zero8.drop (0 + a.length)).take q ++ ints b ++ (zero8.take 0 ++ ints a ++ zero8.drop (0 + a.length)).drop (q + b.length)) = ints (fill a b) := by
  have hz : zero8 = List.replicate 8 0 := rfl
  have e1 : zero8.take 0 ++ ints a ++ zero8.drop (0 + a.length) = ints a ++ List.replicate (8 - a.length) 0 := by
    rw [hz, List.take_zero, List.nil_append, Nat.zero_add, List.drop_replicate]
  have hl : (ints a ++ List.replicate (8 - a.length) (0 : Int)).length = 8 := by simp [ints]; omega
  rw [e1, hq, List.drop_eq_nil_of_le (by omega), List.append_nil, List.take_append, List.take_of_length_le (by rw [ints_len]; omega), ints_len, List.take_replicate]
  unfold fill
  rw [ints_append, ints_append, ← List.append_assoc]
  have e2 : ints (List.replicate (8 - a.length - b.length) 0) = List.replicate (8 - a.length - b.length) 0 := by simp [ints]
  rw [e2, show min (q - a.length) (8 - a.length) = 8 - a.length - b.length by omega]
end Go.Proofs.YtgfhjigalefkmaaDoor.Six

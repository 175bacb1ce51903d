/-
  join(list), Show(p).
-/
import Derived.Test.YtgfhjigalefkmaaDoorSMay
import Derived.Test.YtgfhjigalefkmaaDoorSRun
import Derived.Test.YtgfhjigalefkmaaDoorSConv
namespace Go.Proofs.YtgfhjigalefkmaaDoor.Six
open Go.RowKit
set_option linter.unusedSimpArgs false
set_option linter.unusedVariables false

/-- What the calls read of the listed variables: internal/bytealg.MaxLen holds an int, math/bits.deBruijn64tab 4 at place 15. -/
structure At (m : Int) (w : World) : Prop where
  max : w.cell? ⟨0, 0, none⟩ = some (.int .i64 m)
  tab : w.cell? ⟨5, 15, none⟩ = some (.int .u8 4)
theorem At.later {m : Int} {w u : World} (h : At m w) (hB : Below w.heap.size w u) : At m u :=
  ⟨(hB.cell (p := ⟨0, 0, none⟩) (World.block_lt_of_cell? _ _ h.max)).trans h.max, (hB.cell (p := ⟨5, 15, none⟩) (World.block_lt_of_cell? _ _ h.tab)).trans h.tab⟩
theorem At.below {m : Int} {w u : World} {B : Nat} (h : At m w) (hB : Below B w u) (hb : 5 < B) : At m u :=
  ⟨(hB.cell (p := ⟨0, 0, none⟩) (by show 0 < B; omega)).trans h.max, (hB.cell (p := ⟨5, 15, none⟩) hb).trans h.tab⟩
theorem At.drew {m : Int} {w : World} (h : At m w) : At m w.drew := ⟨h.max, h.tab⟩
theorem At.lt {m : Int} {w : World} (h : At m w) : 5 < w.heap.size := World.block_lt_of_cell? _ _ h.tab

/-- Block g holds the texts l, and they may be written. -/
def HeldS (W : World) (g : Nat) (l : List ByteArray) : Prop := ∀ j (h : j < l.length), W.cell? ⟨g, j, none⟩ = some (.string l[j]) ∧ W.frozen? ⟨g, j, none⟩ = false
theorem heldS_set {W : World} {g : Nat} {l : List ByteArray} (h : HeldS W g l) (k : Nat) (hk : k < l.length) (x : ByteArray) : HeldS (W.setCell ⟨g, k, none⟩ (.string x)) g (l.set k x) := by
  intro j hj
  have hj' : j < l.length := by simpa using hj
  refine ⟨?_, by rw [World.frozen?_setCell]; exact (h j hj').2⟩
  by_cases e : j = k
  · subst e
    rw [World.cell?_setCell_same (h := (h j hj').1)]
    simp
  · rw [World.cell?_setCell_other (h := fun h => e (by cases h; rfl)), (h j hj').1]
    rw [List.getElem_set_ne (by omega)]
theorem heldS_below {W W' : World} {g : Nat} {l : List ByteArray} (h : HeldS W g l) {B : Nat} (hB : Below B W W') (hg : g < B) : HeldS W' g l :=
  fun j hj => ⟨(hB.cell (p := ⟨g, j, none⟩) hg).trans (h j hj).1, (hB.frozen (p := ⟨g, j, none⟩) hg).trans (h j hj).2⟩
theorem made_strings (n : Nat) : madeCells (Value.string ByteArray.empty).cells n = (Array.replicate n (Value.string ⟨#[]⟩)) := by
  apply Array.ext
  · simp [madeCells]
  · intro i h1 h2
    simp [madeCells, Value.cells, Nat.mod_one]
    rfl
theorem heldS_new (w : World) (n : Nat) (t : TypeId) : HeldS (w.alloc (.cells (Array.replicate n (Value.string ⟨#[]⟩)) t)) w.heap.size (List.replicate n ⟨#[]⟩) := by
  intro j hj
  simp at hj
  rw [World.cell?_alloc_at _ _ _ _ rfl, World.frozen?_alloc_at _ _ _ _ rfl]
  simp [hj]
theorem make_strings (n : Nat) (hn : n ≤ 8) (w : World) : (Instr.makeSlice 46 (.int .i64 (n : Int)) (.int .i64 (n : Int))).run Tryd.prog w = .ok (.slice (some ⟨w.heap.size, 0, none⟩) n n) (w.alloc (.cells (Array.replicate n (Value.string ⟨#[]⟩)) 9)) := by
  have hi9 : (Tryd.prog.info? 9).map (fun i => (i.zero, i.size, i.bytes)) = some (some (.string ByteArray.empty), 1, 16) := by kernel_rfl
  obtain ⟨i0, hi, hx⟩ := Option.map_eq_some_iff.1 hi9
  simp only [Prod.mk.injEq] at hx
  obtain ⟨hz0, hz1, hz2⟩ := hx
  rw [run_make w 46 9 i0 _ Tryd.underlying46 hi hz0 .i64 .i64 n n (by omega) (Int.le_refl _) (by rw [hz2]; omega) (by omega), hz1, show ((n : Int)).toNat = n by omega, Nat.mul_one, made_strings]

def txt (z : Int) : ByteArray := ⟨(hexN z.toNat).toArray⟩
def rowS (p : List Int) (k : Nat) : List ByteArray := (p.take k).map txt ++ List.replicate (p.length - k) ⟨#[]⟩
theorem rowS_len (p : List Int) (k : Nat) (h : k ≤ p.length) : (rowS p k).length = p.length := by simp [rowS]; omega
theorem rowS_set (p : List Int) (k : Nat) (h : k < p.length) : (rowS p k).set k (txt p[k]) = rowS p (k + 1) := by
  have e : ((p.take k).map txt).length = k := by simp; omega
  obtain ⟨m, hm⟩ : ∃ m, p.length - k = m + 1 := ⟨p.length - k - 1, by omega⟩
  unfold rowS
  rw [List.set_append_right _ _ (by omega), e, Nat.sub_self, hm, List.replicate_succ, List.set_cons_zero, List.take_succ_eq_append_getElem h, show p.length - (k + 1) = m by omega]
  simp only [List.map_append, List.map_cons, List.map_nil, List.append_assoc, List.cons_append, List.nil_append]
theorem rowS_all (p : List Int) : rowS p p.length = p.map txt := by simp [rowS]
theorem rowS_texts (p : List Int) : (p.map txt).map (·.data.toList) = texts p := by
  unfold texts
  rw [List.map_map]
  rfl

theorem joinS_at (p : List Int) (hp : p.length ≤ 8) (hm : mayP p = true) (g : Nat) (w : World) (hg : g < w.heap.size) (h : HeldS w g (p.map txt)) :
    Calls Tryd.prog 31 #[.slice (some ⟨g, 0, none⟩) p.length p.length, .string ⟨#[58]⟩] w fun e W' => e = .returned (.string ⟨(joinC (texts p)).toArray⟩) ∧ Below w.heap.size w W' := by
  have e : Lib.join ((p.map txt).map (·.data.toList)) (⟨#[58]⟩ : ByteArray).data.toList = joinC (texts p) := by
    rw [rowS_texts]
    exact joinC_lib _
  have h4 : ∀ t ∈ texts p, t.length ≤ 4 := fun t ht => ((okP_iff t).1 (List.all_eq_true.1 (texts_okP p hm) t ht)).2.1
  have hs := lens_le _ 4 h4
  have hl : (joinC (texts p)).length ≤ 100 := by
    rw [joinC_len]
    have : (texts p).length = p.length := by simp [texts]
    omega
  have hlm : (p.map txt).length = p.length := by simp
  have := Tryd.strings_Join g 0 p.length (p.map txt) ⟨#[58]⟩ w (fun j x hj => by
    obtain ⟨hlt, ex⟩ := List.getElem?_eq_some_iff.1 hj
    rw [Nat.zero_add, (h j hlt).1, ex]) hg (by rw [hlm]; omega) (by rw [hlm]; omega) (by rw [e]; omega)
  rw [e, hlm] at this
  exact this

set_option maxRecDepth 100000 in
set_option maxHeartbeats 2000000 in
theorem join_any (p : List Int) (hp : p.length ≤ 8) (hm : mayP p = true) (g o cap : Nat) (m : Int) (w : World) (hat : At m w) (hg : g < w.heap.size) (hc : ∀ j (h : j < p.length), w.cell? ⟨g, o + j, none⟩ = some (.int .i64 p[j])) :
    Calls Tryd.prog 24 #[.slice (some ⟨g, o, none⟩) p.length cap] w fun e W' => e = .returned (.string ⟨(joinC (texts p)).toArray⟩) ∧ Below w.heap.size w W' := by
  have hmk := make_strings p.length hp w
  have hB0 : Below w.heap.size w (w.alloc (.cells (Array.replicate p.length (Value.string ⟨#[]⟩)) 9)) := (Below.refl _ w).alloc (Nat.le_refl _) _
  have hH0 : HeldS (w.alloc (.cells (Array.replicate p.length (Value.string ⟨#[]⟩)) 9)) w.heap.size (rowS p 0) := heldS_new w p.length 9
  have hs0 : w.heap.size < (w.alloc (.cells (Array.replicate p.length (Value.string ⟨#[]⟩)) 9)).heap.size := by simp
  have HP := Lib.hid hp
  have HM := Lib.hid hm
  have HAt := Lib.hid hat
  have HG := Lib.hid hg
  have HC := Lib.hid hc
  obtain ⟨n, hn⟩ : ∃ n, p.length = n := ⟨_, rfl⟩
  have HN := Lib.hid hn
  rw [hn] at hmk hB0 hH0 hs0 hp ⊢
  clear hm hat hg hc hn
  go_enter Tryd.func24, Tryd.ntmps24
  go_wp2
  clear hmk
  generalize w.alloc (.cells (Array.replicate n (Value.string ⟨#[]⟩)) 9) = W at hB0 hH0 hs0 ⊢
  go_loopw [4, 5, 11] (fun _ _ i wr => ∃ k : Nat, k ≤ n ∧ i = .int .i64 k ∧ Hid (HeldS wr w.heap.size (rowS p k)) ∧ Hid (w.heap.size < wr.heap.size) ∧ Below w.heap.size w wr) (fun _ _ i _ => n - (intOf i).toNat)
  case atStart => exact ⟨0, Nat.zero_le _, rfl, Lib.hid hH0, Lib.hid hs0, hB0⟩
  case round =>
    clear hH0 hB0 hs0
    obtain ⟨k, hk, rfl, HH, HS, hw⟩ := hrel
    by_cases hlt : k < n
    · have t1 : (k : Int) < (n : Int) := by omega
      have hkp : k < p.length := by have := HN.out; omega
      have hcell := (hw.cell (p := ⟨g, o + k, none⟩) HG.out).trans (HC.out k hkp)
      have HSet := Lib.hid (rowS_set p k hkp)
      obtain ⟨z, hz⟩ : ∃ z, p[k] = z := ⟨_, rfl⟩
      have hzb := (may_iff p).1 HM.out z (by rw [← hz]; exact List.getElem_mem hkp)
      rw [hz] at hcell
      obtain ⟨q, rfl⟩ : ∃ q : Nat, z = (q : Int) := ⟨z.toNat, by omega⟩
      have HSet2 := Lib.hid (show (rowS p k).set k (txt (q : Int)) = rowS p (k + 1) by rw [← hz]; exact HSet.out)
      have hf := format_any q (by omega) (txt (q : Int)) (by unfold txt; rw [show ((q : Int)).toNat = q by omega]) wr (HAt.out.below hw HAt.out.lt).tab
      have HK := Lib.hid (show k < (rowS p k).length by rw [rowS_len _ _ (by omega)]; exact hkp)
      clear HSet hz hzb hkp
      go_wp2_with (go_at_call 30; refine hf.mono ?_; rintro e w2 ⟨rfl, hB2⟩; obtain ⟨hc2, hf2⟩ := heldS_below HH.out hB2 HS.out k HK.out)
      go_roundw
      case rel =>
        refine ⟨k + 1, by omega, by go_num, Lib.hid ?_, Lib.hid ?_, (hw.trans (hB2.mono hw.size)).setCell (p := ⟨w.heap.size, k, none⟩) (Nat.le_refl _) _⟩
        · rw [← HSet2.out]
          exact heldS_set (heldS_below HH.out hB2 HS.out) k HK.out _
        · have h1 := HS.out
          have h2 := hB2.size
          simp [World.setCell]
          omega
      case measure => simp [intOf]; omega
    · obtain rfl : k = n := by omega
      have hj := HH.out
      rw [← HN.out, rowS_all] at hj
      have hj2 := joinS_at p HP.out HM.out w.heap.size wr HS.out hj
      rw [HN.out] at hj2
      clear hj
      go_wp2_with (go_at_call 31; refine hj2.mono ?_; rintro e w' ⟨rfl, hB2⟩)
      go_ret
      exact ⟨rfl, hw.trans (hB2.mono hw.size)⟩
end Go.Proofs.YtgfhjigalefkmaaDoor.Six

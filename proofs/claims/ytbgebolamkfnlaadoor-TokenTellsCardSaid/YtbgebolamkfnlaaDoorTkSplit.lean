/-
  Split(s): what strings.Split cuts, each text trimmed and cloned in its place.
-/
import Derived.Test.YtbgebolamkfnlaaDoorTkMap
namespace Go.Proofs.YtbgebolamkfnlaaDoor.Token
set_option linter.unusedSimpArgs false
set_option linter.unusedVariables false
set_option maxRecDepth 100000


open Go.RowKit Go.Shelf

open Url

open Path (Strs tx MaxAt)

open Head (F tb tb_of tb_list tb_toList tb_size Flds FAt trimB trim_any trim_len)


/-! ### A new slice of texts, by its block -/
def TAt (W : World) (g : Nat) (l : List T) : Prop := W.heap[g]? = some (.cells (l.map fun x => Value.string (tb x)).toArray 9 (0, 0))

theorem TAt.lt {w : World} {g : Nat} {l : List T} (a : TAt w g l) : g < w.heap.size := (Array.getElem?_eq_some_iff.1 a).1

theorem TAt.new (w : World) (l : List T) : TAt (w.alloc (.cells (l.map fun x => Value.string (tb x)).toArray 9)) w.heap.size l := heap_alloc_new w _

theorem TAt.later {w v : World} {g : Nat} {l : List T} (a : TAt w g l) (hB : Below w.heap.size w v) : TAt v g l := (hB.block g a.lt).trans a

theorem TAt.cell {w : World} {g : Nat} {l : List T} (a : TAt w g l) (j : Nat) (t : T) (h : l[j]? = some t) : w.cell? ⟨g, j, none⟩ = some (.string (tb t)) := by
  rw [cell_of_row w g j _ 9 (0, 0) a]
  simp [h]

theorem TAt.frozen {w : World} {g : Nat} {l : List T} (a : TAt w g l) (j : Nat) : w.frozen? ⟨g, j, none⟩ = false := by
  unfold World.frozen?
  rw [show w.heap[(⟨g, j, none⟩ : Addr).block]? = _ from a]
  simp

theorem TAt.set {w : World} {g : Nat} {l : List T} (a : TAt w g l) (j : Nat) (t : T) : TAt (w.setCell ⟨g, j, none⟩ (.string (tb t))) g (l.set j t) := by
  unfold TAt at *
  simp [World.setCell, Array.getElem?_modify, a]

theorem TAt.strs {w : World} {g : Nat} {l : List T} (a : TAt w g l) (n : Nat) (hn : l.length = n) (h : n ≤ maxLen) : Strs w (.slice (some ⟨g, 0, none⟩) n n) l := by
  subst hn
  refine ⟨_, _, rfl, Nat.le_refl _, h, (fun e => by cases e), fun _ => ⟨g, 0, rfl, fun j hj => ?_⟩⟩
  rw [Nat.zero_add]
  exact a.cell j _ (List.getElem?_eq_getElem hj)

/-! ### The first ones trimmed -/

def mixL (l : List T) (k : Nat) : List T := (l.take k).map trimB ++ l.drop k

theorem mix_zero (l : List T) : mixL l 0 = l := by simp [mixL]

theorem mix_all (l : List T) : mixL l l.length = l.map trimB := by simp [mixL]

theorem mix_at (l : List T) (k : Nat) (h : k < l.length) : (mixL l k)[k]? = some l[k] := by
  unfold mixL
  rw [List.getElem?_append_right (by simp; omega)]
  simp [Nat.min_eq_left (Nat.le_of_lt h), h]

theorem mix_set (l : List T) (k : Nat) (h : k < l.length) : (mixL l k).set k (trimB l[k]) = mixL l (k + 1) := by
  unfold mixL
  have e : ((l.take k).map trimB).length = k := by simp; omega
  rw [List.set_append_right _ _ (by omega), e, Nat.sub_self, List.drop_eq_getElem_cons h, List.set_cons_zero, List.take_succ_eq_append_getElem h, List.map_append, List.append_assoc]
  rfl

set_option maxRecDepth 100000 in
set_option maxHeartbeats 4000000 in
theorem split_any (s : ByteArray) (hs : s.size ≤ 1000000) (m : Int) (w : World) (hm : MaxAt m w) :
    Calls Tryd.prog 12 #[.string s] w fun e w' => ∃ v, e = .returned v ∧ Strs w' v (splitL s.data.toList) ∧ Below w.heap.size w w' := by
  obtain ⟨P, hP⟩ : ∃ P, Lib.splitB ⟨#[44]⟩ 0 (Lib.countB s ⟨#[44]⟩) s = P := ⟨_, rfl⟩
  have hPd : P.map (·.data.toList) = cm s.data.toList := by
    rw [← hP, Lib.splitB_data]
    exact split_cm s.data.toList
  have hPl : P.length = Lib.countB s ⟨#[44]⟩ + 1 := by rw [← hP]; exact Lib.splitB_all ⟨#[44]⟩ (by decide) 0 _ s rfl
  have cSpl := Tryd.strings_Split s ⟨#[44]⟩ m w (by omega) hm (by decide)
  have hcl : (cm s.data.toList).length = P.length := by rw [← hPd, List.length_map]
  have hcells : P.map Value.string = (cm s.data.toList).map fun x => Value.string (tb x) := by
    rw [← hPd, List.map_map]
    apply List.map_congr_left
    intro x _
    show _ = Value.string (tb x.data.toList)
    rw [tb_of]
  rw [hP, ← hPl, hcells, ← hcl] at cSpl
  have hL := cm_len s.data.toList
  have hM := cm_mem s.data.toList
  have hsl : s.data.toList.length = s.size := rfl
  unfold splitL
  generalize cm s.data.toList = L at cSpl hL hM ⊢
  have hL2 : L.length ≤ 1000001 := by omega
  have HM := Lib.hid (show ∀ t ∈ L, t.length ≤ 1000000 from fun t ht => by have := (hM t ht).2; omega)
  clear hP hPd hPl hcl hcells hL hM hsl hm
  go_enter Tryd.func12, Tryd.ntmps12
  go_wp2_with fail
  refine cSpl.mono ?_
  rintro e w1 ⟨rfl, hw1⟩
  have hT0 : TAt w1 w.heap.size L := by rw [hw1]; exact TAt.new w L
  have hB0 : Below w.heap.size w w1 := by rw [hw1]; exact (Below.refl _ w).alloc (Nat.le_refl _) _
  clear hw1 cSpl
  go_wp2
  go_loopw [4, 5, 10] (fun _ _ i wr => ∃ k : Nat, k ≤ L.length ∧ i = .int .i64 k ∧ TAt wr w.heap.size (mixL L k) ∧ Below w.heap.size w wr) (fun _ _ i _ => L.length - (intOf i).toNat)
  case atStart => exact ⟨0, Nat.zero_le _, rfl, by rw [mix_zero]; exact hT0, hB0⟩
  case round =>
    obtain ⟨k, hk, rfl, hT, hB⟩ := hrel
    clear hT0 hB0
    by_cases hlt : k < L.length
    · have q1 : decide (k < L.length) = true := decide_eq_true hlt
      have hc := hT.cell k _ (mix_at L k hlt)
      have hsz := HM.out _ (List.getElem_mem hlt)
      have HS := Lib.hid (mix_set L k hlt)
      obtain ⟨t, ht⟩ : ∃ t, L[k] = t := ⟨_, rfl⟩
      rw [ht] at hc hsz HS
      have cT := fun u => trim_any (tb t) (by rw [tb_size]; exact hsz) u
      rw [tb_list] at cT
      have htl := trim_len t
      have cC := fun u => Path.clone_any (tb (trimB t)) (by rw [tb_size]; omega) u
      have HN := Lib.hid (show (⟨(trimB t).toArray⟩ : ByteArray) = tb (trimB t) from rfl)
      rw [HN.out] at cT
      obtain ⟨N, hN⟩ : ∃ N, tb (trimB t) = N := ⟨_, rfl⟩
      rw [hN] at cT cC
      have HX := Lib.hid hN
      clear ht hsz htl HN hN
      generalize tb t = X at hc cT
      go_wp2_with fail
      refine (cT _).mono ?_
      rintro e w2 ⟨rfl, hB2⟩
      have hT2 := hT.later hB2
      have hb2 := Ascii.below2 hB hB2
      clear cT hc hT hB hB2
      go_wp2_with fail
      refine (cC _).mono ?_
      rintro e w3 ⟨rfl, hB3⟩
      have hT3 := hT2.later hB3
      have hb3 := Ascii.below2 hb2 hB3
      have hfz := hT3.frozen k
      have hc3 := hT3.cell k _ (mix_at L k hlt)
      have hT4 : TAt (w3.setCell ⟨w.heap.size, k, none⟩ (.string N)) w.heap.size (mixL L (k + 1)) := by rw [← HS.out, ← HX.out]; exact hT3.set k (trimB t)
      have hb4 := hb3.setCell (p := ⟨w.heap.size, k, none⟩) (by simp) (.string N)
      clear cC hT2 hb2 hB3
      go_wp2
      go_roundw
      case rel => exact ⟨k + 1, by omega, by go_num, hT4, hb4⟩
      case measure => simp [intOf]; omega
    · obtain rfl : k = L.length := by omega
      rw [mix_all] at hT
      have hst := hT.strs L.length (by rw [List.length_map]) (by unfold maxLen; omega)
      go_wp2
      go_ret
      exact ⟨_, rfl, hst, hB⟩

end Go.Proofs.YtbgebolamkfnlaaDoor.Token

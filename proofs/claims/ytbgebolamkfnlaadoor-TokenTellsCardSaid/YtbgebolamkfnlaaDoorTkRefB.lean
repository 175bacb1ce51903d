/-
  The document's Last, Told of layer 14.
-/
import Derived.Test.YtbgebolamkfnlaaDoorTkRefA
namespace Go.Proofs.YtbgebolamkfnlaaDoor.Token
set_option linter.unusedSimpArgs false
set_option linter.unusedVariables false
set_option maxRecDepth 100000


open Go.RowKit Go.Shelf

open Url

open Path (Strs tx MaxAt infoText)

open Head (F tb tb_of tb_list tb_toList tb_size Flds FAt getT getB refGet_any)


theorem lastL_snoc (l : List T) (k : Nat) (h : k < l.length) : lastL (l.take (k + 1)) = if polB l[k] = 0 then lastL (l.take k) else polB l[k] := by
  rw [List.take_succ_eq_append_getElem h, lastL_app]
  rfl

set_option maxRecDepth 100000 in
set_option maxHeartbeats 4000000 in
theorem refLast_any (s : ByteArray) (hs : s.size ≤ 1000000) (w : World) :
    Calls Tryd.prog 19 #[.string s] w fun e w' => e = .returned (.int .i64 (lastB s.data.toList : Nat)) ∧ Below w.heap.size w w' := by
  have hme := split_mem s.data.toList
  have hsl : s.data.toList.length = s.size := rfl
  have hll := split_len s.data.toList
  have cS := refSplit_any s hs w
  unfold lastB
  generalize splitL s.data.toList = L at hme hll cS ⊢
  have HM := Lib.hid (show ∀ t ∈ L, t.length ≤ 1000000 from fun t ht => by have := (hme t ht).2.2.2; omega)
  clear hme
  go_enter Tryd.func19, Tryd.ntmps19
  go_wp2_with fail
  refine cS.mono ?_
  rintro e w1 ⟨v, rfl, hS, hB1⟩
  have hsh := hS
  obtain ⟨a, c, rfl, -⟩ := hsh
  have HSt := Lib.hid hS
  have hb1 := Lib.hid hB1
  clear hS hB1 cS
  go_wp2
  go_loopw [4, 5, 6] (fun p i _ wr => ∃ k : Nat, k ≤ L.length ∧ i = .int .i64 k ∧ p = .int .i64 (lastL (L.take k) : Nat) ∧ Below w1.heap.size w1 wr) (fun _ i _ _ => L.length - (intOf i).toNat)
  case atStart => exact ⟨0, Nat.zero_le _, rfl, rfl, Below.refl _ _⟩
  case round =>
    obtain ⟨k, hk, rfl, rfl, hB⟩ := hrel
    by_cases hlt : k < L.length
    · have q1 : decide (k < L.length) = true := decide_eq_true hlt
      obtain ⟨b, off, rfl, hkc, g⟩ := strs_at (HSt.out.later hB) k hlt
      have hts := HM.out _ (List.getElem_mem hlt)
      have HN := Lib.hid (lastL_snoc L k hlt)
      obtain ⟨t, ht⟩ : ∃ t, L[k] = t := ⟨_, rfl⟩
      rw [ht] at g hts HN
      have cP := fun u => refPolicy_any (tb t) (by rw [tb_size]; exact hts) u
      rw [tb_list] at cP
      obtain ⟨q, hq⟩ : ∃ q, polB t = q := ⟨_, rfl⟩
      rw [hq] at cP HN
      obtain ⟨z, hz⟩ : ∃ z, lastL (L.take k) = z := ⟨_, rfl⟩
      rw [hz] at HN ⊢
      clear ht hq hz
      generalize tb t = X at g cP
      go_wp2_with fail
      refine (cP _).mono ?_
      rintro e w2 ⟨rfl, hB2⟩
      have hb2 := hB.trans (hB2.mono hB.size)
      clear cP g hB hB2
      by_cases h0 : q = 0
      · subst h0
        have HN2 := Lib.hid (show lastL (L.take (k + 1)) = z by rw [HN.out, if_pos rfl])
        go_wp2
        go_roundw
        case rel => exact ⟨k + 1, by omega, by go_num, by rw [HN2.out], hb2⟩
        case measure => simp [intOf]; omega
      · have HN2 := Lib.hid (show lastL (L.take (k + 1)) = q by rw [HN.out, if_neg h0])
        have q2 : ((q : Int) != 0) = true := by rw [bne_iff_ne]; omega
        clear h0
        go_wp2
        go_roundw
        case rel => exact ⟨k + 1, by omega, by go_num, by rw [HN2.out], hb2⟩
        case measure => simp [intOf]; omega
    · obtain rfl : k = L.length := by omega
      rw [List.take_length]
      go_wp2
      go_ret
      exact ⟨rfl, Ascii.below2 hb1.out hB⟩

set_option maxRecDepth 100000 in
set_option maxHeartbeats 2000000 in
theorem refTold_any (v : Value) (l : List F) (hl : l.length ≤ 60) (hs : ∀ f ∈ l, f.1.length ≤ 300 ∧ f.2.length ≤ 300) (w : World) (h : Flds w v l) :
    Calls Tryd.prog 21 #[v] w fun e w' => e = .returned (.int .i64 (toldB l : Nat)) ∧ Below w.heap.size w w' := by
  have cG := refGet_any v l hl hs rpB (by decide) w h
  rw [rpB_is] at cG
  obtain ⟨a, c, rfl, -⟩ := h
  have hg := get_size l rp (by omega) hs
  have cL := fun u => refLast_any (tb (getT l rp)) (by rw [tb_size]; exact hg) u
  rw [tb_list] at cL
  have hno := Lib.hid (told_no l)
  have HT := Lib.hid (show toldB l = lastB (getT l rp) from rfl)
  generalize toldB l = z at hno HT ⊢
  generalize lastB (getT l rp) = p at cL HT
  generalize tb (getT l rp) = G at cG cL
  generalize getB l rp = b at cG hno
  clear hg
  go_enter Tryd.func21, Tryd.ntmps21
  go_wp2_with fail
  refine cG.mono ?_
  rintro e w1 ⟨rfl, hB1⟩
  cases b
  · have hz := hno.out rfl
    subst hz
    clear hno HT cL
    go_wp2
    go_ret
    exact ⟨rfl, hB1⟩
  · have hz := HT.out
    subst hz
    clear hno HT
    go_wp2_with fail
    refine (cL w1).mono ?_
    rintro e w2 ⟨rfl, hB2⟩
    go_wp2
    go_ret
    exact ⟨rfl, Ascii.below2 hB1 hB2⟩

end Go.Proofs.YtbgebolamkfnlaaDoor.Token

/-
  The step that has the path.
-/
import Derived.Test.YtkhjhiofgoampaaGreatDoorJTail
namespace Go.Proofs.YtkhjhiofgoampaaGreatDoor.Join
set_option linter.unusedSimpArgs false
set_option linter.unusedVariables false
set_option maxRecDepth 100000


open Go.RowKit Go.Shelf

open Url Show

open Host (none0)

open Path (Strs)

set_option maxRecDepth 100000

theorem boxed_later {W W' : World} {B : Nat} {t : TypeId} {v : Value} (h : Boxed W B t v) (hB : Below W.heap.size W W') : Boxed W' B t v := (hB.block B h.lt).trans h

theorem segments_any (a : Option Addr) (n c : Nat) (w : World) : Calls Tryz.prog 68 #[.slice a n c] w fun e w' => e = .returned (.func (.func 115) #[] #[.pointer (some ⟨w.heap.size, 0, none⟩)]) ∧ w' = w.alloc (.cells #[.slice a n c] 25) := by
  have hmf : ∀ (fn : Fn) (first cap : Array Value) (w : World), (Instr.makeFunc fn first cap).run Tryz.prog w = .ok (.func fn first cap) w := fun _ _ _ _ => rfl
  go_enter Tryz.func68, Tryz.ntmps68
  go_wp2
  go_ret
  exact ⟨rfl, rfl⟩

/-- The path told: 'd' what it was. -/
def pathS (b d : List T) (t : T) : List T := if t = [] then d else if Lib.hasPrefix t [47] = true then Path.parse t else Path.merge b t

set_option maxHeartbeats 16000000 in
theorem seg_step (u : U) (pv : Value) (t : ByteArray) (ht : t.size ≤ 30000) (h8 : u.h.p.length = 8) (base : List T) (hb1 : base.length ≤ 1000) (hb2 : ∀ t ∈ base, t.length ≤ 1000000) (bv : Value) (q : Nat) (m : Int) (w : World) (hm : Six.At m w)
    (hst : Strs w pv u.path) (hbs : Strs w bv base) (hq : Boxed w q 25 bv) :
    Calls Tryz.prog 115 #[.agg (cS u pv t), .pointer (some ⟨q, 0, none⟩)] w fun e w' => ∃ rv, e = .returned (.agg (cS { u with path := pathS base u.path t.data.toList } rv t)) ∧ Strs w' rv (pathS base u.path t.data.toList) ∧
      (rv = pv ∨ Path.New w.heap.size rv) ∧ Below w.heap.size w w' := by
  have hone := strs_one hst
  have HQ := Lib.hid hq.lt
  have h1 := StepAt.new w u pv t
  have hb1' := (Below.refl w.heap.size w).alloc (Nat.le_refl _) (.cells (cS u pv t) 83)
  have hs1 : (w.alloc (.cells (cS u pv t) 83)).heap.size = w.heap.size + 1 := Array.size_push _
  have h2 := StepAt.new (w.alloc (.cells (cS u pv t) 83)) none1 (.slice none 0 0) ⟨#[]⟩
  rw [hs1] at h2
  have hB0 : Below w.heap.size w ((w.alloc (.cells (cS u pv t) 83)).alloc (.cells #[.string ⟨#[]⟩, .string ⟨#[]⟩, .string ⟨#[]⟩, .int .i64 0, .string ⟨#[]⟩, .int .i64 0, .int .i64 0, .int .i64 0, .int .i64 0, .int .i64 0, .int .i64 0, .int .i64 0, .int .i64 0, .int .i64 0, .int .i64 0, .slice none 0 0, .string ⟨#[]⟩, .string ⟨#[]⟩, .string ⟨#[]⟩, .bool false, .bool false, .string ⟨#[]⟩] 83)) := hb1'.alloc (by omega) (.cells #[.string ⟨#[]⟩, .string ⟨#[]⟩, .string ⟨#[]⟩, .int .i64 0, .string ⟨#[]⟩, .int .i64 0, .int .i64 0, .int .i64 0, .int .i64 0, .int .i64 0, .int .i64 0, .int .i64 0, .int .i64 0, .int .i64 0, .int .i64 0, .slice none 0 0, .string ⟨#[]⟩, .string ⟨#[]⟩, .string ⟨#[]⟩, .bool false, .bool false, .string ⟨#[]⟩] 83)
  have hU : StepAt ((w.alloc (.cells (cS u pv t) 83)).alloc (.cells #[.string ⟨#[]⟩, .string ⟨#[]⟩, .string ⟨#[]⟩, .int .i64 0, .string ⟨#[]⟩, .int .i64 0, .int .i64 0, .int .i64 0, .int .i64 0, .int .i64 0, .int .i64 0, .int .i64 0, .int .i64 0, .int .i64 0, .int .i64 0, .slice none 0 0, .string ⟨#[]⟩, .string ⟨#[]⟩, .string ⟨#[]⟩, .bool false, .bool false, .string ⟨#[]⟩] 83)) w.heap.size u pv t := h1.past (.cells #[.string ⟨#[]⟩, .string ⟨#[]⟩, .string ⟨#[]⟩, .int .i64 0, .string ⟨#[]⟩, .int .i64 0, .int .i64 0, .int .i64 0, .int .i64 0, .int .i64 0, .int .i64 0, .int .i64 0, .int .i64 0, .int .i64 0, .int .i64 0, .slice none 0 0, .string ⟨#[]⟩, .string ⟨#[]⟩, .string ⟨#[]⟩, .bool false, .bool false, .string ⟨#[]⟩] 83)
  have hZ : StepAt ((w.alloc (.cells (cS u pv t) 83)).alloc (.cells #[.string ⟨#[]⟩, .string ⟨#[]⟩, .string ⟨#[]⟩, .int .i64 0, .string ⟨#[]⟩, .int .i64 0, .int .i64 0, .int .i64 0, .int .i64 0, .int .i64 0, .int .i64 0, .int .i64 0, .int .i64 0, .int .i64 0, .int .i64 0, .slice none 0 0, .string ⟨#[]⟩, .string ⟨#[]⟩, .string ⟨#[]⟩, .bool false, .bool false, .string ⟨#[]⟩] 83)) (w.heap.size + 1) none1 (.slice none 0 0) ⟨#[]⟩ := h2
  have HB0 := Lib.hid hB0
  have HU := Lib.hid hU
  have HZ := Lib.hid hZ
  have HM := Lib.hid (hm.later hB0)
  have HST := Lib.hid (hst.later hB0)
  have HBS := Lib.hid (hbs.later hB0)
  have HBX := Lib.hid (boxed_later hq hB0)
  have HSZ := Lib.hid (show ((w.alloc (.cells (cS u pv t) 83)).alloc (.cells #[.string ⟨#[]⟩, .string ⟨#[]⟩, .string ⟨#[]⟩, .int .i64 0, .string ⟨#[]⟩, .int .i64 0, .int .i64 0, .int .i64 0, .int .i64 0, .int .i64 0, .int .i64 0, .int .i64 0, .int .i64 0, .int .i64 0, .int .i64 0, .slice none 0 0, .string ⟨#[]⟩, .string ⟨#[]⟩, .string ⟨#[]⟩, .bool false, .bool false, .string ⟨#[]⟩] 83)).heap.size = w.heap.size + 2 by
    rw [show ((w.alloc (.cells (cS u pv t) 83)).alloc (.cells #[.string ⟨#[]⟩, .string ⟨#[]⟩, .string ⟨#[]⟩, .int .i64 0, .string ⟨#[]⟩, .int .i64 0, .int .i64 0, .int .i64 0, .int .i64 0, .int .i64 0, .int .i64 0, .int .i64 0, .int .i64 0, .int .i64 0, .int .i64 0, .slice none 0 0, .string ⟨#[]⟩, .string ⟨#[]⟩, .string ⟨#[]⟩, .bool false, .bool false, .string ⟨#[]⟩] 83)).heap.size = (w.alloc (.cells (cS u pv t) 83)).heap.size + 1 from Array.size_push _, hs1])
  have HSTw := Lib.hid hst
  have c21 := hU.cell 21
  rw [(cS_at u pv t h8).2.2.2.2.2] at c21
  obtain ⟨cP, hcP⟩ : ∃ c, Lib.hasPrefix t.data.toList [47] = c := ⟨_, rfl⟩
  obtain ⟨e, he⟩ : ∃ c, t.toList.isEmpty = c := ⟨_, rfl⟩
  have hnil : t.data.toList = [] ↔ e = true := by rw [← he, Path.tl, List.isEmpty_iff]
  have HP1 := Lib.hid (show cP = true → pathS base u.path t.data.toList = Path.parse t.data.toList from fun h => by
    unfold pathS
    rw [if_neg (fun h0 => by rw [h0] at hcP; rw [← hcP] at h; exact absurd h (by decide)), if_pos (hcP.trans h)])
  have HP2 := Lib.hid (show cP = false → e = false → pathS base u.path t.data.toList = Path.merge base t.data.toList from fun h k => by
    unfold pathS
    rw [if_neg (fun h0 => by rw [hnil.1 h0] at k; cases k), if_neg (by rw [hcP, h]; simp)])
  have HP3 := Lib.hid (show cP = false → e = true → pathS base u.path t.data.toList = u.path from fun h k => by
    unfold pathS
    rw [if_pos (hnil.2 k)])
  have CP := Lib.hid (fun x => Tryz.strings_HasPrefix t ⟨#[47]⟩ x)
  rw [show (⟨#[47]⟩ : ByteArray).data.toList = [47] from rfl, hcP] at CP
  have C1 := Lib.hid (fun x (hx : Six.At m x) => Path.parse_new t ht m x hx.max)
  have C2 := Lib.hid (fun x (hx : Six.At m x) hs => Path.merge_new bv base hb1 hb2 t ht m x hx.max hs)
  have HE := Lib.hid he
  have HX8 := Lib.hid h8
  have HONE := Lib.hid hone
  generalize pathS base u.path t.data.toList = V at HP1 HP2 HP3 ⊢
  generalize Path.parse t.data.toList = V1 at C1 HP1
  generalize Path.merge base t.data.toList = V2 at C2 HP2
  obtain ⟨ba, bc, rfl, -⟩ := hbs
  obtain ⟨X, hX⟩ : ∃ x, ({ u with path := V } : U) = x := ⟨_, rfl⟩
  have HXX := Lib.hid hX
  rw [hX]
  clear hX h1 h2 hb1' hs1 hB0 hU hZ hm h8 hone hq hst hb1 hb2 hcP he hnil ht
  go_enter Tryz.func115, Tryz.ntmps115
  go_wp2_with fail
  clear c21
  generalize ((w.alloc (.cells (cS u pv t) 83)).alloc (.cells #[.string ⟨#[]⟩, .string ⟨#[]⟩, .string ⟨#[]⟩, .int .i64 0, .string ⟨#[]⟩, .int .i64 0, .int .i64 0, .int .i64 0, .int .i64 0, .int .i64 0, .int .i64 0, .int .i64 0, .int .i64 0, .int .i64 0, .int .i64 0, .slice none 0 0, .string ⟨#[]⟩, .string ⟨#[]⟩, .string ⟨#[]⟩, .bool false, .bool false, .string ⟨#[]⟩] 83)) = W at HB0 HU HZ HM HST HBS HBX HSZ ⊢
  refine (CP.out _).mono ?_
  rintro e0 u1 ⟨rfl, rfl⟩
  have c21 := HU.out.cell 21
  rw [(cS_at u pv t HX8.out).2.2.2.2.2] at c21
  cases cP
  · cases e
    · have he := HE.out
      have cq := HBX.out.cell
      go_wp2_with fail
      refine (C2.out _ HM.out HBS.out).mono ?_
      rintro e0 u2 ⟨rv, rfl, hst, hB, hN⟩
      clear C1 C2 he cq
      obtain ⟨ra, rc, rfl, hst'⟩ : ∃ ra rc, rv = .slice ra V2.length rc ∧ Strs u2 rv V2 := by
        obtain ⟨ra, rc, h, _⟩ := id hst
        exact ⟨ra, rc, h, hst⟩
      have HU2 := Lib.hid (HU.out.later hB)
      have HZ2 := Lib.hid (HZ.out.later hB)
      have HB2 := Lib.hid (Ascii.below2 HB0.out hB)
      have HN := Lib.hid (show Path.New (w.heap.size + 2) (.slice ra V2.length rc) from by rw [← HSZ.out]; exact hN)
      have HST2 := Lib.hid hst'
      clear hst hst' hN hB c21 HU HZ
      have c15 := HU2.out.cell 15
      rw [(cS_at u pv t HX8.out).1] at c15
      have f15 := HU2.out.free 15
      have HX9 : X.h.p.length = 8 := by rw [← HXX.out]; exact HX8.out
      have HU3 : StepAt (u2.setCell ⟨w.heap.size, 15, none⟩ (.slice ra V2.length rc)) w.heap.size X (.slice ra V2.length rc) t := by
        have h := step_set HU2.out 15 _ (set_pth u pv t HX8.out V2 (.slice ra V2.length rc))
        rw [← HXX.out, HP2.out (by first | rfl | trivial) (by first | rfl | trivial)]
        exact h
      have HZ3 := step_other HZ2.out (Nat.ne_of_lt (Nat.lt_succ_self w.heap.size)) (j := 15) (.slice ra V2.length rc)
      have HB3 := Lib.hid (below_set HB2.out (Nat.le_refl _) 15 (.slice ra V2.length rc))
      have HST3 := Lib.hid (strs_other (V := u2.setCell ⟨w.heap.size, 15, none⟩ (.slice ra V2.length rc)) w.heap.size HST2.out (HN.out.mono (Nat.le_succ _)) (fun k hk => set_other _ _ _ _ (Ne.symm hk)))
      have hone : (Value.slice ra V2.length rc).oneCell' = true := rfl
      go_upto_region 5 with fail
      generalize u2.setCell ⟨w.heap.size, 15, none⟩ (.slice ra V2.length rc) = u3 at HU3 HZ3 HB3 HST3 ⊢
      clear c15 f15
      go_wp2_with (first
        | ((with_reducible refine wp_load83 (o := ⟨some 27, .load 83 (.tmp 2), _, _, _, _⟩) ?_ (.tmp 2) ?_ w.heap.size ?_ X (.slice ra V2.length rc) t HX9 HU3 ?_); (· rfl); (· rfl); (· rfl); simp only [Act.put, List.setIfInBounds_toArray, List.set_cons_zero, List.set_cons_succ])
        | ((with_reducible refine wp_store83 (o := ⟨none, .store 83 (.tmp 3) (.tmp 27), _, _, _, _⟩) ?_ (.tmp 3) (.tmp 27) ?_ (w.heap.size + 1) ?_ X (.slice ra V2.length rc) t ?_ HX9 hone none1 (.slice none 0 0) ⟨#[]⟩ rfl HZ3 ?_); (· rfl); (· rfl); (· rfl); (· rfl); simp only [Act.put, List.setIfInBounds_toArray, List.set_cons_zero, List.set_cons_succ]))
      have hfin := HZ3.row X (.slice ra V2.length rc) t
      exact bodyPost_ret (ret_step rfl (w.heap.size + 1) X (.slice ra V2.length rc) t HX9 rfl hfin) rfl ⟨_, rfl, by rw [HP2.out (by first | rfl | trivial) (by first | rfl | trivial)]; exact strs_other (w.heap.size + 1) HST3.out HN.out (fun k hk => Url.setRow_other _ _ _ (Ne.symm hk)), .inr (HN.out.mono (by omega)), below_row HB3.out (Nat.le_succ w.heap.size) _⟩
    · have he := HE.out
      have hone := HONE.out
      have HU3 := HU.out
      have HZ3 := HZ.out
      have HX9 := HX8.out
      clear C1 C2
      go_wp2_with (first
        | ((with_reducible refine wp_load83 (o := ⟨some 27, .load 83 (.tmp 2), _, _, _, _⟩) ?_ (.tmp 2) ?_ w.heap.size ?_ u pv t HX9 HU3 ?_); (· rfl); (· rfl); (· rfl); simp only [Act.put, List.setIfInBounds_toArray, List.set_cons_zero, List.set_cons_succ])
        | ((with_reducible refine wp_store83 (o := ⟨none, .store 83 (.tmp 3) (.tmp 27), _, _, _, _⟩) ?_ (.tmp 3) (.tmp 27) ?_ (w.heap.size + 1) ?_ u pv t ?_ HX9 hone none1 (.slice none 0 0) ⟨#[]⟩ rfl HZ3 ?_); (· rfl); (· rfl); (· rfl); (· rfl); simp only [Act.put, List.setIfInBounds_toArray, List.set_cons_zero, List.set_cons_succ]))
      have hfin := HZ3.row u pv t
      have hB := below_row HB0.out (Nat.le_succ w.heap.size) (cS u pv t)
      have hXu : X = u := by rw [← HXX.out, HP3.out (by first | rfl | trivial) (by first | rfl | trivial)]
      rw [HP3.out (by first | rfl | trivial) (by first | rfl | trivial), hXu]
      exact bodyPost_ret (ret_step rfl (w.heap.size + 1) u pv t HX9 rfl hfin) rfl ⟨pv, rfl, HSTw.out.later hB, .inl rfl, hB⟩
  · go_wp2_with fail
    refine (C1.out _ HM.out).mono ?_
    rintro e0 u2 ⟨rv, rfl, hst, hB, hN⟩
    clear C1 C2
    obtain ⟨ra, rc, rfl, hst'⟩ : ∃ ra rc, rv = .slice ra V1.length rc ∧ Strs u2 rv V1 := by
      obtain ⟨ra, rc, h, _⟩ := id hst
      exact ⟨ra, rc, h, hst⟩
    have HU2 := Lib.hid (HU.out.later hB)
    have HZ2 := Lib.hid (HZ.out.later hB)
    have HB2 := Lib.hid (Ascii.below2 HB0.out hB)
    have HN := Lib.hid (show Path.New (w.heap.size + 2) (.slice ra V1.length rc) from by rw [← HSZ.out]; exact hN)
    have HST2 := Lib.hid hst'
    clear hst hst' hN hB c21 HU HZ
    have c15 := HU2.out.cell 15
    rw [(cS_at u pv t HX8.out).1] at c15
    have f15 := HU2.out.free 15
    have HX9 : X.h.p.length = 8 := by rw [← HXX.out]; exact HX8.out
    have HU3 : StepAt (u2.setCell ⟨w.heap.size, 15, none⟩ (.slice ra V1.length rc)) w.heap.size X (.slice ra V1.length rc) t := by
      have h := step_set HU2.out 15 _ (set_pth u pv t HX8.out V1 (.slice ra V1.length rc))
      rw [← HXX.out, HP1.out (by first | rfl | trivial)]
      exact h
    have HZ3 := step_other HZ2.out (Nat.ne_of_lt (Nat.lt_succ_self w.heap.size)) (j := 15) (.slice ra V1.length rc)
    have HB3 := Lib.hid (below_set HB2.out (Nat.le_refl _) 15 (.slice ra V1.length rc))
    have HST3 := Lib.hid (strs_other (V := u2.setCell ⟨w.heap.size, 15, none⟩ (.slice ra V1.length rc)) w.heap.size HST2.out (HN.out.mono (Nat.le_succ _)) (fun k hk => set_other _ _ _ _ (Ne.symm hk)))
    have hone : (Value.slice ra V1.length rc).oneCell' = true := rfl
    go_upto_region 5 with fail
    generalize u2.setCell ⟨w.heap.size, 15, none⟩ (.slice ra V1.length rc) = u3 at HU3 HZ3 HB3 HST3 ⊢
    clear c15 f15
    go_wp2_with (first
      | ((with_reducible refine wp_load83 (o := ⟨some 27, .load 83 (.tmp 2), _, _, _, _⟩) ?_ (.tmp 2) ?_ w.heap.size ?_ X (.slice ra V1.length rc) t HX9 HU3 ?_); (· rfl); (· rfl); (· rfl); simp only [Act.put, List.setIfInBounds_toArray, List.set_cons_zero, List.set_cons_succ])
      | ((with_reducible refine wp_store83 (o := ⟨none, .store 83 (.tmp 3) (.tmp 27), _, _, _, _⟩) ?_ (.tmp 3) (.tmp 27) ?_ (w.heap.size + 1) ?_ X (.slice ra V1.length rc) t ?_ HX9 hone none1 (.slice none 0 0) ⟨#[]⟩ rfl HZ3 ?_); (· rfl); (· rfl); (· rfl); (· rfl); simp only [Act.put, List.setIfInBounds_toArray, List.set_cons_zero, List.set_cons_succ]))
    have hfin := HZ3.row X (.slice ra V1.length rc) t
    exact bodyPost_ret (ret_step rfl (w.heap.size + 1) X (.slice ra V1.length rc) t HX9 rfl hfin) rfl ⟨_, rfl, by rw [HP1.out (by first | rfl | trivial)]; exact strs_other (w.heap.size + 1) HST3.out HN.out (fun k hk => Url.setRow_other _ _ _ (Ne.symm hk)), .inr (HN.out.mono (by omega)), below_row HB3.out (Nat.le_succ w.heap.size) _⟩

end Go.Proofs.YtkhjhiofgoampaaGreatDoor.Join

/-
  The laws' example.
-/
import Derived.Test.YtfdhhjigpboieaaGreatDoorUCatch
import Derived.Test.YtfdhhjigpboieaaGreatDoorUFew
import Derived.Test.YtfdhhjigpboieaaGreatDoorUSame
import Derived.Test.YtfdhhjigpboieaaGreatDoorULaws
namespace Go.Proofs.YtfdhhjigpboieaaGreatDoor.Url
open Go.RowKit Go.Shelf
open Host (H HostAt none0 okH mayH parH showH)
open Six (arr RowAt zero8)
open Path (Strs)
set_option linter.unusedSimpArgs false
set_option linter.unusedVariables false
set_option maxRecDepth 100000

def exS : T := [72, 84, 84, 80, 58, 47, 47, 117, 64, 65, 46, 111, 114, 103, 58, 56, 48, 47, 98, 63, 99, 35, 100]
def exR : T := [47, 47, 117, 64, 65, 46, 111, 114, 103, 58, 56, 48, 47, 98, 63, 99, 35, 100]
def exT : T := [47, 47, 117, 64, 65, 46, 111, 114, 103, 58, 56, 48, 47, 98]
def exH : T := [65, 46, 111, 114, 103]
def uA : U := ⟨http, [117], [], aH, -1, [[98]], [], [99], [100], true, true⟩
theorem exH_par : parH exH = aH := by
  have h1 : okH exH = true := by decide +kernel
  have h2 : Host.brkB exH = false := by decide +kernel
  have h3 : Four.lookB exH = false := by decide +kernel
  unfold parH
  rw [h1, h2, h3]
  rfl
theorem ex_ok : okU exS = true := by decide +kernel
theorem ex_par : parU exS = uA := by
  have h1 : Ascii.clean exS = exS := by decide +kernel
  have h2 : okS exS = true := by decide +kernel
  have h3 : schS exS = http := by decide +kernel
  have h4 : schR exS = exR := by decide +kernel
  have h5 : tA exR = exT := by decide +kernel
  have h6 : hname (place (auth exT)) = exH := by decide +kernel
  unfold parU
  rw [h1]
  unfold parS aheadU
  rw [h2, if_pos rfl, h3, h4, h5, if_neg (by decide)]
  unfold tailU webU
  rw [h6, exH_par]
  unfold uA
  rw [U.mk.injEq]
  exact ⟨rfl, by decide +kernel, by decide +kernel, rfl, by decide +kernel, by decide +kernel, rfl, by decide +kernel, by decide +kernel, by decide +kernel, by decide +kernel⟩
theorem uA_may : mayU uA = true := by rw [← ex_par]; exact par_may _ ex_ok
theorem uA_fit : Fit uA := ⟨rfl, by decide, by decide, by decide, by decide, by decide, by decide, by decide, by decide, by decide⟩
theorem uA_same : sameU uA uA = true := (same_iff _ _).2 rfl
theorem ex_sch : schB [72, 116, 116, 112, 58, 120] = true ∧ schS [72, 116, 116, 112, 58, 120] = http ∧ schR [72, 116, 116, 112, 58, 120] = [120] := by decide +kernel
theorem ex_tail : tA [97, 63, 98, 35, 99, 63, 100] = [97] ∧ tQ [97, 63, 98, 35, 99, 63, 100] = [98] ∧ tF [97, 63, 98, 35, 99, 63, 100] = [99, 63, 100] ∧ tHQ [97, 63, 98, 35, 99, 63, 100] = true ∧ tHF [97, 63, 98, 35, 99, 63, 100] = true := by decide +kernel
theorem cells_uA {W : World} {g : Nat} {pv : Value} (a : UrlAt W g uA pv) :
    W.cell? ⟨g, 0, none⟩ = some (.string ⟨#[104, 116, 116, 112]⟩) ∧ W.cell? ⟨g, 1, none⟩ = some (.string ⟨#[117]⟩) ∧ W.cell? ⟨g, 2, none⟩ = some (.string ⟨#[]⟩) ∧ W.cell? ⟨g, 3, none⟩ = some (.int .i64 1) ∧
    W.cell? ⟨g, 4, none⟩ = some (.string ⟨#[97, 46, 111, 114, 103]⟩) ∧ W.cell? ⟨g, 5, none⟩ = some (.int .i64 0) ∧ W.cell? ⟨g, 6, none⟩ = some (.int .i64 0) ∧ W.cell? ⟨g, 7, none⟩ = some (.int .i64 0) ∧ W.cell? ⟨g, 8, none⟩ = some (.int .i64 0) ∧
    W.cell? ⟨g, 9, none⟩ = some (.int .i64 0) ∧ W.cell? ⟨g, 10, none⟩ = some (.int .i64 0) ∧ W.cell? ⟨g, 11, none⟩ = some (.int .i64 0) ∧ W.cell? ⟨g, 12, none⟩ = some (.int .i64 0) ∧ W.cell? ⟨g, 13, none⟩ = some (.int .i64 0) ∧
    W.cell? ⟨g, 14, none⟩ = some (.int .i64 (-1)) ∧ W.cell? ⟨g, 15, none⟩ = some pv ∧ W.cell? ⟨g, 16, none⟩ = some (.string ⟨#[]⟩) ∧ W.cell? ⟨g, 17, none⟩ = some (.string ⟨#[99]⟩) ∧ W.cell? ⟨g, 18, none⟩ = some (.string ⟨#[100]⟩) ∧
    W.cell? ⟨g, 19, none⟩ = some (.bool true) ∧ W.cell? ⟨g, 20, none⟩ = some (.bool true) :=
  ⟨a.cell 0, a.cell 1, a.cell 2, a.cell 3, a.cell 4, a.cell 5, a.cell 6, a.cell 7, a.cell 8, a.cell 9, a.cell 10, a.cell 11, a.cell 12, a.cell 13, a.cell 14, a.cell 15, a.cell 16, a.cell 17, a.cell 18, a.cell 19, a.cell 20⟩

theorem parse_at (l : T) (hl : l.length ≤ 900) (u : U) (b : Bool) (hu : parU l = u) (hb : okU l = b) (m : Int) (w : World) (hm : Six.At m w) : Calls Tryz.prog 13 #[.string (tb l)] w (GotP w u b) := by
  subst hu
  exact parse_in (tb l) (by rw [tb_size]; exact hl) b hb m w hm
theorem new_url (u : World) : UrlAt (u.alloc (.cells #[.string ⟨#[]⟩, .string ⟨#[]⟩, .string ⟨#[]⟩, .int .i64 0, .string ⟨#[]⟩, .int .i64 0, .int .i64 0, .int .i64 0, .int .i64 0, .int .i64 0, .int .i64 0, .int .i64 0, .int .i64 0, .int .i64 0, .int .i64 0, .slice none 0 0, .string ⟨#[]⟩, .string ⟨#[]⟩, .string ⟨#[]⟩, .bool false, .bool false] 27)) u.heap.size none1 (.slice none 0 0) := UrlAt.new u none1 (.slice none 0 0)
theorem below_url (u : World) (v : U) (pv : Value) : Below u.heap.size u ((u.alloc (.cells #[.string ⟨#[]⟩, .string ⟨#[]⟩, .string ⟨#[]⟩, .int .i64 0, .string ⟨#[]⟩, .int .i64 0, .int .i64 0, .int .i64 0, .int .i64 0, .int .i64 0, .int .i64 0, .int .i64 0, .int .i64 0, .int .i64 0, .int .i64 0, .slice none 0 0, .string ⟨#[]⟩, .string ⟨#[]⟩, .string ⟨#[]⟩, .bool false, .bool false] 27)).setRow u.heap.size (cU v pv)) :=
  below_row ((Below.refl u.heap.size u).alloc (Nat.le_refl _) (.cells #[.string ⟨#[]⟩, .string ⟨#[]⟩, .string ⟨#[]⟩, .int .i64 0, .string ⟨#[]⟩, .int .i64 0, .int .i64 0, .int .i64 0, .int .i64 0, .int .i64 0, .int .i64 0, .int .i64 0, .int .i64 0, .int .i64 0, .int .i64 0, .slice none 0 0, .string ⟨#[]⟩, .string ⟨#[]⟩, .string ⟨#[]⟩, .bool false, .bool false] 27)) (Nat.le_refl _) (cU v pv)
set_option maxHeartbeats 16000000 in
theorem awake_calls (m : Int) (w : World) (hm : Six.At m w) : Calls Tryz.prog 11 #[] w fun e w' => e = .returned (.bool true) ∧ Below w.heap.size w w' := by
  have CP := parse_at exS (by decide) uA true ex_par ex_ok m w hm
  go_enter Tryz.func11, Tryz.ntmps11
  simp only [List.append_eq, List.cons_append, List.nil_append]
  go_wp2_with fail
  refine CP.mono ?_
  rintro e u1 ⟨pv, rfl, hst, hn, hB1⟩
  have hone := strs_one hst
  have hnew := new_url u1
  have HB1 := Lib.hid (Ascii.below2 hB1 (below_url u1 uA pv))
  have HM1 := Lib.hid (hm.later HB1.out)
  have HU1 := Lib.hid (hnew.row uA pv)
  have HS1 := Lib.hid (hst.later (below_url u1 uA pv))
  clear CP hn hst hB1 hm
  go_wp2_with ((with_reducible refine wp_store27 (o := ⟨none, .store 27 (.tmp 1) (.tmp 13), _, _, _, _⟩) ?_ (.tmp 1) (.tmp 13) ?_ u1.heap.size ?_ uA pv ?_ rfl hone none1 (.slice none 0 0) rfl hnew ?_); (· rfl); (· rfl); (· rfl); (· rfl))
  generalize (u1.alloc (.cells #[.string ⟨#[]⟩, .string ⟨#[]⟩, .string ⟨#[]⟩, .int .i64 0, .string ⟨#[]⟩, .int .i64 0, .int .i64 0, .int .i64 0, .int .i64 0, .int .i64 0, .int .i64 0, .int .i64 0, .int .i64 0, .int .i64 0, .int .i64 0, .slice none 0 0, .string ⟨#[]⟩, .string ⟨#[]⟩, .string ⟨#[]⟩, .bool false, .bool false] 27)).setRow u1.heap.size (cU uA pv) = v1 at HB1 HM1 HU1 HS1 ⊢
  generalize u1.heap.size = g at HU1 ⊢
  clear hnew
  refine (scheme_any (tb [72, 116, 116, 112, 58, 120]) (by decide) (tb http) (tb [120]) true (by rw [tb_list, ex_sch.2.1]) (by rw [tb_list, ex_sch.2.2]) ex_sch.1 m _ HM1.out).mono ?_
  rintro e v2 ⟨rfl, hB2⟩
  have HM2 := Lib.hid (HM1.out.later hB2)
  have HU2 := Lib.hid (HU1.out.later hB2)
  have HS2 := Lib.hid (HS1.out.later hB2)
  have HB2 := Lib.hid (Ascii.below2 HB1.out hB2)
  clear hB2 HM1 HU1 HS1 HB1
  go_wp2_with fail
  refine (tail_any (tb [97, 63, 98, 35, 99, 63, 100]) (by decide) (tb [97]) (tb [98]) (tb [99, 63, 100]) true true (by rw [tb_list, ex_tail.1]) (by rw [tb_list, ex_tail.2.1]) (by rw [tb_list, ex_tail.2.2.1]) ex_tail.2.2.2.1 ex_tail.2.2.2.2 m _ HM2.out).mono ?_
  rintro e v3 ⟨rfl, hB3⟩
  have HM3 := Lib.hid (HM2.out.later hB3)
  have HU3 := Lib.hid (HU2.out.later hB3)
  have HS3 := Lib.hid (HS2.out.later hB3)
  have HB3 := Lib.hid (Ascii.below2 HB2.out hB3)
  clear hB3 HM2 HU2 HS2 HB2
  have c0 := (cells_uA HU3.out).1
  have c1 := (cells_uA HU3.out).2.1
  rw [show tb http = (⟨#[104, 116, 116, 112]⟩ : ByteArray) from rfl, show tb [120] = (⟨#[120]⟩ : ByteArray) from rfl, show tb [97] = (⟨#[97]⟩ : ByteArray) from rfl, show tb [98] = (⟨#[98]⟩ : ByteArray) from rfl, show tb [99, 63, 100] = (⟨#[99, 63, 100]⟩ : ByteArray) from rfl]
  go_wp2_with ((with_reducible refine wp_load24u (o := ⟨some 40, .load 24 (.tmp 39), _, _, _, _⟩) ?_ (.tmp 39) ?_ g ?_ uA _ rfl HU3.out ?_); (· rfl); (· rfl); (· rfl); simp only [Act.put, List.setIfInBounds_toArray, List.set_cons_zero, List.set_cons_succ])
  clear c0 c1
  refine (Host.show_in aH rfl (by decide) ⟨#[97, 46, 111, 114, 103]⟩ (by rw [aorg_show]; rfl) m _ HM3.out).mono ?_
  rintro e v4 ⟨rfl, hB4⟩
  have HM4 := Lib.hid (HM3.out.later hB4)
  have HU4 := Lib.hid (HU3.out.later hB4)
  have HS4 := Lib.hid (HS3.out.later hB4)
  have HB4 := Lib.hid (Ascii.below2 HB3.out hB4)
  clear hB4 HM3 HU3 HS3 HB3
  obtain ⟨pb, po, pc, hpv, hp1, hp2, hpc⟩ := Path.strs1 (x := [98]) HS4.out
  subst hpv
  have hpc' : v4.cell? ⟨pb, po, none⟩ = some (.string ⟨#[98]⟩) := hpc
  have c14 := (cells_uA HU4.out).2.2.2.2.2.2.2.2.2.2.2.2.2.2.1
  have c15 := (cells_uA HU4.out).2.2.2.2.2.2.2.2.2.2.2.2.2.2.2.1
  have c17 := (cells_uA HU4.out).2.2.2.2.2.2.2.2.2.2.2.2.2.2.2.2.2.1
  have c18 := (cells_uA HU4.out).2.2.2.2.2.2.2.2.2.2.2.2.2.2.2.2.2.2.1
  have c20 := (cells_uA HU4.out).2.2.2.2.2.2.2.2.2.2.2.2.2.2.2.2.2.2.2.2
  go_wp2_with ((with_reducible refine wp_load27 (o := ⟨some 77, .load 27 (.tmp 1), _, _, _, _⟩) ?_ (.tmp 1) ?_ g ?_ uA _ rfl HU4.out ?_); (· rfl); (· rfl); (· rfl); simp only [Act.put, List.setIfInBounds_toArray, List.set_cons_zero, List.set_cons_succ])
  clear c14 c15 c17 c18 c20
  clear hpc hpc'
  refine (may_any uA (.slice (some ⟨pb, po, none⟩) 1 pc) uA_fit true uA_may m _ HM4.out HS4.out).mono ?_
  rintro e v5 ⟨rfl, hB5⟩
  have HU5 := Lib.hid (HU4.out.later hB5)
  have HS5 := Lib.hid (HS4.out.later hB5)
  have HB5 := Lib.hid (Ascii.below2 HB4.out hB5)
  clear hB5 HM4 HU4 HS4 HB4
  go_wp2_with fail
  refine (web_any (tb https) 443 (by decide) _).mono ?_
  rintro e v6 ⟨rfl, rfl⟩
  go_wp2_with (first | ((with_reducible refine wp_load27 (o := ⟨some 114, .load 27 (.tmp 1), _, _, _, _⟩) ?_ (.tmp 1) ?_ g ?_ uA _ rfl HU5.out ?_); (· rfl); (· rfl); (· rfl); simp only [Act.put, List.setIfInBounds_toArray, List.set_cons_zero, List.set_cons_succ]) | ((with_reducible refine wp_load27 (o := ⟨some 115, .load 27 (.tmp 1), _, _, _, _⟩) ?_ (.tmp 1) ?_ g ?_ uA _ rfl HU5.out ?_); (· rfl); (· rfl); (· rfl); simp only [Act.put, List.setIfInBounds_toArray, List.set_cons_zero, List.set_cons_succ]))
  refine (same_any uA uA (.slice (some ⟨pb, po, none⟩) 1 pc) (.slice (some ⟨pb, po, none⟩) 1 pc) rfl rfl true uA_same _ HS5.out HS5.out).mono ?_
  rintro e v7 ⟨rfl, hB7⟩
  go_wp2
  go_ret
  exact ⟨rfl, Ascii.below2 HB5.out hB7⟩
end Go.Proofs.YtfdhhjigpboieaaGreatDoor.Url

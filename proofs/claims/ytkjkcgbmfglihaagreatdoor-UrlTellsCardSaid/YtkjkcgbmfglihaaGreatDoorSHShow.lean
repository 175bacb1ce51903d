/-
  show's Show.
-/
import Derived.Test.YtkjkcgbmfglihaaGreatDoorSHDoor
namespace Go.Proofs.YtkjkcgbmfglihaaGreatDoor.Show
open Go.RowKit Go.Shelf
open Url
open Host (none0 showH)
open Path (Strs)
set_option linter.unusedSimpArgs false
set_option linter.unusedVariables false
set_option maxRecDepth 100000

theorem len_of {L p R X : T} {B : Nat} (h : L ++ (p ++ R) = X) (hX : X.length ≤ B) : L.length + p.length ≤ B := by
  rw [← h] at hX
  simp only [List.length_append] at hX
  omega
theorem len_one {L p R X : T} {B : Nat} (h : L ++ (p ++ R) = X) (hX : X.length ≤ B) (q : T) (hq : q.length ≤ 1000010) (hB : B + 1000010 ≤ 140737488355328) : L.length + q.length ≤ 140737488355328 := by
  have := len_of h hX
  omega
theorem shift {L p R X : T} (h : L ++ (p ++ R) = X) : (L ++ p) ++ R = X := by rw [List.append_assoc]; exact h
/-- What is told, part by part. -/
theorem text_parts {u : U} (h : mayU u = true) (c : Bool) (hc : (!decide (webI u.sch = 0)) = c) (us : Bool) (hus : (!u.usr.isEmpty || !u.pas.isEmpty) = us) :
    ([] : T) ++ (u.sch ++ ([58] ++ (u.opq ++ ((if c = true then [[47], [47]].flatten else []) ++ ((if us = true then [u.usr].flatten else []) ++ ((if (!u.pas.isEmpty) = true then [[58], u.pas].flatten else []) ++ ((if us = true then [[64]].flatten else []) ++ (doorU u ++ (Path.show1 u.path ++
      ((if u.hq = true then [[63], u.qry].flatten else []) ++ ((if u.hf = true then [[35], u.frg].flatten else []) ++ []))))))))))) = textU u := by
  have hq : (if u.hq = true then [[63], u.qry].flatten else []) = qT u := by unfold qT; cases u.hq <;> simp
  have hf : (if u.hf = true then [[35], u.frg].flatten else []) = fT u := by unfold fT; cases u.hf <;> simp
  rw [hq, hf]
  unfold textU midT
  rcases (may_parts h).2 with ⟨hw, k⟩ | ⟨hw, k⟩
  · have e : c = true := by rw [← hc, decide_eq_false hw]; rfl
    have ed : doorU u = doorT u := by unfold doorU; rw [h, decide_eq_false hw]; rfl
    rw [if_neg hw, e, k.opq, ed]
    unfold restT userT
    rw [← hus]
    cases h1 : u.usr with
    | nil => cases h2 : u.pas with
      | nil => simp
      | cons y s => simp
    | cons y s => cases h2 : u.pas with
      | nil => simp
      | cons z t => simp
  · have e : c = false := by rw [← hc, hw]; rfl
    have ed : doorU u = [] := by unfold doorU; rw [h, hw]; rfl
    rw [if_pos hw, e, ed, k.path, ← hus, k.usr, k.pas]
    simp [Path.show1]
theorem text_len (u : U) (hf : Fit u) (h : mayU u = true) : (textU u).length ≤ 100000000000 := by
  have h1 := hf.sch
  have h2 := hf.usr
  have h3 := hf.pas
  have h4 := hf.opq
  have h5 := hf.qry
  have h6 := hf.frg
  have h7 := host_len u hf
  have h8 := Path.show_len u.path hf.pt
  have h9 := hf.pn
  have hp : (portT u).length ≤ 21 := by
    unfold portT
    split
    · exact Nat.zero_le _
    · rename_i hne
      have : -1 ≤ u.port ∧ u.port ≤ 65535 := by
        rcases (may_parts h).2 with ⟨_, k⟩ | ⟨_, k⟩
        · exact ⟨k.p1, k.p2⟩
        · exact absurd k.port hne
      have := port_len u (by omega) (by omega)
      rw [List.length_cons]; omega
  have hu : (userT u).length ≤ 2000010 := by
    unfold userT
    split
    · exact Nat.zero_le _
    · split <;> simp <;> omega
  have hm : (midT u).length ≤ 20000000000 := by
    unfold midT
    split
    · omega
    · unfold restT doorT
      simp only [List.length_cons, List.length_append]
      omega
  have hq : (qT u).length ≤ 1000001 := by unfold qT; split <;> simp; omega
  have hff : (fT u).length ≤ 1000001 := by unfold fT; split <;> simp; omega
  unfold textU
  simp only [List.length_cons, List.length_append]
  omega
set_option maxHeartbeats 64000000 in
theorem show_any (u : U) (pv : Value) (hf : Fit u) (x : ByteArray) (hx : tb (showU u) = x) (m : Int) (w : World) (hm : Six.At m w) (hs : Strs w pv u.path) :
    Calls Tryz.prog 29 #[.agg (cU u pv)] w fun e w' => e = .returned (.string x) ∧ Below w.heap.size w w' := by
  have H8 := hf.h8
  have HF := Lib.hid hf
  have HB0 := Lib.hid (show Below w.heap.size w (w.alloc (.cells (cU u pv) 27)) from (Below.refl _ w).alloc (Nat.le_refl _) _)
  have HU := Lib.hid (UrlAt.new w u pv)
  have HM := Lib.hid hm
  have HS := Lib.hid hs
  obtain ⟨b, hb⟩ : ∃ b, mayU u = b := ⟨_, rfl⟩
  have CM := Lib.hid (fun v hm hs => may_any u pv hf b hb m v hm hs)
  cases b
  · have hx' : x = ⟨#[]⟩ := by rw [← hx]; unfold showU; rw [hb]; rfl
    subst hx'
    go_enter Tryz.func29, Tryz.ntmps29
    go_wp2_with ((with_reducible refine wp_load27 (o := ⟨some 7, .load 27 (.tmp 1), _, _, _, _⟩) ?_ (.tmp 1) ?_ w.heap.size ?_ u pv H8 HU.out ?_); (· rfl); (· rfl); (· rfl); simp only [Act.put, List.setIfInBounds_toArray, List.set_cons_zero, List.set_cons_succ])
    refine (CM.out _ (hm.later HB0.out) (hs.later HB0.out)).mono ?_
    rintro e u1 ⟨rfl, hB1⟩
    go_wp2
    go_ret
    exact ⟨rfl, Ascii.below2 HB0.out hB1⟩
  obtain ⟨c, hc⟩ : ∃ c, (!decide (webI u.sch = 0)) = c := ⟨_, rfl⟩
  obtain ⟨us, hus⟩ : ∃ us, (!u.usr.isEmpty || !u.pas.isEmpty) = us := ⟨_, rfl⟩
  have CW := Lib.hid (fun v => ofWeb_any u pv H8 c hc v)
  have CD := Lib.hid (fun v hm hs => door_any u pv hf (tb (doorU u)) rfl m v hm hs)
  have HDL := Lib.hid (show (doorU u).length ≤ 200 by
    unfold doorU
    split
    · unfold doorT
      have := host_len u hf
      have : (portT u).length ≤ 21 := by
        unfold portT
        split
        · exact Nat.zero_le _
        · rename_i hne
          have : -1 ≤ u.port ∧ u.port ≤ 65535 := by
            rcases (may_parts hb).2 with ⟨_, k⟩ | ⟨_, k⟩
            · exact ⟨k.p1, k.p2⟩
            · exact absurd k.port hne
          have := port_len u (by omega) (by omega)
          rw [List.length_cons]; omega
      rw [List.length_append]; omega
    · exact Nat.zero_le _)
  have CPS := Lib.hid (fun v hs => Path.show_any pv u.path (by have := hf.pn; omega) hf.pt v hs)
  have HE := Lib.hid (text_parts hb c hc us hus)
  have HL := Lib.hid (text_len u hf hb)
  have HX := Lib.hid (show tb (textU u) = x by rw [← hx]; unfold showU; rw [hb, if_pos rfl])
  have q1 := empty_tb u.usr
  have q2 := empty_tb u.pas
  clear hb hc hx hm hs hf
  generalize u.pas.isEmpty = ep at HE q2 hus
  generalize u.usr.isEmpty = eu at HE q1 hus
  have hsz : w.heap.size ≤ w.heap.size := Nat.le_refl _
  go_enter Tryz.func29, Tryz.ntmps29
  go_wp2_with ((with_reducible refine wp_load27 (o := ⟨some 7, .load 27 (.tmp 1), _, _, _, _⟩) ?_ (.tmp 1) ?_ w.heap.size ?_ u pv H8 HU.out ?_); (· rfl); (· rfl); (· rfl); simp only [Act.put, List.setIfInBounds_toArray, List.set_cons_zero, List.set_cons_succ])
  refine (CM.out _ (HM.out.later HB0.out) (HS.out.later HB0.out)).mono ?_
  rintro e u1 ⟨rfl, hB1⟩
  have HB1 := Lib.hid (Ascii.below2 HB0.out hB1)
  have HU1 := Lib.hid (HU.out.later hB1)
  clear hB1 CM HB0 HU hsz
  go_wp2_with fail
  refine (ifThere_any _ _).mono ?_
  rintro e u3 ⟨rfl, rfl⟩
  have HO := Lib.hid (out_new HB1.out HU1.out)
  rw [show (u1.alloc (.cells #[.pointer none, .slice none 0 0] 64)).heap.size = u1.heap.size + 1 from Array.size_push _]
  generalize (u1.alloc (.cells #[.pointer none, .slice none 0 0] 64)).alloc (.cells #[putV u1.heap.size] 65) = z3 at HO ⊢
  generalize u1.heap.size = gb at HO ⊢
  clear HB1 HU1
  cases eu
  · have hus1 : us = true := by rw [← hus]; rfl
    subst hus1
    clear hus
    have c1 := HO.out.url.cell 1
    rw [(cU_at u pv H8).2.1] at c1
    have c2 := HO.out.url.cell 2
    rw [(cU_at u pv H8).2.2.1] at c2
    have c0 := HO.out.url.cell 0
    rw [(cU_at u pv H8).1] at c0
    go_wp2_with fail
    clear c1 c2 c0
    refine (put_out HO.out u.sch (len_one HE.out HL.out u.sch (by have := HF.out.sch; omega) (by omega))).mono ?_
    rintro e z4 ⟨rfl, hO, _⟩
    have HE' := Lib.hid (shift HE.out)
    have HO' := Lib.hid hO
    clear hO HO HE
    have HO := HO'
    have HE := HE'
    clear HO' HE'
    go_wp2_with fail
    refine (put_out HO.out [58] (len_one HE.out HL.out [58] (by simp) (by omega))).mono ?_
    rintro e z5 ⟨rfl, hO, _⟩
    have HE' := Lib.hid (shift HE.out)
    have HO' := Lib.hid hO
    clear hO HO HE
    have HO := HO'
    have HE := HE'
    clear HO' HE'
    have c16 := HO.out.url.cell 16
    rw [(cU_at u pv H8).2.2.2.2.2.2.1] at c16
    go_wp2_with fail
    clear c16
    refine (put_out HO.out u.opq (len_one HE.out HL.out u.opq (by have := HF.out.opq; omega) (by omega))).mono ?_
    rintro e z6 ⟨rfl, hO, _⟩
    have HE' := Lib.hid (shift HE.out)
    have HO' := Lib.hid hO
    clear hO HO HE
    have HO := HO'
    have HE := HE'
    clear HO' HE'
    have hUl := HO.out.url
    go_wp2_with ((with_reducible refine wp_load27 (o := ⟨some 32, .load 27 (.tmp 1), _, _, _, _⟩) ?_ (.tmp 1) ?_ w.heap.size ?_ u pv H8 hUl ?_); (· rfl); (· rfl); (· rfl); simp only [Act.put, List.setIfInBounds_toArray, List.set_cons_zero, List.set_cons_succ])
    refine (CW.out _).mono ?_
    rintro e z7 ⟨rfl, hB⟩
    have HO' := Lib.hid (HO.out.later hB)
    clear hB HO
    have HO := HO'
    clear HO'
    clear hUl
    go_wp2_with fail
    refine (putIf_out c [[47], [47]] (by simp) z7.heap.size 2 rfl (HO.out.later ((Below.refl z7.heap.size z7).alloc (Nat.le_refl _) _)) (heap_alloc_new z7 _) (len_one HE.out HL.out _ (by simp) (by omega))).mono ?_
    rintro e z8 ⟨rfl, hO⟩
    have HE' := Lib.hid (shift HE.out)
    have HO' := Lib.hid hO
    clear hO HO HE
    have HO := HO'
    have HE := HE'
    clear HO' HE'
    have c1 := HO.out.url.cell 1
    rw [(cU_at u pv H8).2.1] at c1
    go_wp2_with fail
    clear c1
    refine (putIf_out true [u.usr] (by simp) z8.heap.size 1 rfl (HO.out.later ((Below.refl z8.heap.size z8).alloc (Nat.le_refl _) _)) (heap_alloc_new z8 _) (len_one HE.out HL.out _ (by have := HF.out.usr; simp; omega) (by omega))).mono ?_
    rintro e z9 ⟨rfl, hO⟩
    have HE' := Lib.hid (shift HE.out)
    have HO' := Lib.hid hO
    clear hO HO HE
    have HO := HO'
    have HE := HE'
    clear HO' HE'
    have c2 := HO.out.url.cell 2
    rw [(cU_at u pv H8).2.2.1] at c2
    go_wp2_with fail
    clear c2
    refine (putIf_out (!ep) [[58], u.pas] (by simp) z9.heap.size 2 rfl (HO.out.later ((Below.refl z9.heap.size z9).alloc (Nat.le_refl _) _)) (heap_alloc_new z9 _) (len_one HE.out HL.out _ (by have := HF.out.pas; simp; omega) (by omega))).mono ?_
    rintro e z10 ⟨rfl, hO⟩
    have HE' := Lib.hid (shift HE.out)
    have HO' := Lib.hid hO
    clear hO HO HE
    have HO := HO'
    have HE := HE'
    clear HO' HE'
    go_wp2_with fail
    refine (putIf_out true [[64]] (by simp) z10.heap.size 1 rfl (HO.out.later ((Below.refl z10.heap.size z10).alloc (Nat.le_refl _) _)) (heap_alloc_new z10 _) (len_one HE.out HL.out _ (by simp) (by omega))).mono ?_
    rintro e z11 ⟨rfl, hO⟩
    have HE' := Lib.hid (shift HE.out)
    have HO' := Lib.hid hO
    clear hO HO HE
    have HO := HO'
    have HE := HE'
    clear HO' HE'
    have hUl := HO.out.url
    have HMx := HM.out.later HO.out.bel
    go_wp2_with ((with_reducible refine wp_load27 (o := ⟨some 55, .load 27 (.tmp 1), _, _, _, _⟩) ?_ (.tmp 1) ?_ w.heap.size ?_ u pv H8 hUl ?_); (· rfl); (· rfl); (· rfl); simp only [Act.put, List.setIfInBounds_toArray, List.set_cons_zero, List.set_cons_succ])
    refine (CD.out _ HMx (HS.out.later HO.out.bel)).mono ?_
    rintro e z12 ⟨rfl, hB⟩
    have HO' := Lib.hid (HO.out.later hB)
    clear hB HO
    have HO := HO'
    clear HO'
    clear hUl HMx
    go_wp2_with fail
    refine (put_out HO.out (doorU u) (len_one HE.out HL.out (doorU u) (by have := HDL.out; omega) (by omega))).mono ?_
    rintro e z13 ⟨rfl, hO, _⟩
    have HE' := Lib.hid (shift HE.out)
    have HO' := Lib.hid hO
    clear hO HO HE
    have HO := HO'
    have HE := HE'
    clear HO' HE'
    have c15 := HO.out.url.cell 15
    rw [(cU_at u pv H8).2.2.2.2.2.1] at c15
    go_wp2_with fail
    clear c15
    refine (CPS.out _ (HS.out.later HO.out.bel)).mono ?_
    rintro e z14 ⟨rfl, hB⟩
    have HO' := Lib.hid (HO.out.later hB)
    clear hB HO
    have HO := HO'
    clear HO'
    go_wp2_with fail
    refine (put_out HO.out (Path.show1 u.path) (by have := len_of HE.out HL.out; omega)).mono ?_
    rintro e z15 ⟨rfl, hO, _⟩
    have HE' := Lib.hid (shift HE.out)
    have HO' := Lib.hid hO
    clear hO HO HE
    have HO := HO'
    have HE := HE'
    clear HO' HE'
    have c19 := HO.out.url.cell 19
    rw [(cU_at u pv H8).2.2.2.2.2.2.2.2.2.1] at c19
    have c17 := HO.out.url.cell 17
    rw [(cU_at u pv H8).2.2.2.2.2.2.2.1] at c17
    go_wp2_with fail
    clear c19 c17
    refine (putIf_out u.hq [[63], u.qry] (by simp) z15.heap.size 2 rfl (HO.out.later ((Below.refl z15.heap.size z15).alloc (Nat.le_refl _) _)) (heap_alloc_new z15 _) (len_one HE.out HL.out _ (by have := HF.out.qry; simp; omega) (by omega))).mono ?_
    rintro e z16 ⟨rfl, hO⟩
    have HE' := Lib.hid (shift HE.out)
    have HO' := Lib.hid hO
    clear hO HO HE
    have HO := HO'
    have HE := HE'
    clear HO' HE'
    have c20 := HO.out.url.cell 20
    rw [(cU_at u pv H8).2.2.2.2.2.2.2.2.2.2] at c20
    have c18 := HO.out.url.cell 18
    rw [(cU_at u pv H8).2.2.2.2.2.2.2.2.1] at c18
    go_wp2_with fail
    clear c20 c18
    refine (putIf_out u.hf [[35], u.frg] (by simp) z16.heap.size 2 rfl (HO.out.later ((Below.refl z16.heap.size z16).alloc (Nat.le_refl _) _)) (heap_alloc_new z16 _) (len_one HE.out HL.out _ (by have := HF.out.frg; simp; omega) (by omega))).mono ?_
    rintro e z17 ⟨rfl, hO⟩
    have HE' := Lib.hid (shift HE.out)
    have HO' := Lib.hid hO
    clear hO HO HE
    have HO := HO'
    have HE := HE'
    clear HO' HE'
    have hE := HE.out
    rw [List.append_nil] at hE
    have HO' := HO.out
    rw [hE] at HO'
    clear HO HE hE
    go_wp2_with fail
    refine (Tryz.Builder_String_any_f w.heap.size gb (textU u) z17 HO'.bld HO'.bel.size).mono ?_
    rintro e z18 ⟨rfl, _, hB⟩
    have HT : (⟨(textU u).toArray⟩ : ByteArray) = x := HX.out
    go_wp2
    go_ret
    exact ⟨rfl, HO'.bel.trans hB⟩
  · have hus1 : us = (!ep) := by rw [← hus]; rfl
    subst hus1
    clear hus
    have c1 := HO.out.url.cell 1
    rw [(cU_at u pv H8).2.1] at c1
    have c2 := HO.out.url.cell 2
    rw [(cU_at u pv H8).2.2.1] at c2
    have c0 := HO.out.url.cell 0
    rw [(cU_at u pv H8).1] at c0
    go_wp2_with fail
    clear c1 c2 c0
    refine (put_out HO.out u.sch (len_one HE.out HL.out u.sch (by have := HF.out.sch; omega) (by omega))).mono ?_
    rintro e z4 ⟨rfl, hO, _⟩
    have HE' := Lib.hid (shift HE.out)
    have HO' := Lib.hid hO
    clear hO HO HE
    have HO := HO'
    have HE := HE'
    clear HO' HE'
    go_wp2_with fail
    refine (put_out HO.out [58] (len_one HE.out HL.out [58] (by simp) (by omega))).mono ?_
    rintro e z5 ⟨rfl, hO, _⟩
    have HE' := Lib.hid (shift HE.out)
    have HO' := Lib.hid hO
    clear hO HO HE
    have HO := HO'
    have HE := HE'
    clear HO' HE'
    have c16 := HO.out.url.cell 16
    rw [(cU_at u pv H8).2.2.2.2.2.2.1] at c16
    go_wp2_with fail
    clear c16
    refine (put_out HO.out u.opq (len_one HE.out HL.out u.opq (by have := HF.out.opq; omega) (by omega))).mono ?_
    rintro e z6 ⟨rfl, hO, _⟩
    have HE' := Lib.hid (shift HE.out)
    have HO' := Lib.hid hO
    clear hO HO HE
    have HO := HO'
    have HE := HE'
    clear HO' HE'
    have hUl := HO.out.url
    go_wp2_with ((with_reducible refine wp_load27 (o := ⟨some 32, .load 27 (.tmp 1), _, _, _, _⟩) ?_ (.tmp 1) ?_ w.heap.size ?_ u pv H8 hUl ?_); (· rfl); (· rfl); (· rfl); simp only [Act.put, List.setIfInBounds_toArray, List.set_cons_zero, List.set_cons_succ])
    refine (CW.out _).mono ?_
    rintro e z7 ⟨rfl, hB⟩
    have HO' := Lib.hid (HO.out.later hB)
    clear hB HO
    have HO := HO'
    clear HO'
    clear hUl
    go_wp2_with fail
    refine (putIf_out c [[47], [47]] (by simp) z7.heap.size 2 rfl (HO.out.later ((Below.refl z7.heap.size z7).alloc (Nat.le_refl _) _)) (heap_alloc_new z7 _) (len_one HE.out HL.out _ (by simp) (by omega))).mono ?_
    rintro e z8 ⟨rfl, hO⟩
    have HE' := Lib.hid (shift HE.out)
    have HO' := Lib.hid hO
    clear hO HO HE
    have HO := HO'
    have HE := HE'
    clear HO' HE'
    have c1 := HO.out.url.cell 1
    rw [(cU_at u pv H8).2.1] at c1
    go_wp2_with fail
    clear c1
    refine (putIf_out (!ep) [u.usr] (by simp) z8.heap.size 1 rfl (HO.out.later ((Below.refl z8.heap.size z8).alloc (Nat.le_refl _) _)) (heap_alloc_new z8 _) (len_one HE.out HL.out _ (by have := HF.out.usr; simp; omega) (by omega))).mono ?_
    rintro e z9 ⟨rfl, hO⟩
    have HE' := Lib.hid (shift HE.out)
    have HO' := Lib.hid hO
    clear hO HO HE
    have HO := HO'
    have HE := HE'
    clear HO' HE'
    have c2 := HO.out.url.cell 2
    rw [(cU_at u pv H8).2.2.1] at c2
    go_wp2_with fail
    clear c2
    refine (putIf_out (!ep) [[58], u.pas] (by simp) z9.heap.size 2 rfl (HO.out.later ((Below.refl z9.heap.size z9).alloc (Nat.le_refl _) _)) (heap_alloc_new z9 _) (len_one HE.out HL.out _ (by have := HF.out.pas; simp; omega) (by omega))).mono ?_
    rintro e z10 ⟨rfl, hO⟩
    have HE' := Lib.hid (shift HE.out)
    have HO' := Lib.hid hO
    clear hO HO HE
    have HO := HO'
    have HE := HE'
    clear HO' HE'
    go_wp2_with fail
    refine (putIf_out (!ep) [[64]] (by simp) z10.heap.size 1 rfl (HO.out.later ((Below.refl z10.heap.size z10).alloc (Nat.le_refl _) _)) (heap_alloc_new z10 _) (len_one HE.out HL.out _ (by simp) (by omega))).mono ?_
    rintro e z11 ⟨rfl, hO⟩
    have HE' := Lib.hid (shift HE.out)
    have HO' := Lib.hid hO
    clear hO HO HE
    have HO := HO'
    have HE := HE'
    clear HO' HE'
    have hUl := HO.out.url
    have HMx := HM.out.later HO.out.bel
    go_wp2_with ((with_reducible refine wp_load27 (o := ⟨some 55, .load 27 (.tmp 1), _, _, _, _⟩) ?_ (.tmp 1) ?_ w.heap.size ?_ u pv H8 hUl ?_); (· rfl); (· rfl); (· rfl); simp only [Act.put, List.setIfInBounds_toArray, List.set_cons_zero, List.set_cons_succ])
    refine (CD.out _ HMx (HS.out.later HO.out.bel)).mono ?_
    rintro e z12 ⟨rfl, hB⟩
    have HO' := Lib.hid (HO.out.later hB)
    clear hB HO
    have HO := HO'
    clear HO'
    clear hUl HMx
    go_wp2_with fail
    refine (put_out HO.out (doorU u) (len_one HE.out HL.out (doorU u) (by have := HDL.out; omega) (by omega))).mono ?_
    rintro e z13 ⟨rfl, hO, _⟩
    have HE' := Lib.hid (shift HE.out)
    have HO' := Lib.hid hO
    clear hO HO HE
    have HO := HO'
    have HE := HE'
    clear HO' HE'
    have c15 := HO.out.url.cell 15
    rw [(cU_at u pv H8).2.2.2.2.2.1] at c15
    go_wp2_with fail
    clear c15
    refine (CPS.out _ (HS.out.later HO.out.bel)).mono ?_
    rintro e z14 ⟨rfl, hB⟩
    have HO' := Lib.hid (HO.out.later hB)
    clear hB HO
    have HO := HO'
    clear HO'
    go_wp2_with fail
    refine (put_out HO.out (Path.show1 u.path) (by have := len_of HE.out HL.out; omega)).mono ?_
    rintro e z15 ⟨rfl, hO, _⟩
    have HE' := Lib.hid (shift HE.out)
    have HO' := Lib.hid hO
    clear hO HO HE
    have HO := HO'
    have HE := HE'
    clear HO' HE'
    have c19 := HO.out.url.cell 19
    rw [(cU_at u pv H8).2.2.2.2.2.2.2.2.2.1] at c19
    have c17 := HO.out.url.cell 17
    rw [(cU_at u pv H8).2.2.2.2.2.2.2.1] at c17
    go_wp2_with fail
    clear c19 c17
    refine (putIf_out u.hq [[63], u.qry] (by simp) z15.heap.size 2 rfl (HO.out.later ((Below.refl z15.heap.size z15).alloc (Nat.le_refl _) _)) (heap_alloc_new z15 _) (len_one HE.out HL.out _ (by have := HF.out.qry; simp; omega) (by omega))).mono ?_
    rintro e z16 ⟨rfl, hO⟩
    have HE' := Lib.hid (shift HE.out)
    have HO' := Lib.hid hO
    clear hO HO HE
    have HO := HO'
    have HE := HE'
    clear HO' HE'
    have c20 := HO.out.url.cell 20
    rw [(cU_at u pv H8).2.2.2.2.2.2.2.2.2.2] at c20
    have c18 := HO.out.url.cell 18
    rw [(cU_at u pv H8).2.2.2.2.2.2.2.2.1] at c18
    go_wp2_with fail
    clear c20 c18
    refine (putIf_out u.hf [[35], u.frg] (by simp) z16.heap.size 2 rfl (HO.out.later ((Below.refl z16.heap.size z16).alloc (Nat.le_refl _) _)) (heap_alloc_new z16 _) (len_one HE.out HL.out _ (by have := HF.out.frg; simp; omega) (by omega))).mono ?_
    rintro e z17 ⟨rfl, hO⟩
    have HE' := Lib.hid (shift HE.out)
    have HO' := Lib.hid hO
    clear hO HO HE
    have HO := HO'
    have HE := HE'
    clear HO' HE'
    have hE := HE.out
    rw [List.append_nil] at hE
    have HO' := HO.out
    rw [hE] at HO'
    clear HO HE hE
    go_wp2_with fail
    refine (Tryz.Builder_String_any_f w.heap.size gb (textU u) z17 HO'.bld HO'.bel.size).mono ?_
    rintro e z18 ⟨rfl, _, hB⟩
    have HT : (⟨(textU u).toArray⟩ : ByteArray) = x := HX.out
    go_wp2
    go_ret
    exact ⟨rfl, HO'.bel.trans hB⟩
end Go.Proofs.YtkjkcgbmfglihaaGreatDoor.Show

/-
  show's Show.
  The chapter's example.
  How long the texts of addresses are; what is shown is parsed.
-/
import Derived.Test.YtbmnhmbicefemaaGreatDoorShowA
namespace Go.Proofs.YtbmnhmbicefemaaGreatDoor.Show
set_option linter.unusedSimpArgs false
set_option linter.unusedVariables false
set_option maxRecDepth 100000


open Go.RowKit Go.Shelf

open Url

open Host (none0 showH)

open Path (Strs)

set_option maxRecDepth 100000

theorem len_of {L p R X : T} {B : Nat} (h : L ++ (p ++ R) = X) (hX : X.length ≤ B) : L.length + p.length ≤ B := by
  rw [← h] at hX
  simp only [List.length_append] at hX
  omega

theorem len_one {L p R X : T} {B : Nat} (h : L ++ (p ++ R) = X) (hX : X.length ≤ B) (q : T) (hq : q.length ≤ 1000010) (hB : B + 1000010 ≤ 140737488355328) : L.length + q.length ≤ 140737488355328 := by
  have := len_of h hX
  omega

theorem shift {L p R X : T} (h : L ++ (p ++ R) = X) : (L ++ p) ++ R = X := by rw [List.append_assoc]; exact h

/-- What is told, part by part. -/
theorem text_parts {u : U} (h : mayU u = true) (c : Bool) (hc : (!decide (webI u.sch = 0)) = c) (us : Bool) (hus : (!u.usr.isEmpty || !u.pas.isEmpty) = us) :
    ([] : T) ++ (u.sch ++ ([58] ++ (u.opq ++ ((if c = true then [[47], [47]].flatten else []) ++ ((if us = true then [u.usr].flatten else []) ++ ((if (!u.pas.isEmpty) = true then [[58], u.pas].flatten else []) ++ ((if us = true then [[64]].flatten else []) ++ (doorU u ++ (Path.show1 u.path ++
      ((if u.hq = true then [[63], u.qry].flatten else []) ++ ((if u.hf = true then [[35], u.frg].flatten else []) ++ []))))))))))) = textU u := by
  have hq : (if u.hq = true then [[63], u.qry].flatten else []) = qT u := by unfold qT; cases u.hq <;> simp
  have hf : (if u.hf = true then [[35], u.frg].flatten else []) = fT u := by unfold fT; cases u.hf <;> simp
  rw [hq, hf]
  unfold textU midT
  rcases (may_parts h).2 with ⟨hw, k⟩ | ⟨hw, k⟩
  · have e : c = true := by rw [← hc, decide_eq_false hw]; rfl
    have ed : doorU u = doorT u := by unfold doorU; rw [h, decide_eq_false hw]; rfl
    rw [if_neg hw, e, k.opq, ed]
    unfold restT userT
    rw [← hus]
    cases h1 : u.usr with
    | nil => cases h2 : u.pas with
      | nil => simp
      | cons y s => simp
    | cons y s => cases h2 : u.pas with
      | nil => simp
      | cons z t => simp
  · have e : c = false := by rw [← hc, hw]; rfl
    have ed : doorU u = [] := by unfold doorU; rw [h, hw]; rfl
    rw [if_pos hw, e, ed, k.path, ← hus, k.usr, k.pas]
    simp [Path.show1]

theorem text_len (u : U) (hf : Fit u) (h : mayU u = true) : (textU u).length ≤ 100000000000 := by
  have h1 := hf.sch
  have h2 := hf.usr
  have h3 := hf.pas
  have h4 := hf.opq
  have h5 := hf.qry
  have h6 := hf.frg
  have h7 := host_len u hf
  have h8 := Path.show_len u.path hf.pt
  have h9 := hf.pn
  have hp : (portT u).length ≤ 21 := by
    unfold portT
    split
    · exact Nat.zero_le _
    · rename_i hne
      have : -1 ≤ u.port ∧ u.port ≤ 65535 := by
        rcases (may_parts h).2 with ⟨_, k⟩ | ⟨_, k⟩
        · exact ⟨k.p1, k.p2⟩
        · exact absurd k.port hne
      have := port_len u (by omega) (by omega)
      rw [List.length_cons]; omega
  have hu : (userT u).length ≤ 2000010 := by
    unfold userT
    split
    · exact Nat.zero_le _
    · split <;> simp <;> omega
  have hm : (midT u).length ≤ 20000000000 := by
    unfold midT
    split
    · omega
    · unfold restT doorT
      simp only [List.length_cons, List.length_append]
      omega
  have hq : (qT u).length ≤ 1000001 := by unfold qT; split <;> simp; omega
  have hff : (fT u).length ≤ 1000001 := by unfold fT; split <;> simp; omega
  unfold textU
  simp only [List.length_cons, List.length_append]
  omega

set_option maxHeartbeats 64000000 in
theorem show_any' (u : U) (pv : Value) (hf : Fit u) (x : ByteArray) (hx : tb (showU u) = x) (m : Int) (w : World) (hm : Six.At m w) (hs : Strs w pv u.path) (hk : u.h.k = 3 → Six.Known) :
    Calls Tryz.prog 286 #[.agg (cU u pv)] w fun e w' => e = .returned (.string x) ∧ Below w.heap.size w w' := by
  have H8 := hf.h8
  have HF := Lib.hid hf
  have HB0 := Lib.hid (show Below w.heap.size w (w.alloc (.cells (cU u pv) 27)) from (Below.refl _ w).alloc (Nat.le_refl _) _)
  have HU := Lib.hid (UrlAt.new w u pv)
  have HM := Lib.hid hm
  have HS := Lib.hid hs
  obtain ⟨b, hb⟩ : ∃ b, mayU u = b := ⟨_, rfl⟩
  have CM := Lib.hid (fun v hm hs => may_any u pv hf b hb m v hm hs)
  cases b
  · have hx' : x = ⟨#[]⟩ := by rw [← hx]; unfold showU; rw [hb]; rfl
    subst hx'
    go_enter Tryz.func286, Tryz.ntmps286
    go_wp2_with ((with_reducible refine wp_load27 (o := ⟨some 7, .load 27 (.tmp 1), _, _, _, _⟩) ?_ (.tmp 1) ?_ w.heap.size ?_ u pv H8 HU.out ?_); (· rfl); (· rfl); (· rfl); simp only [Act.put, List.setIfInBounds_toArray, List.set_cons_zero, List.set_cons_succ])
    refine (CM.out _ (hm.later HB0.out) (hs.later HB0.out)).mono ?_
    rintro e u1 ⟨rfl, hB1⟩
    go_wp2
    go_ret
    exact ⟨rfl, Ascii.below2 HB0.out hB1⟩
  obtain ⟨c, hc⟩ : ∃ c, (!decide (webI u.sch = 0)) = c := ⟨_, rfl⟩
  obtain ⟨us, hus⟩ : ∃ us, (!u.usr.isEmpty || !u.pas.isEmpty) = us := ⟨_, rfl⟩
  have CW := Lib.hid (fun v => ofWeb_any u pv H8 c hc v)
  have CD := Lib.hid (fun v hm hs => door_any' u pv hf (tb (doorU u)) rfl m v hm hs hk)
  have HDL := Lib.hid (show (doorU u).length ≤ 200 by
    unfold doorU
    split
    · unfold doorT
      have := host_len u hf
      have : (portT u).length ≤ 21 := by
        unfold portT
        split
        · exact Nat.zero_le _
        · rename_i hne
          have : -1 ≤ u.port ∧ u.port ≤ 65535 := by
            rcases (may_parts hb).2 with ⟨_, k⟩ | ⟨_, k⟩
            · exact ⟨k.p1, k.p2⟩
            · exact absurd k.port hne
          have := port_len u (by omega) (by omega)
          rw [List.length_cons]; omega
      rw [List.length_append]; omega
    · exact Nat.zero_le _)
  have CPS := Lib.hid (fun v hs => Path.show_any pv u.path (by have := hf.pn; omega) hf.pt v hs)
  have HE := Lib.hid (text_parts hb c hc us hus)
  have HL := Lib.hid (text_len u hf hb)
  have HX := Lib.hid (show tb (textU u) = x by rw [← hx]; unfold showU; rw [hb, if_pos rfl])
  have q1 := empty_tb u.usr
  have q2 := empty_tb u.pas
  clear hb hc hx hm hs hf
  generalize u.pas.isEmpty = ep at HE q2 hus
  generalize u.usr.isEmpty = eu at HE q1 hus
  have hsz : w.heap.size ≤ w.heap.size := Nat.le_refl _
  go_enter Tryz.func286, Tryz.ntmps286
  go_wp2_with ((with_reducible refine wp_load27 (o := ⟨some 7, .load 27 (.tmp 1), _, _, _, _⟩) ?_ (.tmp 1) ?_ w.heap.size ?_ u pv H8 HU.out ?_); (· rfl); (· rfl); (· rfl); simp only [Act.put, List.setIfInBounds_toArray, List.set_cons_zero, List.set_cons_succ])
  refine (CM.out _ (HM.out.later HB0.out) (HS.out.later HB0.out)).mono ?_
  rintro e u1 ⟨rfl, hB1⟩
  have HB1 := Lib.hid (Ascii.below2 HB0.out hB1)
  have HU1 := Lib.hid (HU.out.later hB1)
  clear hB1 CM HB0 HU hsz
  go_wp2_with fail
  refine (ifThere_any _ _).mono ?_
  rintro e u3 ⟨rfl, rfl⟩
  have HO := Lib.hid (out_new HB1.out HU1.out)
  rw [show (u1.alloc (.cells #[.pointer none, .slice none 0 0] 185)).heap.size = u1.heap.size + 1 from Array.size_push _]
  generalize (u1.alloc (.cells #[.pointer none, .slice none 0 0] 185)).alloc (.cells #[putV u1.heap.size] 190) = z3 at HO ⊢
  generalize u1.heap.size = gb at HO ⊢
  clear HB1 HU1
  cases eu
  · have hus1 : us = true := by rw [← hus]; rfl
    subst hus1
    clear hus
    have c1 := HO.out.url.cell 1
    rw [(cU_at u pv H8).2.1] at c1
    have c2 := HO.out.url.cell 2
    rw [(cU_at u pv H8).2.2.1] at c2
    have c0 := HO.out.url.cell 0
    rw [(cU_at u pv H8).1] at c0
    go_wp2_with fail
    clear c1 c2 c0
    refine (put_out HO.out u.sch (len_one HE.out HL.out u.sch (by have := HF.out.sch; omega) (by omega))).mono ?_
    rintro e z4 ⟨rfl, hO, _⟩
    have HE' := Lib.hid (shift HE.out)
    have HO' := Lib.hid hO
    clear hO HO HE
    have HO := HO'
    have HE := HE'
    clear HO' HE'
    go_wp2_with fail
    refine (put_out HO.out [58] (len_one HE.out HL.out [58] (by simp) (by omega))).mono ?_
    rintro e z5 ⟨rfl, hO, _⟩
    have HE' := Lib.hid (shift HE.out)
    have HO' := Lib.hid hO
    clear hO HO HE
    have HO := HO'
    have HE := HE'
    clear HO' HE'
    have c16 := HO.out.url.cell 16
    rw [(cU_at u pv H8).2.2.2.2.2.2.1] at c16
    go_wp2_with fail
    clear c16
    refine (put_out HO.out u.opq (len_one HE.out HL.out u.opq (by have := HF.out.opq; omega) (by omega))).mono ?_
    rintro e z6 ⟨rfl, hO, _⟩
    have HE' := Lib.hid (shift HE.out)
    have HO' := Lib.hid hO
    clear hO HO HE
    have HO := HO'
    have HE := HE'
    clear HO' HE'
    have hUl := HO.out.url
    go_wp2_with ((with_reducible refine wp_load27 (o := ⟨some 32, .load 27 (.tmp 1), _, _, _, _⟩) ?_ (.tmp 1) ?_ w.heap.size ?_ u pv H8 hUl ?_); (· rfl); (· rfl); (· rfl); simp only [Act.put, List.setIfInBounds_toArray, List.set_cons_zero, List.set_cons_succ])
    refine (CW.out _).mono ?_
    rintro e z7 ⟨rfl, hB⟩
    have HO' := Lib.hid (HO.out.later hB)
    clear hB HO
    have HO := HO'
    clear HO'
    clear hUl
    go_wp2_with fail
    refine (putIf_out c [[47], [47]] (by simp) z7.heap.size 2 rfl (HO.out.later ((Below.refl z7.heap.size z7).alloc (Nat.le_refl _) _)) (heap_alloc_new z7 _) (len_one HE.out HL.out _ (by simp) (by omega))).mono ?_
    rintro e z8 ⟨rfl, hO⟩
    have HE' := Lib.hid (shift HE.out)
    have HO' := Lib.hid hO
    clear hO HO HE
    have HO := HO'
    have HE := HE'
    clear HO' HE'
    have c1 := HO.out.url.cell 1
    rw [(cU_at u pv H8).2.1] at c1
    go_wp2_with fail
    clear c1
    refine (putIf_out true [u.usr] (by simp) z8.heap.size 1 rfl (HO.out.later ((Below.refl z8.heap.size z8).alloc (Nat.le_refl _) _)) (heap_alloc_new z8 _) (len_one HE.out HL.out _ (by have := HF.out.usr; simp; omega) (by omega))).mono ?_
    rintro e z9 ⟨rfl, hO⟩
    have HE' := Lib.hid (shift HE.out)
    have HO' := Lib.hid hO
    clear hO HO HE
    have HO := HO'
    have HE := HE'
    clear HO' HE'
    have c2 := HO.out.url.cell 2
    rw [(cU_at u pv H8).2.2.1] at c2
    go_wp2_with fail
    clear c2
    refine (putIf_out (!ep) [[58], u.pas] (by simp) z9.heap.size 2 rfl (HO.out.later ((Below.refl z9.heap.size z9).alloc (Nat.le_refl _) _)) (heap_alloc_new z9 _) (len_one HE.out HL.out _ (by have := HF.out.pas; simp; omega) (by omega))).mono ?_
    rintro e z10 ⟨rfl, hO⟩
    have HE' := Lib.hid (shift HE.out)
    have HO' := Lib.hid hO
    clear hO HO HE
    have HO := HO'
    have HE := HE'
    clear HO' HE'
    go_wp2_with fail
    refine (putIf_out true [[64]] (by simp) z10.heap.size 1 rfl (HO.out.later ((Below.refl z10.heap.size z10).alloc (Nat.le_refl _) _)) (heap_alloc_new z10 _) (len_one HE.out HL.out _ (by simp) (by omega))).mono ?_
    rintro e z11 ⟨rfl, hO⟩
    have HE' := Lib.hid (shift HE.out)
    have HO' := Lib.hid hO
    clear hO HO HE
    have HO := HO'
    have HE := HE'
    clear HO' HE'
    have hUl := HO.out.url
    have HMx := HM.out.later HO.out.bel
    go_wp2_with ((with_reducible refine wp_load27 (o := ⟨some 55, .load 27 (.tmp 1), _, _, _, _⟩) ?_ (.tmp 1) ?_ w.heap.size ?_ u pv H8 hUl ?_); (· rfl); (· rfl); (· rfl); simp only [Act.put, List.setIfInBounds_toArray, List.set_cons_zero, List.set_cons_succ])
    refine (CD.out _ HMx (HS.out.later HO.out.bel)).mono ?_
    rintro e z12 ⟨rfl, hB⟩
    have HO' := Lib.hid (HO.out.later hB)
    clear hB HO
    have HO := HO'
    clear HO'
    clear hUl HMx
    go_wp2_with fail
    refine (put_out HO.out (doorU u) (len_one HE.out HL.out (doorU u) (by have := HDL.out; omega) (by omega))).mono ?_
    rintro e z13 ⟨rfl, hO, _⟩
    have HE' := Lib.hid (shift HE.out)
    have HO' := Lib.hid hO
    clear hO HO HE
    have HO := HO'
    have HE := HE'
    clear HO' HE'
    have c15 := HO.out.url.cell 15
    rw [(cU_at u pv H8).2.2.2.2.2.1] at c15
    go_wp2_with fail
    clear c15
    refine (CPS.out _ (HS.out.later HO.out.bel)).mono ?_
    rintro e z14 ⟨rfl, hB⟩
    have HO' := Lib.hid (HO.out.later hB)
    clear hB HO
    have HO := HO'
    clear HO'
    go_wp2_with fail
    refine (put_out HO.out (Path.show1 u.path) (by have := len_of HE.out HL.out; omega)).mono ?_
    rintro e z15 ⟨rfl, hO, _⟩
    have HE' := Lib.hid (shift HE.out)
    have HO' := Lib.hid hO
    clear hO HO HE
    have HO := HO'
    have HE := HE'
    clear HO' HE'
    have c19 := HO.out.url.cell 19
    rw [(cU_at u pv H8).2.2.2.2.2.2.2.2.2.1] at c19
    have c17 := HO.out.url.cell 17
    rw [(cU_at u pv H8).2.2.2.2.2.2.2.1] at c17
    go_wp2_with fail
    clear c19 c17
    refine (putIf_out u.hq [[63], u.qry] (by simp) z15.heap.size 2 rfl (HO.out.later ((Below.refl z15.heap.size z15).alloc (Nat.le_refl _) _)) (heap_alloc_new z15 _) (len_one HE.out HL.out _ (by have := HF.out.qry; simp; omega) (by omega))).mono ?_
    rintro e z16 ⟨rfl, hO⟩
    have HE' := Lib.hid (shift HE.out)
    have HO' := Lib.hid hO
    clear hO HO HE
    have HO := HO'
    have HE := HE'
    clear HO' HE'
    have c20 := HO.out.url.cell 20
    rw [(cU_at u pv H8).2.2.2.2.2.2.2.2.2.2] at c20
    have c18 := HO.out.url.cell 18
    rw [(cU_at u pv H8).2.2.2.2.2.2.2.2.1] at c18
    go_wp2_with fail
    clear c20 c18
    refine (putIf_out u.hf [[35], u.frg] (by simp) z16.heap.size 2 rfl (HO.out.later ((Below.refl z16.heap.size z16).alloc (Nat.le_refl _) _)) (heap_alloc_new z16 _) (len_one HE.out HL.out _ (by have := HF.out.frg; simp; omega) (by omega))).mono ?_
    rintro e z17 ⟨rfl, hO⟩
    have HE' := Lib.hid (shift HE.out)
    have HO' := Lib.hid hO
    clear hO HO HE
    have HO := HO'
    have HE := HE'
    clear HO' HE'
    have hE := HE.out
    rw [List.append_nil] at hE
    have HO' := HO.out
    rw [hE] at HO'
    clear HO HE hE
    go_wp2_with fail
    refine (string_f w.heap.size gb (textU u) z17 HO'.bld HO'.bel.size).mono ?_
    rintro e z18 ⟨rfl, _, hB⟩
    have HT : (⟨(textU u).toArray⟩ : ByteArray) = x := HX.out
    go_wp2
    go_ret
    exact ⟨rfl, HO'.bel.trans hB⟩
  · have hus1 : us = (!ep) := by rw [← hus]; rfl
    subst hus1
    clear hus
    have c1 := HO.out.url.cell 1
    rw [(cU_at u pv H8).2.1] at c1
    have c2 := HO.out.url.cell 2
    rw [(cU_at u pv H8).2.2.1] at c2
    have c0 := HO.out.url.cell 0
    rw [(cU_at u pv H8).1] at c0
    go_wp2_with fail
    clear c1 c2 c0
    refine (put_out HO.out u.sch (len_one HE.out HL.out u.sch (by have := HF.out.sch; omega) (by omega))).mono ?_
    rintro e z4 ⟨rfl, hO, _⟩
    have HE' := Lib.hid (shift HE.out)
    have HO' := Lib.hid hO
    clear hO HO HE
    have HO := HO'
    have HE := HE'
    clear HO' HE'
    go_wp2_with fail
    refine (put_out HO.out [58] (len_one HE.out HL.out [58] (by simp) (by omega))).mono ?_
    rintro e z5 ⟨rfl, hO, _⟩
    have HE' := Lib.hid (shift HE.out)
    have HO' := Lib.hid hO
    clear hO HO HE
    have HO := HO'
    have HE := HE'
    clear HO' HE'
    have c16 := HO.out.url.cell 16
    rw [(cU_at u pv H8).2.2.2.2.2.2.1] at c16
    go_wp2_with fail
    clear c16
    refine (put_out HO.out u.opq (len_one HE.out HL.out u.opq (by have := HF.out.opq; omega) (by omega))).mono ?_
    rintro e z6 ⟨rfl, hO, _⟩
    have HE' := Lib.hid (shift HE.out)
    have HO' := Lib.hid hO
    clear hO HO HE
    have HO := HO'
    have HE := HE'
    clear HO' HE'
    have hUl := HO.out.url
    go_wp2_with ((with_reducible refine wp_load27 (o := ⟨some 32, .load 27 (.tmp 1), _, _, _, _⟩) ?_ (.tmp 1) ?_ w.heap.size ?_ u pv H8 hUl ?_); (· rfl); (· rfl); (· rfl); simp only [Act.put, List.setIfInBounds_toArray, List.set_cons_zero, List.set_cons_succ])
    refine (CW.out _).mono ?_
    rintro e z7 ⟨rfl, hB⟩
    have HO' := Lib.hid (HO.out.later hB)
    clear hB HO
    have HO := HO'
    clear HO'
    clear hUl
    go_wp2_with fail
    refine (putIf_out c [[47], [47]] (by simp) z7.heap.size 2 rfl (HO.out.later ((Below.refl z7.heap.size z7).alloc (Nat.le_refl _) _)) (heap_alloc_new z7 _) (len_one HE.out HL.out _ (by simp) (by omega))).mono ?_
    rintro e z8 ⟨rfl, hO⟩
    have HE' := Lib.hid (shift HE.out)
    have HO' := Lib.hid hO
    clear hO HO HE
    have HO := HO'
    have HE := HE'
    clear HO' HE'
    have c1 := HO.out.url.cell 1
    rw [(cU_at u pv H8).2.1] at c1
    go_wp2_with fail
    clear c1
    refine (putIf_out (!ep) [u.usr] (by simp) z8.heap.size 1 rfl (HO.out.later ((Below.refl z8.heap.size z8).alloc (Nat.le_refl _) _)) (heap_alloc_new z8 _) (len_one HE.out HL.out _ (by have := HF.out.usr; simp; omega) (by omega))).mono ?_
    rintro e z9 ⟨rfl, hO⟩
    have HE' := Lib.hid (shift HE.out)
    have HO' := Lib.hid hO
    clear hO HO HE
    have HO := HO'
    have HE := HE'
    clear HO' HE'
    have c2 := HO.out.url.cell 2
    rw [(cU_at u pv H8).2.2.1] at c2
    go_wp2_with fail
    clear c2
    refine (putIf_out (!ep) [[58], u.pas] (by simp) z9.heap.size 2 rfl (HO.out.later ((Below.refl z9.heap.size z9).alloc (Nat.le_refl _) _)) (heap_alloc_new z9 _) (len_one HE.out HL.out _ (by have := HF.out.pas; simp; omega) (by omega))).mono ?_
    rintro e z10 ⟨rfl, hO⟩
    have HE' := Lib.hid (shift HE.out)
    have HO' := Lib.hid hO
    clear hO HO HE
    have HO := HO'
    have HE := HE'
    clear HO' HE'
    go_wp2_with fail
    refine (putIf_out (!ep) [[64]] (by simp) z10.heap.size 1 rfl (HO.out.later ((Below.refl z10.heap.size z10).alloc (Nat.le_refl _) _)) (heap_alloc_new z10 _) (len_one HE.out HL.out _ (by simp) (by omega))).mono ?_
    rintro e z11 ⟨rfl, hO⟩
    have HE' := Lib.hid (shift HE.out)
    have HO' := Lib.hid hO
    clear hO HO HE
    have HO := HO'
    have HE := HE'
    clear HO' HE'
    have hUl := HO.out.url
    have HMx := HM.out.later HO.out.bel
    go_wp2_with ((with_reducible refine wp_load27 (o := ⟨some 55, .load 27 (.tmp 1), _, _, _, _⟩) ?_ (.tmp 1) ?_ w.heap.size ?_ u pv H8 hUl ?_); (· rfl); (· rfl); (· rfl); simp only [Act.put, List.setIfInBounds_toArray, List.set_cons_zero, List.set_cons_succ])
    refine (CD.out _ HMx (HS.out.later HO.out.bel)).mono ?_
    rintro e z12 ⟨rfl, hB⟩
    have HO' := Lib.hid (HO.out.later hB)
    clear hB HO
    have HO := HO'
    clear HO'
    clear hUl HMx
    go_wp2_with fail
    refine (put_out HO.out (doorU u) (len_one HE.out HL.out (doorU u) (by have := HDL.out; omega) (by omega))).mono ?_
    rintro e z13 ⟨rfl, hO, _⟩
    have HE' := Lib.hid (shift HE.out)
    have HO' := Lib.hid hO
    clear hO HO HE
    have HO := HO'
    have HE := HE'
    clear HO' HE'
    have c15 := HO.out.url.cell 15
    rw [(cU_at u pv H8).2.2.2.2.2.1] at c15
    go_wp2_with fail
    clear c15
    refine (CPS.out _ (HS.out.later HO.out.bel)).mono ?_
    rintro e z14 ⟨rfl, hB⟩
    have HO' := Lib.hid (HO.out.later hB)
    clear hB HO
    have HO := HO'
    clear HO'
    go_wp2_with fail
    refine (put_out HO.out (Path.show1 u.path) (by have := len_of HE.out HL.out; omega)).mono ?_
    rintro e z15 ⟨rfl, hO, _⟩
    have HE' := Lib.hid (shift HE.out)
    have HO' := Lib.hid hO
    clear hO HO HE
    have HO := HO'
    have HE := HE'
    clear HO' HE'
    have c19 := HO.out.url.cell 19
    rw [(cU_at u pv H8).2.2.2.2.2.2.2.2.2.1] at c19
    have c17 := HO.out.url.cell 17
    rw [(cU_at u pv H8).2.2.2.2.2.2.2.1] at c17
    go_wp2_with fail
    clear c19 c17
    refine (putIf_out u.hq [[63], u.qry] (by simp) z15.heap.size 2 rfl (HO.out.later ((Below.refl z15.heap.size z15).alloc (Nat.le_refl _) _)) (heap_alloc_new z15 _) (len_one HE.out HL.out _ (by have := HF.out.qry; simp; omega) (by omega))).mono ?_
    rintro e z16 ⟨rfl, hO⟩
    have HE' := Lib.hid (shift HE.out)
    have HO' := Lib.hid hO
    clear hO HO HE
    have HO := HO'
    have HE := HE'
    clear HO' HE'
    have c20 := HO.out.url.cell 20
    rw [(cU_at u pv H8).2.2.2.2.2.2.2.2.2.2] at c20
    have c18 := HO.out.url.cell 18
    rw [(cU_at u pv H8).2.2.2.2.2.2.2.2.1] at c18
    go_wp2_with fail
    clear c20 c18
    refine (putIf_out u.hf [[35], u.frg] (by simp) z16.heap.size 2 rfl (HO.out.later ((Below.refl z16.heap.size z16).alloc (Nat.le_refl _) _)) (heap_alloc_new z16 _) (len_one HE.out HL.out _ (by have := HF.out.frg; simp; omega) (by omega))).mono ?_
    rintro e z17 ⟨rfl, hO⟩
    have HE' := Lib.hid (shift HE.out)
    have HO' := Lib.hid hO
    clear hO HO HE
    have HO := HO'
    have HE := HE'
    clear HO' HE'
    have hE := HE.out
    rw [List.append_nil] at hE
    have HO' := HO.out
    rw [hE] at HO'
    clear HO HE hE
    go_wp2_with fail
    refine (string_f w.heap.size gb (textU u) z17 HO'.bld HO'.bel.size).mono ?_
    rintro e z18 ⟨rfl, _, hB⟩
    have HT : (⟨(textU u).toArray⟩ : ByteArray) = x := HX.out
    go_wp2
    go_ret
    exact ⟨rfl, HO'.bel.trans hB⟩



set_option maxRecDepth 100000

def uS : U := ⟨http, [117], [], aH, 8080, [[97], []], [], [120], [], true, false⟩

def uZ : U := { none1 with hf := true }

def s1 : T := [104, 116, 116, 112, 58, 47, 47, 97, 46, 111, 114, 103, 58, 56, 48, 56, 48, 47, 97, 47, 63, 120]

def s2 : T := [104, 116, 116, 112, 58, 47, 47, 117, 64, 97, 46, 111, 114, 103, 58, 56, 48, 56, 48, 47, 97, 47, 63, 120]

def s3 : T := [97, 46, 111, 114, 103, 58, 56, 48, 56, 48]

theorem show8080 : Deci.showI 8080 = [56, 48, 56, 48] := by
  rw [Deci.showI_nonneg (by decide)]
  show Deci.showN 8080 = _
  simp [Deci.showN, Deci.digC]

theorem uS_may : mayU uS = true := by decide +kernel

theorem uS_door : doorU uS = s3 := by
  unfold doorU doorT portT
  rw [uS_may, show webI uS.sch = 80 from by decide, show uS.h = aH from rfl, aorg_show, show uS.port = 8080 from rfl, show8080]
  decide

theorem uS_show : showU uS = s2 := by
  unfold showU textU midT restT doorT portT
  rw [uS_may, show webI uS.sch = 80 from by decide, show uS.h = aH from rfl, aorg_show, show uS.port = 8080 from rfl, show8080]
  decide

theorem uS_open : showU (openU uS) = s1 := by
  unfold showU textU midT restT doorT portT
  rw [open_may uS_may, show webI (openU uS).sch = 80 from by decide, show (openU uS).h = aH from rfl, aorg_show, show (openU uS).port = 8080 from rfl, show8080]
  decide

theorem uS_fit : Fit uS := ⟨rfl, by decide, by decide, by decide, by decide, by decide, by decide, by decide, by decide, by decide⟩

theorem uSo_fit : Fit (openU uS) := ⟨rfl, by decide, by decide, by decide, by decide, by decide, by decide, by decide, by decide, by decide⟩

theorem uZ_fit : Fit uZ := ⟨rfl, by decide, by decide, by decide, by decide, by decide, by decide, by decide, by decide, by decide⟩

theorem strs_two (w : World) (a b : ByteArray) : Strs (w.alloc (.cells #[.string a, .string b] 9)) (.slice (some ⟨w.heap.size, 0, none⟩) 2 2) [a.data.toList, b.data.toList] := by
  refine ⟨_, 2, rfl, by simp, by unfold maxLen; omega, (fun e => by cases e), fun _ => ⟨w.heap.size, 0, rfl, fun j hj => ?_⟩⟩
  have h : (w.alloc (.cells #[.string a, .string b] 9)).heap[w.heap.size]? = some (.cells #[.string a, .string b] 9 (0, 0)) := heap_alloc_new w _
  rw [cell_of_row _ _ _ _ _ _ h]
  match j, hj with
  | 0, _ => simp
  | 1, _ => simp

theorem zS (pv : Value) : cU (bareU uZ) pv = #[.string ⟨#[]⟩, .string ⟨#[]⟩, .string ⟨#[]⟩, .int .i64 0, .string ⟨#[]⟩, .int .i64 0, .int .i64 0, .int .i64 0, .int .i64 0, .int .i64 0, .int .i64 0, .int .i64 0, .int .i64 0, .int .i64 0, .int .i64 0, pv, .string ⟨#[]⟩, .string ⟨#[]⟩, .string ⟨#[]⟩, .bool false, .bool false] := rfl

theorem zL (pv : Value) : (#[.string ⟨#[]⟩, .string ⟨#[]⟩, .string ⟨#[]⟩, .int .i64 0, .string ⟨#[]⟩, .int .i64 0, .int .i64 0, .int .i64 0, .int .i64 0, .int .i64 0, .int .i64 0, .int .i64 0, .int .i64 0, .int .i64 0, .int .i64 0, pv, .string ⟨#[]⟩, .string ⟨#[]⟩, .string ⟨#[]⟩, .bool false, .bool true] : Array Value) = cU uZ pv := rfl



theorem show_le (K : Nat) (l : List T) (h : ∀ t ∈ l, t.length ≤ K) : (Path.show1 l).length ≤ l.length * (K + 1) := by
  induction l with
  | nil => exact Nat.zero_le _
  | cons a r ih =>
    have h1 := h a (List.mem_cons_self ..)
    have h2 := ih fun t ht => h t (List.mem_cons_of_mem _ ht)
    show (47 :: (a ++ Path.show1 r)).length ≤ (r.length + 1) * (K + 1)
    rw [List.length_cons, List.length_append, Nat.succ_mul]
    omega

theorem text_le (u : U) (hf : Fit u) (h : mayU u = true) (B P : Nat) (h1 : u.sch.length ≤ B) (h2 : u.usr.length ≤ B) (h3 : u.pas.length ≤ B) (h4 : u.opq.length ≤ B) (h5 : u.qry.length ≤ B) (h6 : u.frg.length ≤ B) (h8 : (Path.show1 u.path).length ≤ P) : (textU u).length ≤ P + 6 * B + 200 := by
  have h7 := host_len u hf
  have hp : (portT u).length ≤ 21 := by
    unfold portT
    split
    · exact Nat.zero_le _
    · rename_i hne
      have : -1 ≤ u.port ∧ u.port ≤ 65535 := by
        rcases (may_parts h).2 with ⟨_, k⟩ | ⟨_, k⟩
        · exact ⟨k.p1, k.p2⟩
        · exact absurd k.port hne
      have := port_len u (by omega) (by omega)
      rw [List.length_cons]; omega
  have hu : (userT u).length ≤ 2 * B + 2 := by
    unfold userT
    split
    · exact Nat.zero_le _
    · split <;> simp <;> omega
  have hm : (midT u).length ≤ P + 3 * B + 130 := by
    unfold midT
    split
    · omega
    · unfold restT doorT
      simp only [List.length_cons, List.length_append]
      omega
  have hq : (qT u).length ≤ B + 1 := by unfold qT; split <;> simp; omega
  have hff : (fT u).length ≤ B + 1 := by unfold fT; split <;> simp; omega
  unfold textU
  simp only [List.length_cons, List.length_append]
  omega

theorem show_le_of {u : U} {n : Nat} (h : mayU u = true → (textU u).length ≤ n) : (showU u).length ≤ n := by
  unfold showU
  split
  · exact h ‹_›
  · exact Nat.zero_le _

theorem few_show (u : U) (h8 : u.h.p.length = 8) (h : fewU u = true) : (showU u).length ≤ 25000 := by
  have hf := few_fit u h8 h
  unfold fewU at h
  simp only [Bool.and_eq_true, le3_iff] at h
  obtain ⟨h0, h1, h2, h3, h4, h5, h6, h7⟩ := h
  obtain ⟨p1, p2⟩ := (Path.few_iff _).1 h0
  refine show_le_of fun hm => ?_
  have hp := show_le 300 u.path p2
  have : u.path.length * (300 + 1) ≤ 60 * 301 := Nat.mul_le_mul_right _ p1
  have := text_le u hf hm 300 18060 h1 h2 h3 h5 h6 h7 (by omega)
  omega

theorem enc_le (set : Int) (l : T) (n : Nat) (h : l.length ≤ n) : (Pct.encode set l).length ≤ 3 * n := by have := Pct.encode_len set l; omega

/-- How long the parts of what is parsed are. -/
structure Small (u : U) : Prop where
  h8 : u.h.p.length = 8
  hs : u.h.s.size ≤ 400
  sp : (Path.show1 u.path).length ≤ 1300
  sch : u.sch.length ≤ 1200
  usr : u.usr.length ≤ 1200
  pas : u.pas.length ≤ 1200
  opq : u.opq.length ≤ 1200
  qry : u.qry.length ≤ 1200
  frg : u.frg.length ≤ 1200

theorem Small.fit {u : U} (s : Small u) : Fit u := by
  have hcn := Path.show_count u.path
  have hea := Path.show_each u.path
  have := s.sp
  exact ⟨s.h8, by have := s.hs; omega, by omega, fun x hx => by have := hea x hx; omega, by have := s.sch; omega, by have := s.usr; omega, by have := s.pas; omega, by have := s.opq; omega, by have := s.qry; omega, by have := s.frg; omega⟩

theorem Small.show {u : U} (s : Small u) : (showU u).length ≤ 25000 :=
  show_le_of fun hm => by have := text_le u s.fit hm 1200 1300 s.sch s.usr s.pas s.opq s.qry s.frg s.sp; omega

theorem par_small (l : T) (h : l.length ≤ 400) : Small (parU l) := by
  have hc : (Ascii.clean l).length ≤ 400 := Nat.le_trans (clean_len l) h
  unfold parU
  generalize Ascii.clean l = s at hc
  have hr : (schR s).length ≤ 400 := by unfold schR; split <;> first | exact Nat.le_trans (aft_len _ _) hc | exact Nat.zero_le _
  have hs : (schS s).length ≤ 400 := by
    unfold schS
    split
    · simp only [Ascii.lower, List.length_map]; exact Nat.le_trans (bef_len _ _) hc
    · exact Nat.zero_le _
  have hA : (tA (schR s)).length ≤ 400 := Nat.le_trans (Nat.le_trans (bef_len _ _) (bef_len _ _)) hr
  have hQ : (tQ (schR s)).length ≤ 400 := Nat.le_trans (Nat.le_trans (aft_len _ _) (bef_len _ _)) hr
  have hF : (tF (schR s)).length ≤ 400 := Nat.le_trans (aft_len _ _) hr
  cases ho : okS s
  · rw [par_none s ho]
    exact ⟨rfl, by decide, by decide, by decide, by decide, by decide, by decide, by decide, by decide⟩
  · unfold parS
    rw [if_pos ho]
    have e2 := enc_le 2 _ _ hQ
    have e1 := enc_le 1 _ _ hF
    unfold aheadU
    split
    · have e0 := enc_le 1 _ _ hA
      exact ⟨rfl, (by show 0 ≤ 400; omega), (by show 0 ≤ 1300; omega), (by show (schS s).length ≤ 1200; omega), (by show 0 ≤ 1200; omega), (by show 0 ≤ 1200; omega), (by show (Pct.encode 1 (tA (schR s))).length ≤ 1200; omega), (by show (Pct.encode 2 (tQ (schR s))).length ≤ 1200; omega), (by show (Pct.encode 1 (tF (schR s))).length ≤ 1200; omega)⟩
    · generalize tA (schR s) = t at hA
      have h2 : (t.drop 2).length ≤ 400 := by rw [List.length_drop]; omega
      have ha : (auth t).length ≤ 400 := Nat.le_trans (bef_len _ _) h2
      have hg : (segT t).length ≤ 400 := Nat.le_trans (aft_len _ _) h2
      have hp : (place (auth t)).length ≤ 400 := Nat.le_trans (laft_len _ _) ha
      have hn : (hname (place (auth t))).length ≤ 400 := by rw [hname_take]; exact Nat.le_trans (List.length_take_le' _ _) hp
      have hu : (user (auth t)).length ≤ 400 := Nat.le_trans (Nat.le_trans (bef_len _ _) (lbef_len _ _)) ha
      have hw : (pass (auth t)).length ≤ 400 := Nat.le_trans (Nat.le_trans (aft_len _ _) (lbef_len _ _)) ha
      have eu := enc_le 4 _ _ hu
      have ew := enc_le 4 _ _ hw
      have hh := Host.par_size (hname (place (auth t))) 400 hn
      have hsh := Path.parse_show_len (47 :: segT t)
      have hsl : (Path.show1 (Path.parse (47 :: segT t))).length ≤ 1300 := by simp only [List.length_cons] at hsh; omega
      exact ⟨Host.parH_len _, hh, hsl, (by show (schS s).length ≤ 1200; omega), (by show (Pct.encode 4 (user (auth t))).length ≤ 1200; omega), (by show (Pct.encode 4 (pass (auth t))).length ≤ 1200; omega), (by show 0 ≤ 1200; omega), (by show (Pct.encode 2 (tQ (schR s))).length ≤ 1200; omega), (by show (Pct.encode 1 (tF (schR s))).length ≤ 1200; omega)⟩

theorem bare_fit {u : U} (hf : Fit u) : Fit (bareU u) := ⟨hf.h8, hf.hs, hf.pn, hf.pt, hf.sch, hf.usr, hf.pas, hf.opq, hf.qry, Nat.zero_le _⟩

theorem open_fit {u : U} (hf : Fit u) : Fit (openU u) := ⟨hf.h8, hf.hs, hf.pn, hf.pt, hf.sch, Nat.zero_le _, Nat.zero_le _, hf.opq, hf.qry, Nat.zero_le _⟩

theorem show_size (u : U) (hf : Fit u) (x : ByteArray) (hx : tb (showU u) = x) : x.size ≤ 100000000000 := by
  rw [size_tb hx]
  exact show_le_of fun h => text_len u hf h

/-- What is shown is parsed, or was not shown. -/
theorem back (u : U) (h8 : u.h.p.length = 8) : okU (showU u) = mayU u ∧ (mayU u = true → parU (showU u) = u) := by
  cases h : mayU u
  · have : showU u = [] := by unfold showU; rw [h]; rfl
    rw [this]
    exact ⟨by decide +kernel, fun e => by cases e⟩
  · exact ⟨(par_show h h8).1, fun _ => (par_show h h8).2⟩

end Go.Proofs.YtbmnhmbicefemaaGreatDoor.Show

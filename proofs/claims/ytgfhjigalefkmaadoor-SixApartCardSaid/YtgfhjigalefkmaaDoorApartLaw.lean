/-
  The law SixApart holds for every input: two rows of pieces that may be are shown as one just if they are the same, and a capital letter tells what a small one does. No condition of its own; the card: the five listed tables lie as their texts lay them (tied).
-/
import Derived.Test.YtgfhjigalefkmaaDoorCards
import Derived.Test.YtgfhjigalefkmaaDoorTie
import Derived.WalkKit
import Derived.ProofKit
import Derived.OpenShut
import Derived.ShutString
import Derived.Test.YtgfhjigalefkmaaDoorSOpen
import Derived.Test.YtgfhjigalefkmaaDoorSQuiet
namespace Go.Proofs.YtgfhjigalefkmaaDoor.sixApart
open Go.ChangeShapes Go.WideShapes Go.ChangeAt Go.RowKit
open Go.ChangeMaps (open_string shut_string)
open Go.Shelf
open Go.Proofs.YtgfhjigalefkmaaDoor.Six
set_option linter.unusedSimpArgs false
set_option linter.unusedVariables false

theorem own : ownKnob Tryd.prog.godebug = none := by kernel_rfl

theorem show_same (p q : List Int) (hp : p.length = 8) (hq : q.length = 8) (mp : mayP p = true) (mq : mayP q = true) (h : ¬ p = q) : ((⟨(showS p).toArray⟩ : ByteArray).toList == (⟨(showS q).toArray⟩ : ByteArray).toList) = false := by
  rw [ByteArray.toList_eq, ByteArray.toList_eq]
  exact beq_false_of_ne fun e => h (show_inj p q hp hq mp mq e)
theorem upF_low (c : UInt8) (h : 97 ≤ (c.toNat : Int) ∧ (c.toNat : Int) ≤ 102) : ((upF c).toNat : Int) = (c.toNat : Int) - 32 := by
  have := (upF_at c).2.2 (by omega)
  omega
theorem parI_len (l : List UInt8) : (parI l).length = 8 := by
  cases h : parB l
  · unfold parI; rw [h]; rfl
  · exact (par_may l h).1
set_option maxRecDepth 100000 in
set_option maxHeartbeats 4000000 in
theorem walkLong (p q : List Int) (s : ByteArray) (hs : decide ((300 : Int) < (s.size : Int)) = true) (m : Int) (w : World) (hm : At m w) :
    Calls Tryd.prog 5 #[.agg (arr p), .agg (arr q), .string s] w fun e w' => e = .returned (.bool true) ∧ Below w.heap.size w w' := by
  have HB := Lib.hid (show Below w.heap.size w ((w.alloc (.cells (arr p) 22)).alloc (.cells (arr q) 22)) from ((Below.refl _ w).alloc (Nat.le_refl _) _).alloc (by simp) _)
  have HM := Lib.hid (hm.later HB.out)
  clear hm
  go_enter Tryd.func5, Tryd.ntmps5
  go_wp2_with fail
  refine (awake_calls m _ HM.out).mono ?_
  rintro e u1 ⟨rfl, hB1⟩
  go_wp2
  go_ret
  exact ⟨rfl, Ascii.below2 HB.out hB1⟩
/-- What the two arrays hold. -/
structure Two (m : Int) (g1 g2 : Nat) (p q : List Int) (W : World) : Prop where
  r1 : RowAt W g1 p
  r2 : RowAt W g2 q
  at_ : At m W
theorem Two.later {m : Int} {g1 g2 : Nat} {p q : List Int} {W U : World} (h : Two m g1 g2 p q W) (hB : Below W.heap.size W U) : Two m g1 g2 p q U := ⟨h.r1.later hB, h.r2.later hB, h.at_.later hB⟩
theorem two_new (m : Int) (p q : List Int) (w : World) (hm : At m w) : Two m w.heap.size (w.heap.size + 1) p q ((w.alloc (.cells (arr p) 22)).alloc (.cells (arr q) 22)) := by
  have hB : Below w.heap.size w ((w.alloc (.cells (arr p) 22)).alloc (.cells (arr q) 22)) := ((Below.refl _ w).alloc (Nat.le_refl _) _).alloc (by simp) _
  refine ⟨(RowAt.new w p).past _, ?_, hm.later hB⟩
  have := RowAt.new (w.alloc (.cells (arr p) 22)) q
  simpa using this
set_option maxRecDepth 100000 in
set_option maxHeartbeats 4000000 in
theorem walkNot (p q : List Int) (h8 : p.length = 8) (k8 : q.length = 8) (s : ByteArray) (hs : decide ((300 : Int) < (s.size : Int)) = false) (hn : mayP p = false ∨ (mayP p = true ∧ mayP q = false)) (m : Int) (w : World) (hm : At m w) :
    Calls Tryd.prog 5 #[.agg (arr p), .agg (arr q), .string s] w fun e w' => e = .returned (.bool true) ∧ Below w.heap.size w w' := by
  have HB := Lib.hid (show Below w.heap.size w ((w.alloc (.cells (arr p) 22)).alloc (.cells (arr q) 22)) from ((Below.refl _ w).alloc (Nat.le_refl _) _).alloc (by simp) _)
  have HT := Lib.hid (two_new m p q w hm)
  have H8 := Lib.hid h8
  have K8 := Lib.hid k8
  have HN := Lib.hid hn
  clear hm h8 k8 hn
  go_enter Tryd.func5, Tryd.ntmps5
  go_wp2_with fail
  generalize (w.alloc (.cells (arr p) 22)).alloc (.cells (arr q) 22) = W at HB HT ⊢
  refine (awake_calls m _ HT.out.at_).mono ?_
  rintro e u1 ⟨rfl, hB1⟩
  have HT1 := Lib.hid (HT.out.later hB1)
  have HB1 := Lib.hid (Ascii.below2 HB.out hB1)
  clear hB1 HT HB
  rcases HN.out with h | ⟨h1, h2⟩
  · have HP := Lib.hid h
    clear h HN
    go_wp2_with ((with_reducible refine wp_load22g (o := ⟨some 23, .load 22 (.tmp 3), _, _, _, _⟩) ?_ (.tmp 3) ?_ w.heap.size ?_ p H8.out HT1.out.r1 ?_); (· rfl); (· rfl); (· rfl))
    refine (may_any p H8.out false HP.out _).mono ?_
    rintro e u2 ⟨rfl, hB2⟩
    go_wp2
    go_ret
    exact ⟨rfl, Ascii.below2 HB1.out hB2⟩
  · have HP := Lib.hid h1
    have HQ := Lib.hid h2
    clear h1 h2 HN
    go_wp2_with ((with_reducible refine wp_load22g (o := ⟨some 23, .load 22 (.tmp 3), _, _, _, _⟩) ?_ (.tmp 3) ?_ w.heap.size ?_ p H8.out HT1.out.r1 ?_); (· rfl); (· rfl); (· rfl))
    refine (may_any p H8.out true HP.out _).mono ?_
    rintro e u2 ⟨rfl, hB2⟩
    have HT2 := Lib.hid (HT1.out.later hB2)
    have HB2 := Lib.hid (Ascii.below2 HB1.out hB2)
    clear hB2 HT1 HB1
    go_wp2_with ((with_reducible refine wp_load22g (o := ⟨some 28, .load 22 (.tmp 4), _, _, _, _⟩) ?_ (.tmp 4) ?_ (w.heap.size + 1) ?_ q K8.out HT2.out.r2 ?_); (· rfl); (· rfl); (· rfl))
    refine (may_any q K8.out false HQ.out _).mono ?_
    rintro e u3 ⟨rfl, hB3⟩
    go_wp2
    go_ret
    exact ⟨rfl, Ascii.below2 HB2.out hB3⟩
set_option maxRecDepth 100000 in
set_option maxHeartbeats 8000000 in
theorem walkIn (p q : List Int) (h8 : p.length = 8) (k8 : q.length = 8) (s : ByteArray) (hs : decide ((300 : Int) < (s.size : Int)) = false) (hs2 : s.size ≤ 300) (mp : mayP p = true) (mq : mayP q = true) (m : Int) (w : World) (hm : At m w) :
    Calls Tryd.prog 5 #[.agg (arr p), .agg (arr q), .string s] w fun e w' => e = .returned (.bool true) ∧ Below w.heap.size w w' := by
  have HB := Lib.hid (show Below w.heap.size w ((w.alloc (.cells (arr p) 22)).alloc (.cells (arr q) 22)) from ((Below.refl _ w).alloc (Nat.le_refl _) _).alloc (by simp) _)
  have HT := Lib.hid (two_new m p q w hm)
  have H8 := Lib.hid h8
  have K8 := Lib.hid k8
  have HP := Lib.hid mp
  have HQ := Lib.hid mq
  obtain ⟨a, ha⟩ : ∃ a, parI s.data.toList = a := ⟨_, rfl⟩
  obtain ⟨c, hc⟩ : ∃ c, parB s.data.toList = c := ⟨_, rfl⟩
  have HA8 := Lib.hid (show a.length = 8 by rw [← ha]; exact parI_len _)
  obtain ⟨t, ht⟩ : ∃ t : ByteArray, (⟨(s.data.toList.map upF).toArray⟩ : ByteArray) = t := ⟨_, rfl⟩
  have htl : t.data.toList = s.data.toList.map upF := by rw [← ht]
  have hts : t.size = s.size := by rw [← ht]; show (s.data.toList.map upF).length = _; rw [List.length_map]; rfl
  have cPar := Lib.hid (fun u (hu : At m u) => parse_any s (by omega) a c ha hc m u hu)
  have cHigh := Lib.hid (fun u (hu : At m u) => parse_any t (by omega) a c (by rw [htl, up_parI upF_unseen, ha]) (by rw [htl, up_parB upF_unseen, hc]) m u hu)
  have HTx := Lib.hid ht
  clear hm h8 k8 mp mq ha hc ht htl hts
  go_enter Tryd.func5, Tryd.ntmps5
  go_wp2_with fail
  generalize (w.alloc (.cells (arr p) 22)).alloc (.cells (arr q) 22) = W at HB HT ⊢
  refine (awake_calls m _ HT.out.at_).mono ?_
  rintro e u1 ⟨rfl, hB1⟩
  have HT1 := Lib.hid (HT.out.later hB1)
  have HB1 := Lib.hid (Ascii.below2 HB.out hB1)
  clear hB1 HT HB
  go_wp2_with ((with_reducible refine wp_load22g (o := ⟨some 23, .load 22 (.tmp 3), _, _, _, _⟩) ?_ (.tmp 3) ?_ w.heap.size ?_ p H8.out HT1.out.r1 ?_); (· rfl); (· rfl); (· rfl))
  refine (may_any p H8.out true HP.out _).mono ?_
  rintro e u2 ⟨rfl, hB2⟩
  have HT2 := Lib.hid (HT1.out.later hB2)
  have HB2 := Lib.hid (Ascii.below2 HB1.out hB2)
  clear hB2 HT1 HB1
  go_wp2_with ((with_reducible refine wp_load22g (o := ⟨some 28, .load 22 (.tmp 4), _, _, _, _⟩) ?_ (.tmp 4) ?_ (w.heap.size + 1) ?_ q K8.out HT2.out.r2 ?_); (· rfl); (· rfl); (· rfl))
  refine (may_any q K8.out true HQ.out _).mono ?_
  rintro e u3 ⟨rfl, hB3⟩
  have HT3 := Lib.hid (HT2.out.later hB3)
  have HB3 := Lib.hid (Ascii.below2 HB2.out hB3)
  clear hB3 HT2 HB2
  have hcv := run_bytes_of_string u3 9 31 5 s Tryd.underlying9 Tryd.underlying31 Tryd.underlying5 (P := Tryd.prog)
  generalize grownCap u3 s.size 0 5 = cap at hcv
  go_wp2
  have hB0 : Below u3.heap.size u3 (u3.alloc (.cells (bytesRow s cap) 5 ((bytesRow s cap).size, (bytesRow s cap).size + 1))).drew := ((Below.refl _ u3).alloc (Nat.le_refl _) _).drew
  have hH0 : Ascii.Held (u3.alloc (.cells (bytesRow s cap) 5 ((bytesRow s cap).size, (bytesRow s cap).size + 1))).drew u3.heap.size (mixF upF s.data.toList 0) := by rw [mixF_zero]; exact Ascii.held_new u3 s cap
  clear hcv
  have HSZ := Lib.hid (show s.data.toList.length = s.size from rfl)
  go_loopw [9] (fun i wr => ∃ k : Nat, k ≤ s.size ∧ i = .int .i64 k ∧ Hid (Ascii.Held wr u3.heap.size (mixF upF s.data.toList k)) ∧ Hid (Below u3.heap.size u3 wr) ∧ Hid (u3.heap.size < wr.heap.size)) (fun i _ => s.size - (intOf i).toNat)
  case atStart => exact ⟨0, Nat.zero_le _, rfl, Lib.hid hH0, Lib.hid hB0, Lib.hid (by simp)⟩
  case round =>
    clear hH0 hB0
    obtain ⟨k, hk, rfl, HH, HW, HG⟩ := hrel
    by_cases hlt : k < s.size
    · have hkl : k < s.data.toList.length := hlt
      have hml : k < (mixF upF s.data.toList k).length := by rw [mixF_length _ _ _ (Nat.le_of_lt hkl)]; exact hkl
      obtain ⟨hc0, hf⟩ := HH.out k hml
      rw [mixF_get _ _ _ hkl] at hc0
      have hcl : wr.cell? ⟨u3.heap.size, k, none⟩ = some (.int .u8 ((s[k]'hlt).toNat : Int)) := hc0
      clear hc0
      have t1 : (k : Int) < s.size := by omega
      clear hkl hml
      by_cases hup : 97 ≤ (s[k].toNat : Int) ∧ (s[k].toNat : Int) ≤ 102
      · obtain ⟨h97, h102⟩ := hup
        have d1 : decide (97 ≤ (s[k].toNat : Int)) = true := decide_eq_true h97
        have d2 : decide ((s[k].toNat : Int) ≤ 102) = true := decide_eq_true h102
        have hlow := Lib.hid (upF_low s[k] ⟨h97, h102⟩)
        go_wp2
        go_roundw
        case rel =>
          refine ⟨k + 1, by omega, by go_num, Lib.hid ?_, Lib.hid (HW.out.setCell (p := ⟨u3.heap.size, k, none⟩) (Nat.le_refl _) _), Lib.hid (by have := HG.out; simp; exact this)⟩
          have hml : k < (mixF upF s.data.toList k).length := by rw [mixF_length _ _ _ (Nat.le_of_lt hlt)]; exact hlt
          have h3 := Ascii.held_set HH.out k hml (upF s[k])
          rw [hlow.out] at h3
          have h4 := mixF_set upF s.data.toList k hlt
          rw [← h4]
          exact h3
        case measure => simp [intOf]; omega
      · have hv := Lib.hid (mixF_keep upF s.data.toList k hlt (upF_other _ (by show ¬ (97 ≤ s[k].toNat ∧ s[k].toNat ≤ 102); omega)))
        have h2 : decide (97 ≤ (s[k].toNat : Int)) = false ∨ (decide (97 ≤ (s[k].toNat : Int)) = true ∧ decide ((s[k].toNat : Int) ≤ 102) = false) := by
          by_cases h : 97 ≤ (s[k].toNat : Int)
          · exact .inr ⟨decide_eq_true h, decide_eq_false (by omega)⟩
          · exact .inl (decide_eq_false h)
        clear hup
        rcases h2 with d1 | ⟨d1, d2⟩
        all_goals
          go_wp2
          go_roundw
          case rel => exact ⟨k + 1, by omega, by go_num, Lib.hid (by rw [← hv.out]; exact HH.out), HW, HG⟩
          case measure => simp [intOf]; omega
    · obtain rfl : k = s.size := by omega
      have hH := HH.out
      rw [← HSZ.out, mixF_all] at hH
      have HH2 := Lib.hid hH
      clear hH HH
      have HT4 := Lib.hid (HT3.out.later HW.out)
      have HB4 := Lib.hid (Ascii.below2 HB3.out HW.out)
      clear HT3 HB3
      go_wp2_with fail
      refine (cPar.out _ HT4.out.at_).mono ?_
      rintro e u5 ⟨rfl, hB5⟩
      have hBn : Below u5.heap.size u5 ((u5.alloc (.cells (arr zero8) 22)).setRow u5.heap.size (arr a)) := below_setRow ((Below.refl _ u5).alloc (Nat.le_refl _) _) (Nat.le_refl _) _
      have HT5 := Lib.hid ((HT4.out.later hB5).later hBn)
      have HB5 := Lib.hid (Ascii.below3 HB4.out hB5 hBn)
      have HRa := Lib.hid ((RowAt.new u5 zero8).row a)
      have hgw : u3.heap.size < wr.heap.size := HG.out
      have hll : (s.data.toList.map upF).length = s.size := by rw [List.length_map]; exact HSZ.out
      have hcv := run_convert_bytes_back (P := Tryd.prog) ((u5.alloc (.cells (arr zero8) 22)).setRow u5.heap.size (arr a)) 31 9 5 ⟨u3.heap.size, 0, none⟩ cap (s.data.toList.map upF) Tryd.underlying31 Tryd.underlying5 Tryd.underlying9 (fun j hj => by
        have e : (⟨u3.heap.size, 0, none⟩ : Addr).add j = ⟨u3.heap.size, j, none⟩ := by unfold Addr.add; split <;> simp_all
        rw [e, hBn.cell (p := ⟨u3.heap.size, j, none⟩) (Nat.lt_of_lt_of_le hgw hB5.size), hB5.cell (p := ⟨u3.heap.size, j, none⟩) hgw]
        exact (HH2.out j hj).1)
      rw [hll, HTx.out] at hcv
      have hcv' : (convert 31 9 (.slice (some ⟨u3.heap.size, 0, none⟩) s.size cap)).run Tryd.prog ((u5.alloc (.cells #[.int .i64 0, .int .i64 0, .int .i64 0, .int .i64 0, .int .i64 0, .int .i64 0, .int .i64 0, .int .i64 0] 22)).setRow u5.heap.size (arr a)) = .ok (.string t) ((u5.alloc (.cells #[.int .i64 0, .int .i64 0, .int .i64 0, .int .i64 0, .int .i64 0, .int .i64 0, .int .i64 0, .int .i64 0] 22)).setRow u5.heap.size (arr a)) := hcv
      have HZ := Lib.hid (fun u : World => RowAt.new u zero8)
      clear hB5 hBn hcv hll hgw HG HH2 HW HT4 HB4 HTx cPar
      go_wp2_with (refine wp_store22 rfl _ _ rfl u5.heap.size rfl a rfl HA8.out zero8 rfl (HZ.out _) ?_)
      refine (cHigh.out _ HT5.out.at_).mono ?_
      rintro e u6 ⟨rfl, hB6⟩
      clear hcv'
      have hBn : Below u6.heap.size u6 ((u6.alloc (.cells (arr zero8) 22)).setRow u6.heap.size (arr a)) := below_setRow ((Below.refl _ u6).alloc (Nat.le_refl _) _) (Nat.le_refl _) _
      have HT6 := Lib.hid ((HT5.out.later hB6).later hBn)
      have HB6 := Lib.hid (Ascii.below3 HB5.out hB6 hBn)
      have HRa6 := Lib.hid ((HRa.out.later hB6).later hBn)
      have HRb6 := Lib.hid ((HZ.out u6).row a)
      clear hB6 hBn HT5 HB5 HRa cHigh
      go_wp2_with (refine wp_store22 rfl _ _ rfl u6.heap.size rfl a rfl HA8.out zero8 rfl (HZ.out _) ?_)
      try rw [zero_arr]
      generalize (u6.alloc (.cells (arr zero8) 22)).setRow u6.heap.size (arr a) = V at HT6 HB6 HRa6 HRb6 ⊢
      obtain ⟨J, hJ⟩ : ∃ J : List Int → ByteArray, ∀ l, (⟨(showS l).toArray⟩ : ByteArray) = J l := ⟨_, fun _ => rfl⟩
      have HJ := Lib.hid hJ
      clear hJ
      have cS := Lib.hid (show ∀ (l : List Int) (h : l = p ∨ l = q) (u : World) (hu : Below V.heap.size V u), Calls Tryd.prog 16 #[.agg (arr l)] u fun e u' => e = .returned (.string (J l)) ∧ Below V.heap.size V u' from by
        intro l h u hu
        refine (show_any l (by rcases h with rfl | rfl; exact H8.out; exact K8.out) _ (HJ.out l) m u (HT6.out.at_.later hu)).mono fun e u' h => ⟨h.1, hu.trans (h.2.mono hu.size)⟩)
      have hany : ∀ p : Prop, (∀ u, Below V.heap.size V u → p) ↔ p := fun p => ⟨fun h => h _ (Below.refl _ _), fun h _ _ => h⟩
      have heqa := fun u => eq22 a a HA8.out HA8.out true (by simp) u
      by_cases hpq : p = q
      · obtain rfl := hpq
        have heqp := fun u => eq22 p p H8.out H8.out true (by simp) u
        refine Ascii.wp_region_quiet_below (by kernel_rfl) (by kernel_rfl) ?_
        ((go_big_quiet_want; (with_reducible refine quiet_load (o := ⟨some 72, .load 22 (.tmp 3), _, _, _, _⟩) 22 (.tmp 3) ?_ ⟨w.heap.size, 0, none⟩ ?_ (.agg (arr p)) ?_ ?_); (· rfl); (· rfl); (· exact fun u hu => (HT6.out.r1.later hu).load H8.out)); go_big_quiet_on; simp only [Act.put, List.setIfInBounds_toArray, List.set_cons_succ, List.set_cons_zero])
        go_big_quiet_step ((intro hu; go_at_call 16; exact cS.out p (by first | exact .inl rfl | exact .inr rfl) _ hu))
        ((go_big_quiet_want; (with_reducible refine quiet_load (o := ⟨some 74, .load 22 (.tmp 4), _, _, _, _⟩) 22 (.tmp 4) ?_ ⟨(w.heap.size + 1), 0, none⟩ ?_ (.agg (arr p)) ?_ ?_); (· rfl); (· rfl); (· exact fun u hu => (HT6.out.r2.later hu).load H8.out)); go_big_quiet_on; simp only [Act.put, List.setIfInBounds_toArray, List.set_cons_succ, List.set_cons_zero])
        go_big_quiet_step ((intro hu; go_at_call 16; exact cS.out p (by first | exact .inl rfl | exact .inr rfl) _ hu))
        go_big_quiet_step (fail)
        ((go_big_quiet_want; (with_reducible refine quiet_load (o := ⟨some 77, .load 22 (.tmp 3), _, _, _, _⟩) 22 (.tmp 3) ?_ ⟨w.heap.size, 0, none⟩ ?_ (.agg (arr p)) ?_ ?_); (· rfl); (· rfl); (· exact fun u hu => (HT6.out.r1.later hu).load H8.out)); go_big_quiet_on; simp only [Act.put, List.setIfInBounds_toArray, List.set_cons_succ, List.set_cons_zero])
        ((go_big_quiet_want; (with_reducible refine quiet_load (o := ⟨some 78, .load 22 (.tmp 4), _, _, _, _⟩) 22 (.tmp 4) ?_ ⟨(w.heap.size + 1), 0, none⟩ ?_ (.agg (arr p)) ?_ ?_); (· rfl); (· rfl); (· exact fun u hu => (HT6.out.r2.later hu).load H8.out)); go_big_quiet_on; simp only [Act.put, List.setIfInBounds_toArray, List.set_cons_succ, List.set_cons_zero])
        iterate 8 (go_big_quiet_step (fail))
        ((go_big_quiet_want; (with_reducible refine quiet_load (o := ⟨some 87, .load 22 (.tmp 10), _, _, _, _⟩) 22 (.tmp 10) ?_ ⟨u5.heap.size, 0, none⟩ ?_ (.agg (arr a)) ?_ ?_); (· rfl); (· rfl); (· exact fun u hu => (HRa6.out.later hu).load HA8.out)); go_big_quiet_on; simp only [Act.put, List.setIfInBounds_toArray, List.set_cons_succ, List.set_cons_zero])
        ((go_big_quiet_want; (with_reducible refine quiet_load (o := ⟨some 88, .load 22 (.tmp 12), _, _, _, _⟩) 22 (.tmp 12) ?_ ⟨u6.heap.size, 0, none⟩ ?_ (.agg (arr a)) ?_ ?_); (· rfl); (· rfl); (· exact fun u hu => (HRb6.out.later hu).load HA8.out)); go_big_quiet_on; simp only [Act.put, List.setIfInBounds_toArray, List.set_cons_succ, List.set_cons_zero])
        repeat (go_big_quiet_step (fail))
        refine wpQuiet_nil ?_
        intro u hu
        go_wp2
        go_ret
        exact ⟨rfl, Ascii.below2 HB6.out hu⟩
      · have heqp := fun u => eq22 p q H8.out K8.out false (decide_eq_false hpq) u
        have hst := show_same p q H8.out K8.out HP.out HQ.out hpq
        rw [HJ.out, HJ.out] at hst
        clear hpq
        refine Ascii.wp_region_quiet_below (by kernel_rfl) (by kernel_rfl) ?_
        ((go_big_quiet_want; (with_reducible refine quiet_load (o := ⟨some 72, .load 22 (.tmp 3), _, _, _, _⟩) 22 (.tmp 3) ?_ ⟨w.heap.size, 0, none⟩ ?_ (.agg (arr p)) ?_ ?_); (· rfl); (· rfl); (· exact fun u hu => (HT6.out.r1.later hu).load H8.out)); go_big_quiet_on; simp only [Act.put, List.setIfInBounds_toArray, List.set_cons_succ, List.set_cons_zero])
        go_big_quiet_step ((intro hu; go_at_call 16; exact cS.out p (by first | exact .inl rfl | exact .inr rfl) _ hu))
        ((go_big_quiet_want; (with_reducible refine quiet_load (o := ⟨some 74, .load 22 (.tmp 4), _, _, _, _⟩) 22 (.tmp 4) ?_ ⟨(w.heap.size + 1), 0, none⟩ ?_ (.agg (arr q)) ?_ ?_); (· rfl); (· rfl); (· exact fun u hu => (HT6.out.r2.later hu).load K8.out)); go_big_quiet_on; simp only [Act.put, List.setIfInBounds_toArray, List.set_cons_succ, List.set_cons_zero])
        go_big_quiet_step ((intro hu; go_at_call 16; exact cS.out q (by first | exact .inl rfl | exact .inr rfl) _ hu))
        go_big_quiet_step (fail)
        ((go_big_quiet_want; (with_reducible refine quiet_load (o := ⟨some 77, .load 22 (.tmp 3), _, _, _, _⟩) 22 (.tmp 3) ?_ ⟨w.heap.size, 0, none⟩ ?_ (.agg (arr p)) ?_ ?_); (· rfl); (· rfl); (· exact fun u hu => (HT6.out.r1.later hu).load H8.out)); go_big_quiet_on; simp only [Act.put, List.setIfInBounds_toArray, List.set_cons_succ, List.set_cons_zero])
        ((go_big_quiet_want; (with_reducible refine quiet_load (o := ⟨some 78, .load 22 (.tmp 4), _, _, _, _⟩) 22 (.tmp 4) ?_ ⟨(w.heap.size + 1), 0, none⟩ ?_ (.agg (arr q)) ?_ ?_); (· rfl); (· rfl); (· exact fun u hu => (HT6.out.r2.later hu).load K8.out)); go_big_quiet_on; simp only [Act.put, List.setIfInBounds_toArray, List.set_cons_succ, List.set_cons_zero])
        iterate 8 (go_big_quiet_step (fail))
        ((go_big_quiet_want; (with_reducible refine quiet_load (o := ⟨some 87, .load 22 (.tmp 10), _, _, _, _⟩) 22 (.tmp 10) ?_ ⟨u5.heap.size, 0, none⟩ ?_ (.agg (arr a)) ?_ ?_); (· rfl); (· rfl); (· exact fun u hu => (HRa6.out.later hu).load HA8.out)); go_big_quiet_on; simp only [Act.put, List.setIfInBounds_toArray, List.set_cons_succ, List.set_cons_zero])
        ((go_big_quiet_want; (with_reducible refine quiet_load (o := ⟨some 88, .load 22 (.tmp 12), _, _, _, _⟩) 22 (.tmp 12) ?_ ⟨u6.heap.size, 0, none⟩ ?_ (.agg (arr a)) ?_ ?_); (· rfl); (· rfl); (· exact fun u hu => (HRb6.out.later hu).load HA8.out)); go_big_quiet_on; simp only [Act.put, List.setIfInBounds_toArray, List.set_cons_succ, List.set_cons_zero])
        repeat (go_big_quiet_step (fail))
        refine wpQuiet_nil ?_
        intro u hu
        go_wp2
        go_ret
        exact ⟨rfl, Ascii.below2 HB6.out hu⟩
theorem walk (p : List Int) (h8 : p.length = 8) (q : List Int) (k8 : q.length = 8) (s : ByteArray) (w0 : ∀ z ∈ p, (Lit.int .i64 z).wf = true) (w1 : ∀ z ∈ q, (Lit.int .i64 z).wf = true) (w2 : s.size ≤ maxLen) (m : Int) (w : World) (hm : At m w) :
    Calls Tryd.prog 5 #[.agg (arr p), .agg (arr q), .string s] w fun e w' => e = .returned (.bool true) ∧ Below w.heap.size w w' := by
  by_cases h : s.size ≤ 300
  · cases hp : mayP p
    · exact walkNot p q h8 k8 s (decide_eq_false (by omega)) (.inl hp) m w hm
    · cases hq : mayP q
      · exact walkNot p q h8 k8 s (decide_eq_false (by omega)) (.inr ⟨hp, hq⟩) m w hm
      · exact walkIn p q h8 k8 s (decide_eq_false (by omega)) h hp hq m w hm
  · exact walkLong p q s (decide_eq_true (by omega)) m w hm

/-! ### The row's step -/
theorem reads (os : Os) {H : Type} (enc : TypeId × Value → H) : (DataW.whole enc Tryd.prog ((Card.laidWorld os).forCall (fun _ _ => 0) ⟨#[], #[.agg #[.int .i64 0, .int .i64 0, .int .i64 0, .int .i64 0, .int .i64 0, .int .i64 0, .int .i64 0, .int .i64 0], .agg #[.int .i64 0, .int .i64 0, .int .i64 0, .int .i64 0, .int .i64 0, .int .i64 0, .int .i64 0, .int .i64 0], .string ByteArray.empty], []⟩).memory Tryd.f5.params.toList Rows.sixApartSpec.vars false (#[.agg #[.int .i64 0, .int .i64 0, .int .i64 0, .int .i64 0, .int .i64 0, .int .i64 0, .int .i64 0, .int .i64 0], .agg #[.int .i64 0, .int .i64 0, .int .i64 0, .int .i64 0, .int .i64 0, .int .i64 0, .int .i64 0, .int .i64 0], .string ByteArray.empty] : Array Value).toList 8).map (fun x => (x.1, x.2.1)) = some ([.agg [.lit (.int .i64 0), .lit (.int .i64 0), .lit (.int .i64 0), .lit (.int .i64 0), .lit (.int .i64 0), .lit (.int .i64 0), .lit (.int .i64 0), .lit (.int .i64 0)], .agg [.lit (.int .i64 0), .lit (.int .i64 0), .lit (.int .i64 0), .lit (.int .i64 0), .lit (.int .i64 0), .lit (.int .i64 0), .lit (.int .i64 0), .lit (.int .i64 0)], .lit (.string [])], []) := by kernel_rfl
set_option maxRecDepth 100000 in
theorem lifted (os : Os) (started : os.Started) (H : Type) (enc : TypeId × Value → H) (F : Stop.Interp) :
    ReturnsInHanded {} Tryd.checked os 5 .any ((OpenSpec.ofChange Rows.sixApartSpec).preRow enc Tryd.prog Tryd.f5 Rows.sixApartRow.domain false Rows.sixApartRow.laid) (((OpenSpec.ofChange Rows.sixApartSpec).at F).post enc Tryd.prog Tryd.f5 false true false false) := by
  obtain ⟨⟨x1, x2, x3⟩, hx, hx1⟩ := Option.map_eq_some_iff.1 (reads os enc)
  simp only [Prod.mk.injEq] at hx1
  obtain ⟨rfl, rfl⟩ := hx1
  refine returnsInHanded_of_row (C := Tryd.checked) (s := OpenSpec.ofChange Rows.sixApartSpec) own started (by kernel_rfl) Tryd.func5
    (witness_row_at (enc := enc) (C := Tryd.checked) false (Card.laidWorld os) #[.agg #[.int .i64 0, .int .i64 0, .int .i64 0, .int .i64 0, .int .i64 0, .int .i64 0, .int .i64 0, .int .i64 0], .agg #[.int .i64 0, .int .i64 0, .int .i64 0, .int .i64 0, .int .i64 0, .int .i64 0, .int .i64 0, .int .i64 0], .string ByteArray.empty] rfl (by kernel_rfl) (by kernel_rfl) (by kernel_rfl)
      (OpenSpec.preRow_of_cond 8 hx (by kernel_rfl) (fun k hk => by cases hk) (by kernel_rfl) (Card.laid_met os _))) ?_
  intro W base args ds gs before hval0 hW _ _ _ hL hsh _
  obtain ⟨m, hmax⟩ := Card.maxLen_int hsh
  have hm : At m W := ⟨hmax, tab_of hL⟩
  have hval : ∀ (j : Nat) t v, Tryd.f5.params[j]? = some t → args[j]? = some v → Value.okWide Tryd.prog W .any base t v := hval0
  have hW' := hW
  obtain ⟨p, q, hA0, hV, rfl, hfz, hnd⟩ := hW
  have hA : DataW.TrodAll enc Tryd.prog W 0 (fun _ => true) true Tryd.f5.params.toList args.toList ds p := hA0
  rw [Tryd.params5] at hA hval
  obtain ⟨v0, vs0, d0, ds0, p0, q0, hargs0, rfl, rfl, t0, r0⟩ := trodAll_cons hA
  obtain ⟨v1, vs1, d1, ds1, p1, q1, hargs1, rfl, rfl, t1, r1⟩ := trodAll_cons r0
  obtain ⟨v2, vs2, d2, ds2, p2, q2, hargs2, rfl, rfl, t2, r2⟩ := trodAll_cons r1
  obtain ⟨rfl, rfl, rfl⟩ := trodAll_nil r2
  obtain rfl : args = #[v0, v1, v2] := by cases args; simp_all
  obtain ⟨rfl, rfl⟩ := trodVars_none hV
  obtain ⟨a0, l0, rfl, rfl, rfl, w0⟩ := open_row8 (hval 0 22 v0 rfl rfl) t0
  obtain ⟨a1, l1, rfl, rfl, rfl, w1⟩ := open_row8 (hval 1 22 v1 rfl rfl) t1
  obtain ⟨a2, rfl, rfl, rfl, w2⟩ := open_string Tryd.underlying9 (hval 2 9 v2 rfl rfl) t2
  clear hA0 hval0
  simp only [List.append_nil] at hW'
  refine (walk a0 l0 a1 l1 a2 w0 w1 w2 m W hm).mono fun e W' ⟨he, hg⟩ => ?_
  subst he
  exact ⟨_, rfl, _, _, _, [], _, [], hW', trodAll_mk1 (shut_bool Tryd.underlying4 _), (trodAll_cons_mk (shut_row8 l0 w0) (trodAll_cons_mk (shut_row8 l1 w1) (trodAll_cons_mk (shut_string Tryd.underlying9 w2) trodAll_mk0))), rfl, hg.frame _, fun h => by cases h⟩

theorem said : Rows.sixApartRow.holds Tryd.pinned (OpenSpec.ofChange Rows.sixApartSpec) :=
  OpenClaim.holds_of_cond 5 Tryd.f5 rfl rfl rfl rfl rfl rfl rfl ⟨rfl, rfl, rfl, rfl, rfl⟩ rfl rfl rfl rfl rfl (by kernel_rfl) Tryd.func5 (by kernel_rfl)
    (of_decide_eq_true (by kernel_rfl)) (by unfold Func.isWrapper; first | (rw [if_pos (by decide +kernel)]; kernel_rfl) | (rw [if_neg (by decide +kernel)]; exact ⟨rfl, rfl⟩))
    (fun os started H enc _ F => by rw [OpenClaim.pre_eq_preRow]; exact lifted os started H enc F)

/-- No parameter wants a stand-in; the program's own looks are off. -/
theorem plain (f : FuncId) (fn : Func) (hf : Tryd.pinned.checked.prog.funcNamed Rows.sixApartRow.func = some f) (hfn : Tryd.pinned.checked.prog.funcs[f]? = some fn) :
    false = Tryd.pinned.checked.prog.looks [] ∧ ∀ (j : Nat) t, fn.params[j]? = some t → Tryd.pinned.checked.prog.wantsStandIn t = false := by
  obtain rfl : f = 5 := Option.some.inj ((show Tryd.prog.funcNamed Rows.sixApartRow.func = some 5 by kernel_rfl).symm.trans hf) |>.symm
  obtain rfl : fn = Tryd.f5 := (Option.some.inj (Tryd.func5.symm.trans hfn)).symm
  refine ⟨by kernel_rfl, fun j t ht => ?_⟩
  rw [Tryd.params5] at ht
  obtain rfl | rfl : t = 22 ∨ t = 9 := by simpa using Array.mem_of_getElem? ht
  · exact (show Tryd.prog.wantsStandIn 22 = false by kernel_rfl)
  · exact (show Tryd.prog.wantsStandIn 9 = false by kernel_rfl)

/-- The statement: the card. -/
theorem proved : Rows.SixApartCardSaid :=
  Claim7.holds_tied_plain_at .later [] _ _ _ _ said (fun _ h => by cases h) (by kernel_rfl) (fun _ h => by cases h) sixApart_row_tie rfl ⟨rfl, rfl⟩ (by kernel_rfl) rfl plain (by kernel_rfl)
#print axioms proved
end Go.Proofs.YtgfhjigalefkmaaDoor.sixApart

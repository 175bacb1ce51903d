/-
  The law HostKinds holds for every input: a text in brackets is eight pieces, or none; one that looks like a number is one, or none; each other one is a domain, or none. No condition of its own; the card: the five listed tables lie as their texts lay them (tied).
-/
import Derived.Test.YtidmlhefdjpafaaDoorCards
import Derived.Test.YtidmlhefdjpafaaDoorTie
import Derived.WalkKit
import Derived.ProofKit
import Derived.OpenShut
import Derived.ShutString
import Derived.Test.YtidmlhefdjpafaaDoorHOpen
namespace Go.Proofs.YtidmlhefdjpafaaDoor.hostKinds
open Go.ChangeShapes Go.WideShapes Go.ChangeAt Go.RowKit
open Go.ChangeMaps (open_string shut_string)
open Go.Shelf
open Go.Proofs.YtidmlhefdjpafaaDoor.Host
open Go.Proofs.YtidmlhefdjpafaaDoor.Six (arr RowAt zero8)
set_option linter.unusedSimpArgs false
set_option linter.unusedVariables false

theorem own : ownKnob Tryd.prog.godebug = none := by kernel_rfl

set_option maxRecDepth 100000 in
set_option maxHeartbeats 4000000 in
theorem walkLong (s : ByteArray) (d1 : decide ((150 : Int) < (s.size : Int)) = true) (m : Int) (w : World) (hm : Six.At m w) :
    Calls Tryd.prog 6 #[.string s] w fun e w' => e = .returned (.bool true) ∧ Below w.heap.size w w' := by
  have HM := Lib.hid hm
  clear hm
  go_enter Tryd.func6, Tryd.ntmps6
  go_wp2_with fail
  refine (awake_calls m _ HM.out).mono ?_
  rintro e u1 ⟨rfl, hB1⟩
  go_wp2
  go_ret
  exact ⟨rfl, hB1⟩
theorem par_no0 (l : List UInt8) : okH l = false ∨ okH l = true := by cases okH l <;> simp
/-- What the text's first byte, and its looks, say of the host. -/
theorem kinds (l : List UInt8) (h : H) (b : Bool) (hh : parH l = h) (hb : okH l = b) :
    (∃ r, l = 91 :: r) ∧ (b = false ∨ (b = true ∧ (h.k == 3) = true)) ∨ (¬ ∃ r, l = 91 :: r) ∧ ((Four.lookB l = true ∧ Four.parB l = b ∧ (b = false ∨ (b = true ∧ (h.k == 2) = true ∧ h.n = Four.parI l))) ∨ (Four.lookB l = false ∧ (b = false ∨ (b = true ∧ (h.k == 1) = true)))) := by
  by_cases h9 : ∃ r, l = 91 :: r
  · refine .inl ⟨h9, ?_⟩
    cases b
    · exact .inl rfl
    · rcases par_ways l hb with ⟨_, _, e⟩ | ⟨h1, h2, h3, e⟩ | ⟨h1, h2, h3, e⟩
      · exact .inr ⟨rfl, by rw [← hh, e]; rfl⟩
      · obtain ⟨n, hn, el, _⟩ := Four.parB_some l h3
        obtain ⟨r, hr⟩ := h9
        exact absurd (by rw [← el, hr]; simp) (show4_no n)
      · obtain ⟨r, hr⟩ := h9
        refine absurd ?_ (dom_no _ h3)
        rw [hr]
        unfold Ascii.lower
        rw [List.map_cons, show Ascii.lowB 91 = 91 by decide +kernel]
        simp
  · refine .inr ⟨h9, ?_⟩
    have hbk : brkB l = false := by
      cases e : brkB l
      · rfl
      · exact absurd (brk_first l e) h9
    cases hl : Four.lookB l
    · refine .inr ⟨rfl, ?_⟩
      cases b
      · exact .inl rfl
      · rcases par_ways l hb with ⟨h1, _, e⟩ | ⟨h1, h2, h3, e⟩ | ⟨h1, h2, h3, e⟩
        · rw [hbk] at h1; cases h1
        · rw [hl] at h2; cases h2
        · exact .inr ⟨rfl, by rw [← hh, e]; rfl⟩
    · refine .inl ⟨rfl, ?_, ?_⟩
      · rw [← hb]; unfold okH; rw [hbk, hl]; rfl
      · cases b
        · exact .inl rfl
        · rcases par_ways l hb with ⟨h1, _, e⟩ | ⟨h1, h2, h3, e⟩ | ⟨h1, h2, h3, e⟩
          · rw [hbk] at h1; cases h1
          · exact .inr ⟨rfl, by rw [← hh, e]; rfl, by rw [← hh, e]⟩
          · rw [hl] at h2; cases h2
theorem first_byte (s : ByteArray) : (s.size = 0 ∧ ¬ ∃ r, s.data.toList = 91 :: r) ∨ ∃ h0 : 0 < s.size, ((∃ r, s.data.toList = 91 :: r) ∧ (((s[0]'h0).toNat : Int) == 91) = true) ∨ ((¬ ∃ r, s.data.toList = 91 :: r) ∧ (((s[0]'h0).toNat : Int) == 91) = false) := by
  by_cases h0 : 0 < s.size
  · refine .inr ⟨h0, ?_⟩
    have h2 : s.data.toList[0]? = some (s[0]'h0) := List.getElem?_eq_getElem (by exact h0)
    cases e : s.data.toList with
    | nil => rw [e] at h2; cases h2
    | cons c r =>
      rw [e] at h2
      have hc : c = s[0]'h0 := Option.some.inj h2
      by_cases h9 : c = 91
      · exact .inl ⟨⟨r, by rw [h9]⟩, by rw [← hc, h9]; rfl⟩
      · refine .inr ⟨fun ⟨r', h⟩ => h9 (List.cons.inj h).1, ?_⟩
        rw [← hc]
        exact beq_false_of_ne fun e => h9 (UInt8.toNat_inj.1 (by show c.toNat = 91; omega))
  · refine .inl ⟨by omega, fun ⟨r, h⟩ => ?_⟩
    have : s.data.toList.length = s.size := rfl
    rw [h] at this
    simp at this
    omega
set_option maxRecDepth 100000 in
set_option maxHeartbeats 8000000 in
theorem walkIn (s : ByteArray) (d1 : decide ((150 : Int) < (s.size : Int)) = false) (hs : s.size ≤ 150) (m : Int) (w : World) (hm : Six.At m w) :
    Calls Tryd.prog 6 #[.string s] w fun e w' => e = .returned (.bool true) ∧ Below w.heap.size w w' := by
  have HM := Lib.hid hm
  obtain ⟨x, hx⟩ : ∃ x : ByteArray, (⟨#[91]⟩ : ByteArray) ++ s ++ ⟨#[93]⟩ = x := ⟨_, rfl⟩
  have lx : x.data.toList = 91 :: (s.data.toList ++ [93]) := by rw [← hx]; simp
  have sx : x.size ≤ 200 := by
    have e1 : x.size = x.data.toList.length := rfl
    have e2 : s.data.toList.length = s.size := rfl
    rw [e1, lx]; simp; omega
  obtain ⟨p, hp⟩ : ∃ p, Six.parI s.data.toList = p := ⟨_, rfl⟩
  obtain ⟨c, hc⟩ : ∃ c, Six.parB s.data.toList = c := ⟨_, rfl⟩
  obtain ⟨g, hg⟩ : ∃ g, parH x.data.toList = g := ⟨_, rfl⟩
  have hgo : okH x.data.toList = c := by rw [lx, (ok_six _).1, hc]
  have HG := Lib.hid (show c = true → g = ⟨3, ⟨#[]⟩, 0, p⟩ from fun e => by rw [← hg, lx, (ok_six _).2, hc, e, hp]; rfl)
  have G8 := Lib.hid (show g.p.length = 8 by rw [← hg]; exact parH_len _)
  have P8 := Lib.hid (show p.length = 8 by rw [← hp]; exact parI_len _)
  obtain ⟨h, hh⟩ : ∃ h, parH s.data.toList = h := ⟨_, rfl⟩
  obtain ⟨b, hb⟩ : ∃ b, okH s.data.toList = b := ⟨_, rfl⟩
  have H8 := Lib.hid (show h.p.length = 8 by rw [← hh]; exact parH_len _)
  have HK := Lib.hid (kinds _ h b hh hb)
  have HF := Lib.hid (first_byte s)
  obtain ⟨n, hn⟩ : ∃ n, Four.parI s.data.toList = n := ⟨_, rfl⟩
  obtain ⟨fb, hfb⟩ : ∃ fb, Four.parB s.data.toList = fb := ⟨_, rfl⟩
  obtain ⟨lk, hlk⟩ : ∃ lk, Four.lookB s.data.toList = lk := ⟨_, rfl⟩
  rw [hn, hfb, hlk] at HK
  have cX := Lib.hid (fun u (hu : Six.At m u) => parse_any x (by omega) g c hg hgo m u hu)
  have cS := Lib.hid (fun u (hu : Six.At m u) => Six.parse_any s (by omega) p c hp hc m u hu)
  have cP := Lib.hid (fun u (hu : Six.At m u) => parse_any s (by omega) h b hh hb m u hu)
  have cF := Lib.hid (fun u (hu : Six.At m u) => Four.parse_at s (by omega) n fb hn hfb m u hu.max)
  have cL := Lib.hid (fun u => Four.looks_at s (by omega) lk hlk u)
  have HX := Lib.hid hx
  clear hm hx lx sx hp hc hg hgo hh hb hn hfb hlk
  go_enter Tryd.func6, Tryd.ntmps6
  go_wp2_with fail
  refine (awake_calls m _ HM.out).mono ?_
  rintro e u1 ⟨rfl, hB1⟩
  have HB1 := Lib.hid hB1
  have HM1 := Lib.hid (HM.out.later hB1)
  clear hB1 HM
  go_wp2_with fail
  rw [HX.out]
  refine (cX.out _ HM1.out).mono ?_
  rintro e u2 ⟨rfl, hB2⟩
  have hB2' := Ascii.below2 hB2 (below_new u2 g)
  have HB2 := Lib.hid (Ascii.below2 HB1.out hB2')
  have HM2 := Lib.hid (show Six.At m (((u2.alloc (.cells #[.int .i64 0, .string ⟨#[]⟩, .int .i64 0, .int .i64 0, .int .i64 0, .int .i64 0, .int .i64 0, .int .i64 0, .int .i64 0, .int .i64 0, .int .i64 0] 24)).setRow u2.heap.size g.cells)) from HM1.out.later hB2')
  have HN2 := Lib.hid (show HostAt (u2.alloc (.cells #[.int .i64 0, .string ⟨#[]⟩, .int .i64 0, .int .i64 0, .int .i64 0, .int .i64 0, .int .i64 0, .int .i64 0, .int .i64 0, .int .i64 0, .int .i64 0] 24)) u2.heap.size none0 from HostAt.new u2 none0)
  have HG2 := Lib.hid (show HostAt (((u2.alloc (.cells #[.int .i64 0, .string ⟨#[]⟩, .int .i64 0, .int .i64 0, .int .i64 0, .int .i64 0, .int .i64 0, .int .i64 0, .int .i64 0, .int .i64 0, .int .i64 0] 24)).setRow u2.heap.size g.cells)) u2.heap.size g from host_new u2 g)
  clear hB2 hB2' HB1 HM1 cX
  go_wp2_with ((with_reducible refine wp_store24 (o := ⟨none, .store 24 (.tmp 4) (.tmp 26), _, _, _, _⟩) ?_ (.tmp 4) (.tmp 26) ?_ u2.heap.size ?_ g ?_ G8.out none0 ?_ HN2.out ?_); (· rfl); (· rfl); (· rfl); (· rfl); (· rfl))
  refine (cS.out _ HM2.out).mono ?_
  rintro e u3 ⟨rfl, hB3⟩
  have hBn : Below u3.heap.size u3 ((u3.alloc (.cells (arr zero8) 22)).setRow u3.heap.size (arr p)) := Six.below_setRow ((Below.refl _ u3).alloc (Nat.le_refl _) _) (Nat.le_refl _) _
  have hB3' := Ascii.below2 hB3 hBn
  have HB3 := Lib.hid (Ascii.below2 HB2.out hB3')
  have HM3 := Lib.hid (show Six.At m (((u3.alloc (.cells #[.int .i64 0, .int .i64 0, .int .i64 0, .int .i64 0, .int .i64 0, .int .i64 0, .int .i64 0, .int .i64 0] 22)).setRow u3.heap.size (arr p))) from HM2.out.later hB3')
  have HN3 := Lib.hid (show RowAt (u3.alloc (.cells #[.int .i64 0, .int .i64 0, .int .i64 0, .int .i64 0, .int .i64 0, .int .i64 0, .int .i64 0, .int .i64 0] 22)) u3.heap.size zero8 from Six.RowAt.new u3 zero8)
  have HG3 := Lib.hid (show HostAt (((u3.alloc (.cells #[.int .i64 0, .int .i64 0, .int .i64 0, .int .i64 0, .int .i64 0, .int .i64 0, .int .i64 0, .int .i64 0] 22)).setRow u3.heap.size (arr p))) u2.heap.size g from HG2.out.later hB3')
  have HP3 := Lib.hid (show RowAt (((u3.alloc (.cells #[.int .i64 0, .int .i64 0, .int .i64 0, .int .i64 0, .int .i64 0, .int .i64 0, .int .i64 0, .int .i64 0] 22)).setRow u3.heap.size (arr p))) u3.heap.size p from (Six.RowAt.new u3 zero8).row p)
  clear hB3 hB3' hBn HB2 HM2 HN2 HG2 cS
  have hgo : (c = false) ∨ (c = true ∧ (g.k != 3) = false ∧ g.p = p) := by
    cases c
    · exact .inl rfl
    · have := HG.out rfl
      exact .inr ⟨rfl, by rw [this]; rfl, by rw [this]⟩
  have cc : (c != c) = false := by simp
  have cg : (((u3.alloc (.cells #[.int .i64 0, .int .i64 0, .int .i64 0, .int .i64 0, .int .i64 0, .int .i64 0, .int .i64 0, .int .i64 0] 22)).setRow u3.heap.size (arr p))).cell? ⟨u2.heap.size, 0, none⟩ = some (.int .i64 g.k) := (HG3.out.cell 0).trans (cells_at g).1
  have heq := fun u => Six.eq22 p p P8.out P8.out true (by simp) u
  have key : ∀ (Q : Prop), Q → Q := fun _ h => h
  have HSix := Lib.hid (show g.p = p → (loadVar 22 ⟨u2.heap.size, 3, none⟩).run Tryd.prog (((u3.alloc (.cells #[.int .i64 0, .int .i64 0, .int .i64 0, .int .i64 0, .int .i64 0, .int .i64 0, .int .i64 0, .int .i64 0] 22)).setRow u3.heap.size (arr p))) = .ok (.agg (arr p)) (((u3.alloc (.cells #[.int .i64 0, .int .i64 0, .int .i64 0, .int .i64 0, .int .i64 0, .int .i64 0, .int .i64 0, .int .i64 0] 22)).setRow u3.heap.size (arr p))) from fun e => by have h9 := HG3.out.six G8.out; rw [e] at h9; exact h9)
  have HRow := Lib.hid (HP3.out.load P8.out)
  clear key HG
  rcases hgo with rfl | ⟨rfl, hk3, hgp⟩
  · go_wp2_with ((with_reducible refine Six.wp_store22 (o := ⟨none, .store 22 (.tmp 6) (.tmp 31), _, _, _, _⟩) ?_ (.tmp 6) (.tmp 31) ?_ u3.heap.size ?_ p ?_ P8.out zero8 ?_ HN3.out ?_); (· rfl); (· rfl); (· rfl); (· rfl); (· rfl))
    refine (cP.out _ HM3.out).mono ?_
    rintro e u4 ⟨rfl, hB4⟩
    have hB4' := Ascii.below2 hB4 (below_new u4 h)
    have HB4 := Lib.hid (Ascii.below2 HB3.out hB4')
    have HM4 := Lib.hid (show Six.At m (((u4.alloc (.cells #[.int .i64 0, .string ⟨#[]⟩, .int .i64 0, .int .i64 0, .int .i64 0, .int .i64 0, .int .i64 0, .int .i64 0, .int .i64 0, .int .i64 0, .int .i64 0] 24)).setRow u4.heap.size h.cells)) from HM3.out.later hB4')
    have HN4 := Lib.hid (show HostAt (u4.alloc (.cells #[.int .i64 0, .string ⟨#[]⟩, .int .i64 0, .int .i64 0, .int .i64 0, .int .i64 0, .int .i64 0, .int .i64 0, .int .i64 0, .int .i64 0, .int .i64 0] 24)) u4.heap.size none0 from HostAt.new u4 none0)
    have HH4 := Lib.hid (show HostAt (((u4.alloc (.cells #[.int .i64 0, .string ⟨#[]⟩, .int .i64 0, .int .i64 0, .int .i64 0, .int .i64 0, .int .i64 0, .int .i64 0, .int .i64 0, .int .i64 0, .int .i64 0] 24)).setRow u4.heap.size h.cells)) u4.heap.size h from host_new u4 h)
    have ch0 : (((u4.alloc (.cells #[.int .i64 0, .string ⟨#[]⟩, .int .i64 0, .int .i64 0, .int .i64 0, .int .i64 0, .int .i64 0, .int .i64 0, .int .i64 0, .int .i64 0, .int .i64 0] 24)).setRow u4.heap.size h.cells)).cell? ⟨u4.heap.size, 0, none⟩ = some (.int .i64 h.k) := (HH4.out.cell 0).trans (cells_at h).1
    clear hB4 hB4' HB3 HM3 HN3 HG3 HP3 cP
    have hfst : (∃ r, s.data.toList = 91 :: r) ∧ (decide (0 < s.size) = true ∧ 0 < s.size ∧ ∀ h0 : 0 < s.size, (((s[0]'h0).toNat : Int) == 91) = true) ∨ (¬ ∃ r, s.data.toList = 91 :: r) ∧ (decide (0 < s.size) = false ∨ (decide (0 < s.size) = true ∧ 0 < s.size ∧ ∀ h0 : 0 < s.size, (((s[0]'h0).toNat : Int) == 91) = false)) := by
      rcases HF.out with ⟨z, hn⟩ | ⟨h0, ⟨hy, e⟩ | ⟨hn, e⟩⟩
      · exact .inr ⟨hn, .inl (decide_eq_false (by omega))⟩
      · exact .inl ⟨hy, decide_eq_true h0, h0, fun _ => e⟩
      · exact .inr ⟨hn, .inr ⟨decide_eq_true h0, h0, fun _ => e⟩⟩
    have hway : ((decide (0 < s.size) = true ∧ 0 < s.size ∧ ∀ h0 : 0 < s.size, (((s[0]'h0).toNat : Int) == 91) = true) ∧ (b = false ∨ (b = true ∧ (h.k == 3) = true))) ∨
        ((decide (0 < s.size) = false ∨ (decide (0 < s.size) = true ∧ 0 < s.size ∧ ∀ h0 : 0 < s.size, (((s[0]'h0).toNat : Int) == 91) = false)) ∧ ((lk = true ∧ fb = b ∧ (b = false ∨ (b = true ∧ (h.k == 2) = true ∧ h.n = n))) ∨ (lk = false ∧ (b = false ∨ (b = true ∧ (h.k == 1) = true))))) := by
      rcases hfst with ⟨hy, f⟩ | ⟨hn, f⟩
      · rcases HK.out with ⟨_, k⟩ | ⟨hn, _⟩
        · exact .inl ⟨f, k⟩
        · exact absurd hy hn
      · rcases HK.out with ⟨hy, _⟩ | ⟨_, k⟩
        · exact absurd hy hn
        · exact .inr ⟨f, k⟩
    clear hfst HF HK
    rcases hway with ⟨⟨f1, f2, f3⟩, hb3⟩ | ⟨ff, hk⟩
    · rcases hb3 with rfl | ⟨rfl, k3⟩
      all_goals
        go_wp2_with ((with_reducible refine wp_store24 (o := ⟨none, .store 24 (.tmp 8) (.tmp 53), _, _, _, _⟩) ?_ (.tmp 8) (.tmp 53) ?_ u4.heap.size ?_ h ?_ H8.out none0 ?_ HN4.out ?_); (· rfl); (· rfl); (· rfl); (· rfl); (· rfl))
        go_ret
        exact ⟨rfl, HB4.out⟩
    · have HKK := Lib.hid hk
      clear hk
      rcases ff with f1 | ⟨f1, f2, f3⟩
      all_goals
        go_wp2_with ((with_reducible refine wp_store24 (o := ⟨none, .store 24 (.tmp 8) (.tmp 53), _, _, _, _⟩) ?_ (.tmp 8) (.tmp 53) ?_ u4.heap.size ?_ h ?_ H8.out none0 ?_ HN4.out ?_); (· rfl); (· rfl); (· rfl); (· rfl); (· rfl))
        refine (cF.out _ HM4.out).mono ?_
        rintro e u5 ⟨rfl, hB5⟩
        have HB5 := Lib.hid (Ascii.below2 HB4.out hB5)
        have HH5 := Lib.hid (HH4.out.later hB5)
        have ck := (HH5.out.cell 0).trans (cells_at h).1
        have cn := (HH5.out.cell 2).trans (cells_at h).2.2
        clear hB5 HH4 HB4 HM4 HN4 ch0
        go_wp2_with fail
        refine (cL.out _).mono ?_
        rintro e u5' ⟨rfl, rfl⟩
        rcases HKK.out with ⟨rfl, rfl, rfl | ⟨rfl, k2, rfl⟩⟩ | ⟨rfl, rfl | ⟨rfl, k1⟩⟩
        all_goals
          go_wp2
          go_ret
          exact ⟨rfl, HB5.out⟩
  · go_wp2_with (first
      | ((with_reducible refine Six.wp_store22 (o := ⟨none, .store 22 (.tmp 6) (.tmp 31), _, _, _, _⟩) ?_ (.tmp 6) (.tmp 31) ?_ u3.heap.size ?_ p ?_ P8.out zero8 ?_ HN3.out ?_); (· rfl); (· rfl); (· rfl); (· rfl); (· rfl))
      | ((with_reducible refine wp_load_at (o := ⟨some 44, .load 22 (.tmp 43), _, _, _, _⟩) ?_ 22 (.tmp 43) ?_ ⟨u2.heap.size, 3, none⟩ ?_ (.agg (arr p)) (HSix.out hgp) ?_); (· rfl); (· rfl); (· rfl))
      | ((with_reducible refine wp_load_at (o := ⟨some 45, .load 22 (.tmp 6), _, _, _, _⟩) ?_ 22 (.tmp 6) ?_ ⟨u3.heap.size, 0, none⟩ ?_ (.agg (arr p)) HRow.out ?_); (· rfl); (· rfl); (· rfl)))
    refine (cP.out _ HM3.out).mono ?_
    rintro e u4 ⟨rfl, hB4⟩
    have hB4' := Ascii.below2 hB4 (below_new u4 h)
    have HB4 := Lib.hid (Ascii.below2 HB3.out hB4')
    have HM4 := Lib.hid (show Six.At m (((u4.alloc (.cells #[.int .i64 0, .string ⟨#[]⟩, .int .i64 0, .int .i64 0, .int .i64 0, .int .i64 0, .int .i64 0, .int .i64 0, .int .i64 0, .int .i64 0, .int .i64 0] 24)).setRow u4.heap.size h.cells)) from HM3.out.later hB4')
    have HN4 := Lib.hid (show HostAt (u4.alloc (.cells #[.int .i64 0, .string ⟨#[]⟩, .int .i64 0, .int .i64 0, .int .i64 0, .int .i64 0, .int .i64 0, .int .i64 0, .int .i64 0, .int .i64 0, .int .i64 0] 24)) u4.heap.size none0 from HostAt.new u4 none0)
    have HH4 := Lib.hid (show HostAt (((u4.alloc (.cells #[.int .i64 0, .string ⟨#[]⟩, .int .i64 0, .int .i64 0, .int .i64 0, .int .i64 0, .int .i64 0, .int .i64 0, .int .i64 0, .int .i64 0, .int .i64 0] 24)).setRow u4.heap.size h.cells)) u4.heap.size h from host_new u4 h)
    have ch0 : (((u4.alloc (.cells #[.int .i64 0, .string ⟨#[]⟩, .int .i64 0, .int .i64 0, .int .i64 0, .int .i64 0, .int .i64 0, .int .i64 0, .int .i64 0, .int .i64 0, .int .i64 0] 24)).setRow u4.heap.size h.cells)).cell? ⟨u4.heap.size, 0, none⟩ = some (.int .i64 h.k) := (HH4.out.cell 0).trans (cells_at h).1
    clear hB4 hB4' HB3 HM3 HN3 HG3 HP3 cP
    have hfst : (∃ r, s.data.toList = 91 :: r) ∧ (decide (0 < s.size) = true ∧ 0 < s.size ∧ ∀ h0 : 0 < s.size, (((s[0]'h0).toNat : Int) == 91) = true) ∨ (¬ ∃ r, s.data.toList = 91 :: r) ∧ (decide (0 < s.size) = false ∨ (decide (0 < s.size) = true ∧ 0 < s.size ∧ ∀ h0 : 0 < s.size, (((s[0]'h0).toNat : Int) == 91) = false)) := by
      rcases HF.out with ⟨z, hn⟩ | ⟨h0, ⟨hy, e⟩ | ⟨hn, e⟩⟩
      · exact .inr ⟨hn, .inl (decide_eq_false (by omega))⟩
      · exact .inl ⟨hy, decide_eq_true h0, h0, fun _ => e⟩
      · exact .inr ⟨hn, .inr ⟨decide_eq_true h0, h0, fun _ => e⟩⟩
    have hway : ((decide (0 < s.size) = true ∧ 0 < s.size ∧ ∀ h0 : 0 < s.size, (((s[0]'h0).toNat : Int) == 91) = true) ∧ (b = false ∨ (b = true ∧ (h.k == 3) = true))) ∨
        ((decide (0 < s.size) = false ∨ (decide (0 < s.size) = true ∧ 0 < s.size ∧ ∀ h0 : 0 < s.size, (((s[0]'h0).toNat : Int) == 91) = false)) ∧ ((lk = true ∧ fb = b ∧ (b = false ∨ (b = true ∧ (h.k == 2) = true ∧ h.n = n))) ∨ (lk = false ∧ (b = false ∨ (b = true ∧ (h.k == 1) = true))))) := by
      rcases hfst with ⟨hy, f⟩ | ⟨hn, f⟩
      · rcases HK.out with ⟨_, k⟩ | ⟨hn, _⟩
        · exact .inl ⟨f, k⟩
        · exact absurd hy hn
      · rcases HK.out with ⟨hy, _⟩ | ⟨_, k⟩
        · exact absurd hy hn
        · exact .inr ⟨f, k⟩
    clear hfst HF HK
    rcases hway with ⟨⟨f1, f2, f3⟩, hb3⟩ | ⟨ff, hk⟩
    · rcases hb3 with rfl | ⟨rfl, k3⟩
      all_goals
        go_wp2_with ((with_reducible refine wp_store24 (o := ⟨none, .store 24 (.tmp 8) (.tmp 53), _, _, _, _⟩) ?_ (.tmp 8) (.tmp 53) ?_ u4.heap.size ?_ h ?_ H8.out none0 ?_ HN4.out ?_); (· rfl); (· rfl); (· rfl); (· rfl); (· rfl))
        go_ret
        exact ⟨rfl, HB4.out⟩
    · have HKK := Lib.hid hk
      clear hk
      rcases ff with f1 | ⟨f1, f2, f3⟩
      all_goals
        go_wp2_with ((with_reducible refine wp_store24 (o := ⟨none, .store 24 (.tmp 8) (.tmp 53), _, _, _, _⟩) ?_ (.tmp 8) (.tmp 53) ?_ u4.heap.size ?_ h ?_ H8.out none0 ?_ HN4.out ?_); (· rfl); (· rfl); (· rfl); (· rfl); (· rfl))
        refine (cF.out _ HM4.out).mono ?_
        rintro e u5 ⟨rfl, hB5⟩
        have HB5 := Lib.hid (Ascii.below2 HB4.out hB5)
        have HH5 := Lib.hid (HH4.out.later hB5)
        have ck := (HH5.out.cell 0).trans (cells_at h).1
        have cn := (HH5.out.cell 2).trans (cells_at h).2.2
        clear hB5 HH4 HB4 HM4 HN4 ch0
        go_wp2_with fail
        refine (cL.out _).mono ?_
        rintro e u5' ⟨rfl, rfl⟩
        rcases HKK.out with ⟨rfl, rfl, rfl | ⟨rfl, k2, rfl⟩⟩ | ⟨rfl, rfl | ⟨rfl, k1⟩⟩
        all_goals
          go_wp2
          go_ret
          exact ⟨rfl, HB5.out⟩
theorem walk (s : ByteArray) (w0 : s.size ≤ maxLen) (m : Int) (w : World) (hm : Six.At m w) :
    Calls Tryd.prog 6 #[.string s] w fun e w' => e = .returned (.bool true) ∧ Below w.heap.size w w' := by
  by_cases h1 : s.size ≤ 150
  · exact walkIn s (decide_eq_false (by omega)) h1 m w hm
  · exact walkLong s (decide_eq_true (by omega)) m w hm

/-! ### The row's step -/
theorem reads (os : Os) {H : Type} (enc : TypeId × Value → H) : (DataW.whole enc Tryd.prog ((Card.laidWorld os).forCall (fun _ _ => 0) ⟨#[], #[.string ByteArray.empty], []⟩).memory Tryd.f6.params.toList Rows.hostKindsSpec.vars false (#[.string ByteArray.empty] : Array Value).toList 8).map (fun x => (x.1, x.2.1)) = some ([.lit (.string [])], []) := by kernel_rfl
set_option maxRecDepth 100000 in
theorem lifted (os : Os) (started : os.Started) (H : Type) (enc : TypeId × Value → H) (F : Stop.Interp) :
    ReturnsInHanded {} Tryd.checked os 6 .any ((OpenSpec.ofChange Rows.hostKindsSpec).preRow enc Tryd.prog Tryd.f6 Rows.hostKindsRow.domain false Rows.hostKindsRow.laid) (((OpenSpec.ofChange Rows.hostKindsSpec).at F).post enc Tryd.prog Tryd.f6 false true false false) := by
  obtain ⟨⟨x1, x2, x3⟩, hx, hx1⟩ := Option.map_eq_some_iff.1 (reads os enc)
  simp only [Prod.mk.injEq] at hx1
  obtain ⟨rfl, rfl⟩ := hx1
  refine returnsInHanded_of_row (C := Tryd.checked) (s := OpenSpec.ofChange Rows.hostKindsSpec) own started (by kernel_rfl) Tryd.func6
    (witness_row_at (enc := enc) (C := Tryd.checked) false (Card.laidWorld os) #[.string ByteArray.empty] rfl (by kernel_rfl) (by kernel_rfl) (by kernel_rfl)
      (OpenSpec.preRow_of_cond 8 hx (by kernel_rfl) (fun k hk => by cases hk) (by kernel_rfl) (Card.laid_met os _))) ?_
  intro W base args ds gs before hval0 hW _ _ _ hL hsh _
  obtain ⟨m, hmax⟩ := Card.maxLen_int hsh
  have hm : Six.At m W := ⟨hmax, Six.tab_of hL⟩
  have hval : ∀ (j : Nat) t v, Tryd.f6.params[j]? = some t → args[j]? = some v → Value.okWide Tryd.prog W .any base t v := hval0
  have hW' := hW
  obtain ⟨p, q, hA0, hV, rfl, hfz, hnd⟩ := hW
  have hA : DataW.TrodAll enc Tryd.prog W 0 (fun _ => true) true Tryd.f6.params.toList args.toList ds p := hA0
  rw [Tryd.params6] at hA hval
  obtain ⟨v0, vs0, d0, ds0, p0, q0, hargs0, rfl, rfl, t0, r0⟩ := trodAll_cons hA
  obtain ⟨rfl, rfl, rfl⟩ := trodAll_nil r0
  obtain rfl : args = #[v0] := by cases args; simp_all
  obtain ⟨rfl, rfl⟩ := trodVars_none hV
  obtain ⟨a0, rfl, rfl, rfl, w0⟩ := open_string Tryd.underlying9 (hval 0 9 v0 rfl rfl) t0
  clear hA0 hval0
  simp only [List.append_nil] at hW'
  refine (walk a0 w0 m W hm).mono fun e W' ⟨he, hg⟩ => ?_
  subst he
  exact ⟨_, rfl, _, _, _, [], _, [], hW', trodAll_mk1 (shut_bool Tryd.underlying4 _), (trodAll_cons_mk (shut_string Tryd.underlying9 w0) trodAll_mk0), rfl, hg.frame _, fun h => by cases h⟩

theorem said : Rows.hostKindsRow.holds Tryd.pinned (OpenSpec.ofChange Rows.hostKindsSpec) :=
  OpenClaim.holds_of_cond 6 Tryd.f6 rfl rfl rfl rfl rfl rfl rfl ⟨rfl, rfl, rfl, rfl, rfl⟩ rfl rfl rfl rfl rfl (by kernel_rfl) Tryd.func6 (by kernel_rfl)
    (of_decide_eq_true (by kernel_rfl)) (by unfold Func.isWrapper; first | (rw [if_pos (by decide +kernel)]; kernel_rfl) | (rw [if_neg (by decide +kernel)]; exact ⟨rfl, rfl⟩))
    (fun os started H enc _ F => by rw [OpenClaim.pre_eq_preRow]; exact lifted os started H enc F)

/-- No parameter wants a stand-in; the program's own looks are on (a type switch over an interface's values). -/
theorem plain (f : FuncId) (fn : Func) (hf : Tryd.pinned.checked.prog.funcNamed Rows.hostKindsRow.func = some f) (hfn : Tryd.pinned.checked.prog.funcs[f]? = some fn) :
    true = Tryd.pinned.checked.prog.looks [] ∧ ∀ (j : Nat) t, fn.params[j]? = some t → Tryd.pinned.checked.prog.wantsStandIn t = false := by
  obtain rfl : f = 6 := Option.some.inj ((show Tryd.prog.funcNamed Rows.hostKindsRow.func = some 6 by kernel_rfl).symm.trans hf) |>.symm
  obtain rfl : fn = Tryd.f6 := (Option.some.inj (Tryd.func6.symm.trans hfn)).symm
  refine ⟨by kernel_rfl, fun j t ht => ?_⟩
  rw [Tryd.params6] at ht
  obtain rfl : t = 9 := by simpa using Array.mem_of_getElem? ht
  · exact (show Tryd.prog.wantsStandIn 9 = false by kernel_rfl)

/-- The statement: the card. -/
theorem proved : Rows.HostKindsCardSaid :=
  Claim7.holds_tied_plain_at .later [] _ _ _ _ said (fun _ h => by cases h) (by kernel_rfl) (fun _ h => by cases h) hostKinds_row_tie rfl ⟨rfl, rfl⟩ (by kernel_rfl) rfl plain (by kernel_rfl)
#print axioms proved
end Go.Proofs.YtidmlhefdjpafaaDoor.hostKinds

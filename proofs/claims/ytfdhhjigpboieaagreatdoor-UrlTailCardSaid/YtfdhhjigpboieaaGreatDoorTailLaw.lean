/-
  WHAT IS PROVED: the card of UrlTail: of any text of at most 300 bytes, a query and a fragment of at most 100 each (the query without a number sign): what stands ahead of its query and fragment, if it does not end by a low byte, is told again with others behind it, and the address of it is the same but for them.
  CONDITIONS: none but the card's own: the listed tables read as their texts lay them; the texts are any.
-/
import Derived.Test.YtfdhhjigpboieaaGreatDoorCards
import Derived.Test.YtfdhhjigpboieaaGreatDoorTie
import Derived.WalkKit
import Derived.ProofKit
import Derived.OpenShut
import Derived.ShutString
import Derived.ChangeOld
import Derived.Below
import Derived.Test.YtfdhhjigpboieaaGreatDoorUQuiet
namespace Go.Proofs.YtfdhhjigpboieaaGreatDoor.urlTail
open Go.ChangeShapes Go.WideShapes Go.ChangeAt Go.RowKit
open Go.ChangeMaps (open_string shut_string)
open Go.Shelf
open Go.Proofs.YtfdhhjigpboieaaGreatDoor.Url
open Go.Proofs.YtfdhhjigpboieaaGreatDoor.Host (H)
open Go.Proofs.YtfdhhjigpboieaaGreatDoor.Path (Strs)
set_option linter.unusedSimpArgs false
set_option linter.unusedVariables false

theorem own : ownKnob Tryz.prog.godebug = none := by kernel_rfl
theorem laidOut : laidOutB Tryz.prog = true := by kernel_rfl

theorem last_of (t : ByteArray) (h : 0 < t.size) (hb : decide (((t[t.size - 1]).toNat : Int) ≤ 32) = false) : ∃ r c, t.data.toList = r ++ [c] ∧ Ascii.lowish c = false := by
  have hl : t.data.toList ≠ [] := fun e => by rw [← size_list, e] at h; exact absurd h (by simp)
  refine ⟨t.data.toList.dropLast, t.data.toList.getLast hl, (List.dropLast_concat_getLast hl).symm, ?_⟩
  have e : t.data.toList.getLast hl = t[t.size - 1] := by rw [List.getLast_eq_getElem]; rfl
  rw [e]
  unfold Ascii.lowish
  simp only [decide_eq_false_iff_not] at hb ⊢
  omega
theorem bare_none : bare none1 = none1 := rfl
theorem bare8 (v : U) (h : v.h.p.length = 8) : (bare v).h.p.length = 8 := h
theorem tail_same (t q f : T) (h1 : (35 : UInt8) ∉ t) (h2 : (63 : UInt8) ∉ t) (ht : t = [] ∨ ∃ r c, t = r ++ [c] ∧ Ascii.lowish c = false) (hq : (35 : UInt8) ∉ q) :
    okU (t ++ 63 :: 120 :: (q ++ 35 :: 120 :: f)) = okU t ∧ bare (parU (t ++ 63 :: 120 :: (q ++ 35 :: 120 :: f))) = parU t := by
  obtain ⟨a, b⟩ := tail_law t q f h1 h2 ht hq
  refine ⟨a, ?_⟩
  cases hb : okU t
  · have e1 : parU t = none1 := par_none _ hb
    have e2 : parU (t ++ 63 :: 120 :: (q ++ 35 :: 120 :: f)) = none1 := par_none _ (a.trans hb)
    rw [e1, e2]; rfl
  · exact b hb
set_option maxRecDepth 100000 in
set_option maxHeartbeats 16000000 in
theorem walk (a0 a1 a2 : ByteArray) (w0 : a0.size ≤ maxLen) (w1 : a1.size ≤ maxLen) (w2 : a2.size ≤ maxLen) (m : Int) (w : World) (hm : Six.At m w) :
    Calls Tryz.prog 5 #[.string a0, .string a1, .string a2] w fun e w' => e = .returned (.bool true) ∧ Below w.heap.size w w' := by
  unfold maxLen at w0 w1 w2
  go_enter Tryz.func5, Tryz.ntmps5
  go_wp2_with fail
  refine (awake_calls m w hm).mono ?_
  rintro e u1 ⟨rfl, hB1⟩
  have HM1 := Lib.hid (hm.later hB1)
  have HB1 := Lib.hid hB1
  clear hB1 hm
  by_cases h0 : a0.size ≤ 300
  case neg =>
    have q0 : decide ((300 : Int) < (a0.size : Int)) = true := decide_eq_true (by omega)
    go_wp2
    go_ret
    exact ⟨rfl, HB1.out⟩
  have q0 : decide ((300 : Int) < (a0.size : Int)) = false := decide_eq_false (by omega)
  by_cases h1 : a1.size ≤ 100
  case neg =>
    have q1 : decide ((100 : Int) < (a1.size : Int)) = true := decide_eq_true (by omega)
    go_wp2
    go_ret
    exact ⟨rfl, HB1.out⟩
  have q1 : decide ((100 : Int) < (a1.size : Int)) = false := decide_eq_false (by omega)
  by_cases h2 : a2.size ≤ 100
  case neg =>
    have q2 : decide ((100 : Int) < (a2.size : Int)) = true := decide_eq_true (by omega)
    go_wp2
    go_ret
    exact ⟨rfl, HB1.out⟩
  have q2 : decide ((100 : Int) < (a2.size : Int)) = false := decide_eq_false (by omega)
  obtain ⟨n35, n63⟩ := tail_no a0.data.toList
  obtain ⟨t, ht⟩ : ∃ t, tb (tA a0.data.toList) = t := ⟨_, rfl⟩
  obtain ⟨y, hy⟩ : ∃ y, tb (tQ a0.data.toList) = y := ⟨_, rfl⟩
  obtain ⟨z, hz⟩ : ∃ z, tb (tF a0.data.toList) = z := ⟨_, rfl⟩
  obtain ⟨hq, hhq⟩ : ∃ c, tHQ a0.data.toList = c := ⟨_, rfl⟩
  obtain ⟨hf, hhf⟩ : ∃ c, tHF a0.data.toList = c := ⟨_, rfl⟩
  have hts : t.size ≤ 300 := by rw [size_tb ht]; exact Nat.le_trans (Nat.le_trans (bef_len _ _) (bef_len _ _)) h0
  have htl := list_tb ht
  rw [← htl] at n35 n63
  have e1 : hq = true → (t.toList == a0.toList) = false := fun h => by
    rw [Path.tl, Path.tl]
    refine beq_eq_false_iff_ne.2 (fun e => ?_)
    rw [h] at hhq
    exact n63 (e ▸ bef_sub 35 _ _ ((has_iff _ _).1 hhq))
  have e2 : hf = true → (t.toList == a0.toList) = false := fun h => by
    rw [Path.tl, Path.tl]
    refine beq_eq_false_iff_ne.2 (fun e => ?_)
    rw [h] at hhf
    exact n35 (e ▸ (has_iff _ _).1 hhf)
  have E1 := Lib.hid e1
  have E2 := Lib.hid e2
  have N35 := Lib.hid n35
  have N63 := Lib.hid n63
  have CT := Lib.hid (fun u hu => tail_any a0 (by omega) t y z hq hf ht hy hz hhq hhf m u hu)
  clear e1 e2 n35 n63 ht hy hz hhq hhf htl
  go_wp2_with fail
  refine (CT.out _ HM1.out).mono ?_
  rintro e u2 ⟨rfl, hB2⟩
  have HM2 := Lib.hid (HM1.out.later hB2)
  have HB2 := Lib.hid (Ascii.below2 HB1.out hB2)
  clear HM1 HB1 hB2 CT q0 q1 q2
  by_cases hz0 : t.size = 0
  · have q0 : decide ((0 : Int) < (t.size : Int)) = false := decide_eq_false (by omega)
    have LAST := Lib.hid (show t.data.toList = [] ∨ ∃ r c, t.data.toList = r ++ [c] ∧ Ascii.lowish c = false from .inl (List.length_eq_zero_iff.1 hz0))
    go_wp2
    go_loop [13] (fun i => ∃ k : Nat, k ≤ a1.size ∧ i = .int .i64 k ∧ Hid (∀ c ∈ a1.data.toList.take k, c ≠ 35)) (fun i => a1.size - (intOf i).toNat)
    case atStart => exact ⟨0, Nat.zero_le _, rfl, Lib.hid (by simp)⟩
    case round =>
      obtain ⟨k, hk, rfl, HA⟩ := hrel
      by_cases hlt : k < a1.size
      · cases g1 : (((a1[k]).toNat : Int) == 35)
        · have HN := Lib.hid (snoc_all (fun c => c ≠ 35) a1 k hlt HA.out (fun e => by rw [e] at g1; cases g1))
          clear HA
          go_wp2
          go_round
          case rel => exact ⟨k + 1, by omega, by go_num, HN⟩
          case measure => simp [intOf]; omega
        · go_wp2
          go_ret
          exact ⟨rfl, HB2.out⟩
      · obtain rfl : k = a1.size := by omega
        have hno : (35 : UInt8) ∉ a1.data.toList := fun h => take_all (fun c => c ≠ 35) a1 HA.out _ h rfl
        obtain ⟨x1, hx1⟩ : ∃ x, t ++ (⟨#[63]⟩ : ByteArray) ++ a1 ++ ⟨#[35]⟩ ++ a2 = x := ⟨_, rfl⟩
        obtain ⟨x2, hx2⟩ : ∃ x, t ++ (⟨#[63, 120]⟩ : ByteArray) ++ a1 ++ ⟨#[35, 120]⟩ ++ a2 = x := ⟨_, rfl⟩
        have l1 : x1.data.toList = t.data.toList ++ 63 :: (a1.data.toList ++ 35 :: a2.data.toList) := by
          rw [← hx1, Path.text_append, Path.text_append, Path.text_append, Path.text_append, show (⟨#[63]⟩ : ByteArray).data.toList = [63] from rfl, show (⟨#[35]⟩ : ByteArray).data.toList = [35] from rfl]; simp
        have l2 : x2.data.toList = t.data.toList ++ 63 :: 120 :: (a1.data.toList ++ 35 :: 120 :: a2.data.toList) := by
          rw [← hx2, Path.text_append, Path.text_append, Path.text_append, Path.text_append, show (⟨#[63, 120]⟩ : ByteArray).data.toList = [63, 120] from rfl, show (⟨#[35, 120]⟩ : ByteArray).data.toList = [35, 120] from rfl]; simp
        have s1 : x1.size ≤ 600 := by rw [← hx1]; simp only [size_app]; show t.size + 1 + a1.size + 1 + a2.size ≤ 600; omega
        have s2 : x2.size ≤ 600 := by rw [← hx2]; simp only [size_app]; show t.size + 2 + a1.size + 2 + a2.size ≤ 600; omega
        obtain ⟨r1, r2, r3, r4, r5⟩ := tail_of t.data.toList a1.data.toList a2.data.toList N35.out N63.out hno
        have CT := Lib.hid (fun u hu => tail_any x1 (by omega) t a1 a2 true true (by rw [l1, r1, tb_of]) (by rw [l1, r2, tb_of]) (by rw [l1, r3, tb_of]) (by rw [l1, r4]) (by rw [l1, r5]) m u hu)
        obtain ⟨p1, p2⟩ := tail_same t.data.toList a1.data.toList a2.data.toList N35.out N63.out LAST.out hno
        obtain ⟨b, hb⟩ : ∃ b, okU t.data.toList = b := ⟨_, rfl⟩
        obtain ⟨u, hu⟩ : ∃ u : U, parU t.data.toList = u := ⟨_, rfl⟩
        obtain ⟨v, hv⟩ : ∃ v : U, parU x2.data.toList = v := ⟨_, rfl⟩
        have CP1 := Lib.hid (fun w hm => parse_in t (by omega) b hb m w hm)
        have CP2 := Lib.hid (fun w hm => parse_in x2 (by omega) b (by rw [l2, p1]; exact hb) m w hm)
        rw [hu] at CP1
        rw [hv] at CP2
        have H8 := Lib.hid (show u.h.p.length = 8 by rw [← hu]; exact par8 _)
        have H9 := Lib.hid (show v.h.p.length = 8 by rw [← hv]; exact par8 _)
        have hbare : bare v = u := by rw [← hv, l2, p2]; exact hu
        have HBR := Lib.hid hbare
        have HX1 := Lib.hid hx1
        have HX2 := Lib.hid hx2
        clear hx1 hx2 l1 l2 s1 s2 r1 r2 r3 r4 r5 p1 p2 hb hu hv hbare hno HA N35 N63 LAST
        go_wp2_with fail
        rw [HX1.out]
        refine (CT.out _ HM2.out).mono ?_
        rintro e u3 ⟨rfl, hB3⟩
        have HM3 := Lib.hid (HM2.out.later hB3)
        have HB3 := Lib.hid (Ascii.below2 HB2.out hB3)
        clear HM2 HB2 hB3 CT HX1
        go_wp2_with fail
        refine (CP1.out _ HM3.out).mono ?_
        rintro e u4 ⟨pv, rfl, hst, hn, hB4⟩
        have hone := strs_one hst
        have hnew := new_url u4
        have HB5 := Lib.hid (Ascii.below3 HB3.out hB4 (below_url u4 u pv))
        have HM5 := Lib.hid ((HM3.out.later hB4).later (below_url u4 u pv))
        have HS5 := Lib.hid (hst.later (below_url u4 u pv))
        have HU5 := Lib.hid (hnew.row u pv)
        clear CP1 hst hn hB4 HB3 HM3
        go_wp2_with ((with_reducible refine wp_store27 (o := ⟨none, .store 27 (.tmp 19) (.tmp 88), _, _, _, _⟩) ?_ (.tmp 19) (.tmp 88) ?_ u4.heap.size ?_ u pv ?_ H8.out hone none1 (.slice none 0 0) rfl hnew ?_); (· rfl); (· rfl); (· rfl); (· rfl); simp only [Act.put, List.setIfInBounds_toArray, List.set_cons_zero, List.set_cons_succ])
        rw [HX2.out]
        generalize (u4.alloc (.cells #[.string ⟨#[]⟩, .string ⟨#[]⟩, .string ⟨#[]⟩, .int .i64 0, .string ⟨#[]⟩, .int .i64 0, .int .i64 0, .int .i64 0, .int .i64 0, .int .i64 0, .int .i64 0, .int .i64 0, .int .i64 0, .int .i64 0, .int .i64 0, .slice none 0 0, .string ⟨#[]⟩, .string ⟨#[]⟩, .string ⟨#[]⟩, .bool false, .bool false] 27)).setRow u4.heap.size (cU u pv) = u5 at HB5 HM5 HS5 HU5 ⊢
        generalize u4.heap.size = g1 at HU5 ⊢
        clear hnew hone HX2
        refine (CP2.out _ HM5.out).mono ?_
        rintro e u6 ⟨qv, rfl, hst, hn, hB6⟩
        have hone := strs_one hst
        have hnew := new_url u6
        have HT := Lib.hid hst
        have HS := Lib.hid (HS5.out.later hB6)
        have HU := Lib.hid (HU5.out.later hB6)
        have HB := Lib.hid (Ascii.below2 HB5.out hB6)
        have HVr := Lib.hid (hnew.row v qv)
        have HC := Lib.hid (below_set (below_set (below_set (below_set (below_url u6 v qv) (Nat.le_refl _) 17 (.string ⟨#[]⟩)) (Nat.le_refl _) 18 (.string ⟨#[]⟩)) (Nat.le_refl _) 19 (.bool false)) (Nat.le_refl _) 20 (.bool false))
        have HV := Lib.hid (show UrlAt ((((((u6.alloc (.cells #[.string ⟨#[]⟩, .string ⟨#[]⟩, .string ⟨#[]⟩, .int .i64 0, .string ⟨#[]⟩, .int .i64 0, .int .i64 0, .int .i64 0, .int .i64 0, .int .i64 0, .int .i64 0, .int .i64 0, .int .i64 0, .int .i64 0, .int .i64 0, .slice none 0 0, .string ⟨#[]⟩, .string ⟨#[]⟩, .string ⟨#[]⟩, .bool false, .bool false] 27)).setRow u6.heap.size (cU v qv)).setCell ⟨u6.heap.size, 17, none⟩ (.string ⟨#[]⟩)).setCell ⟨u6.heap.size, 18, none⟩ (.string ⟨#[]⟩)).setCell ⟨u6.heap.size, 19, none⟩ (.bool false)).setCell ⟨u6.heap.size, 20, none⟩ (.bool false)) u6.heap.size (bare v) qv from (((HVr.out.qry H9.out []).frg H9.out []).hq H9.out false).hf H9.out false)
        have HU4 := Lib.hid (HU.out.later HC.out)
        have c17 := HVr.out.cell 17
        rw [(cU_at v qv H9.out).2.2.2.2.2.2.2.1] at c17
        have c18 := HVr.out.cell 18
        rw [(cU_at v qv H9.out).2.2.2.2.2.2.2.2.1] at c18
        have c19 := HVr.out.cell 19
        rw [(cU_at v qv H9.out).2.2.2.2.2.2.2.2.2.1] at c19
        have c20 := HVr.out.cell 20
        rw [(cU_at v qv H9.out).2.2.2.2.2.2.2.2.2.2] at c20
        have f17 := HVr.out.free 17
        have f18 := HVr.out.free 18
        have f19 := HVr.out.free 19
        have f20 := HVr.out.free 20
        have HSame := Lib.hid (fun x hx hy => same_any u (bare v) pv qv H8.out (bare8 v H9.out) true ((same_iff _ _).2 HBR.out.symm) x hx hy)
        have HS4 := Lib.hid (HS.out.later HC.out)
        have HT4 := Lib.hid (show Path.Strs _ qv (bare v).path from HT.out.later HC.out)
        have HB4 := Lib.hid (Ascii.below2 HB.out HC.out)
        clear CP2 hst hn hB6 HB5 HM5 HS5 HU5 HT HS HU HB HC
        have e1 := E1.out
        have e2 := E2.out
        clear E1 E2
        cases hq
        · cases hf
          · go_wp2_with (first | ((with_reducible refine wp_store27 (o := ⟨none, .store 27 (.tmp 21) (.tmp 99), _, _, _, _⟩) ?_ (.tmp 21) (.tmp 99) ?_ u6.heap.size ?_ v qv ?_ H9.out hone none1 (.slice none 0 0) rfl hnew ?_); (· rfl); (· rfl); (· rfl); (· rfl); simp only [Act.put, List.setIfInBounds_toArray, List.set_cons_zero, List.set_cons_succ]; generalize (u6.alloc (.cells #[.string ⟨#[]⟩, .string ⟨#[]⟩, .string ⟨#[]⟩, .int .i64 0, .string ⟨#[]⟩, .int .i64 0, .int .i64 0, .int .i64 0, .int .i64 0, .int .i64 0, .int .i64 0, .int .i64 0, .int .i64 0, .int .i64 0, .int .i64 0, .slice none 0 0, .string ⟨#[]⟩, .string ⟨#[]⟩, .string ⟨#[]⟩, .bool false, .bool false] 27)).setRow u6.heap.size (cU v qv) = Wx at HVr HV HU4 HS4 HT4 HB4 c17 c18 c19 c20 f17 f18 f19 f20 ⊢; generalize u6.heap.size = g2 at HVr HV HU4 HS4 HT4 HB4 c17 c18 c19 c20 f17 f18 f19 f20 ⊢; clear hnew) | ((with_reducible refine wp_load27 (o := ⟨some 147, .load 27 (.tmp 19), _, _, _, _⟩) ?_ (.tmp 19) ?_ g1 ?_ u pv H8.out HU4.out ?_); (· rfl); (· rfl); (· rfl); simp only [Act.put, List.setIfInBounds_toArray, List.set_cons_zero, List.set_cons_succ]) | ((with_reducible refine wp_load27 (o := ⟨some 148, .load 27 (.tmp 21), _, _, _, _⟩) ?_ (.tmp 21) ?_ g2 ?_ (bare v) qv (bare8 v H9.out) HV.out ?_); (· rfl); (· rfl); (· rfl); simp only [Act.put, List.setIfInBounds_toArray, List.set_cons_zero, List.set_cons_succ]))
            refine (HSame.out _ HS4.out HT4.out).mono ?_
            rintro e x ⟨rfl, hx⟩
            go_wp2
            go_ret
            exact ⟨rfl, Ascii.below2 HB4.out hx⟩
          · have e2 := e2 rfl
            go_wp2_with (first | ((with_reducible refine wp_store27 (o := ⟨none, .store 27 (.tmp 21) (.tmp 99), _, _, _, _⟩) ?_ (.tmp 21) (.tmp 99) ?_ u6.heap.size ?_ v qv ?_ H9.out hone none1 (.slice none 0 0) rfl hnew ?_); (· rfl); (· rfl); (· rfl); (· rfl); simp only [Act.put, List.setIfInBounds_toArray, List.set_cons_zero, List.set_cons_succ]; generalize (u6.alloc (.cells #[.string ⟨#[]⟩, .string ⟨#[]⟩, .string ⟨#[]⟩, .int .i64 0, .string ⟨#[]⟩, .int .i64 0, .int .i64 0, .int .i64 0, .int .i64 0, .int .i64 0, .int .i64 0, .int .i64 0, .int .i64 0, .int .i64 0, .int .i64 0, .slice none 0 0, .string ⟨#[]⟩, .string ⟨#[]⟩, .string ⟨#[]⟩, .bool false, .bool false] 27)).setRow u6.heap.size (cU v qv) = Wx at HVr HV HU4 HS4 HT4 HB4 c17 c18 c19 c20 f17 f18 f19 f20 ⊢; generalize u6.heap.size = g2 at HVr HV HU4 HS4 HT4 HB4 c17 c18 c19 c20 f17 f18 f19 f20 ⊢; clear hnew) | ((with_reducible refine wp_load27 (o := ⟨some 147, .load 27 (.tmp 19), _, _, _, _⟩) ?_ (.tmp 19) ?_ g1 ?_ u pv H8.out HU4.out ?_); (· rfl); (· rfl); (· rfl); simp only [Act.put, List.setIfInBounds_toArray, List.set_cons_zero, List.set_cons_succ]) | ((with_reducible refine wp_load27 (o := ⟨some 148, .load 27 (.tmp 21), _, _, _, _⟩) ?_ (.tmp 21) ?_ g2 ?_ (bare v) qv (bare8 v H9.out) HV.out ?_); (· rfl); (· rfl); (· rfl); simp only [Act.put, List.setIfInBounds_toArray, List.set_cons_zero, List.set_cons_succ]))
            refine (HSame.out _ HS4.out HT4.out).mono ?_
            rintro e x ⟨rfl, hx⟩
            go_wp2
            go_ret
            exact ⟨rfl, Ascii.below2 HB4.out hx⟩
        · have e1 := e1 rfl
          cases hf
          · go_wp2_with (first | ((with_reducible refine wp_store27 (o := ⟨none, .store 27 (.tmp 21) (.tmp 99), _, _, _, _⟩) ?_ (.tmp 21) (.tmp 99) ?_ u6.heap.size ?_ v qv ?_ H9.out hone none1 (.slice none 0 0) rfl hnew ?_); (· rfl); (· rfl); (· rfl); (· rfl); simp only [Act.put, List.setIfInBounds_toArray, List.set_cons_zero, List.set_cons_succ]; generalize (u6.alloc (.cells #[.string ⟨#[]⟩, .string ⟨#[]⟩, .string ⟨#[]⟩, .int .i64 0, .string ⟨#[]⟩, .int .i64 0, .int .i64 0, .int .i64 0, .int .i64 0, .int .i64 0, .int .i64 0, .int .i64 0, .int .i64 0, .int .i64 0, .int .i64 0, .slice none 0 0, .string ⟨#[]⟩, .string ⟨#[]⟩, .string ⟨#[]⟩, .bool false, .bool false] 27)).setRow u6.heap.size (cU v qv) = Wx at HVr HV HU4 HS4 HT4 HB4 c17 c18 c19 c20 f17 f18 f19 f20 ⊢; generalize u6.heap.size = g2 at HVr HV HU4 HS4 HT4 HB4 c17 c18 c19 c20 f17 f18 f19 f20 ⊢; clear hnew) | ((with_reducible refine wp_load27 (o := ⟨some 147, .load 27 (.tmp 19), _, _, _, _⟩) ?_ (.tmp 19) ?_ g1 ?_ u pv H8.out HU4.out ?_); (· rfl); (· rfl); (· rfl); simp only [Act.put, List.setIfInBounds_toArray, List.set_cons_zero, List.set_cons_succ]) | ((with_reducible refine wp_load27 (o := ⟨some 148, .load 27 (.tmp 21), _, _, _, _⟩) ?_ (.tmp 21) ?_ g2 ?_ (bare v) qv (bare8 v H9.out) HV.out ?_); (· rfl); (· rfl); (· rfl); simp only [Act.put, List.setIfInBounds_toArray, List.set_cons_zero, List.set_cons_succ]))
            refine (HSame.out _ HS4.out HT4.out).mono ?_
            rintro e x ⟨rfl, hx⟩
            go_wp2
            go_ret
            exact ⟨rfl, Ascii.below2 HB4.out hx⟩
          · have e2 := e2 rfl
            go_wp2_with (first | ((with_reducible refine wp_store27 (o := ⟨none, .store 27 (.tmp 21) (.tmp 99), _, _, _, _⟩) ?_ (.tmp 21) (.tmp 99) ?_ u6.heap.size ?_ v qv ?_ H9.out hone none1 (.slice none 0 0) rfl hnew ?_); (· rfl); (· rfl); (· rfl); (· rfl); simp only [Act.put, List.setIfInBounds_toArray, List.set_cons_zero, List.set_cons_succ]; generalize (u6.alloc (.cells #[.string ⟨#[]⟩, .string ⟨#[]⟩, .string ⟨#[]⟩, .int .i64 0, .string ⟨#[]⟩, .int .i64 0, .int .i64 0, .int .i64 0, .int .i64 0, .int .i64 0, .int .i64 0, .int .i64 0, .int .i64 0, .int .i64 0, .int .i64 0, .slice none 0 0, .string ⟨#[]⟩, .string ⟨#[]⟩, .string ⟨#[]⟩, .bool false, .bool false] 27)).setRow u6.heap.size (cU v qv) = Wx at HVr HV HU4 HS4 HT4 HB4 c17 c18 c19 c20 f17 f18 f19 f20 ⊢; generalize u6.heap.size = g2 at HVr HV HU4 HS4 HT4 HB4 c17 c18 c19 c20 f17 f18 f19 f20 ⊢; clear hnew) | ((with_reducible refine wp_load27 (o := ⟨some 147, .load 27 (.tmp 19), _, _, _, _⟩) ?_ (.tmp 19) ?_ g1 ?_ u pv H8.out HU4.out ?_); (· rfl); (· rfl); (· rfl); simp only [Act.put, List.setIfInBounds_toArray, List.set_cons_zero, List.set_cons_succ]) | ((with_reducible refine wp_load27 (o := ⟨some 148, .load 27 (.tmp 21), _, _, _, _⟩) ?_ (.tmp 21) ?_ g2 ?_ (bare v) qv (bare8 v H9.out) HV.out ?_); (· rfl); (· rfl); (· rfl); simp only [Act.put, List.setIfInBounds_toArray, List.set_cons_zero, List.set_cons_succ]))
            refine (HSame.out _ HS4.out HT4.out).mono ?_
            rintro e x ⟨rfl, hx⟩
            go_wp2
            go_ret
            exact ⟨rfl, Ascii.below2 HB4.out hx⟩
  · have hpos : 0 < t.size := by omega
    have q0 : decide ((0 : Int) < (t.size : Int)) = true := decide_eq_true (by omega)
    cases q3 : decide (((t[t.size - 1]'(by omega)).toNat : Int) ≤ 32)
    · have LAST := Lib.hid (show t.data.toList = [] ∨ ∃ r c, t.data.toList = r ++ [c] ∧ Ascii.lowish c = false from .inr (last_of t hpos q3))
      go_wp2
      go_loop [13] (fun i => ∃ k : Nat, k ≤ a1.size ∧ i = .int .i64 k ∧ Hid (∀ c ∈ a1.data.toList.take k, c ≠ 35)) (fun i => a1.size - (intOf i).toNat)
      case atStart => exact ⟨0, Nat.zero_le _, rfl, Lib.hid (by simp)⟩
      case round =>
        obtain ⟨k, hk, rfl, HA⟩ := hrel
        by_cases hlt : k < a1.size
        · cases g1 : (((a1[k]).toNat : Int) == 35)
          · have HN := Lib.hid (snoc_all (fun c => c ≠ 35) a1 k hlt HA.out (fun e => by rw [e] at g1; cases g1))
            clear HA
            go_wp2
            go_round
            case rel => exact ⟨k + 1, by omega, by go_num, HN⟩
            case measure => simp [intOf]; omega
          · go_wp2
            go_ret
            exact ⟨rfl, HB2.out⟩
        · obtain rfl : k = a1.size := by omega
          have hno : (35 : UInt8) ∉ a1.data.toList := fun h => take_all (fun c => c ≠ 35) a1 HA.out _ h rfl
          obtain ⟨x1, hx1⟩ : ∃ x, t ++ (⟨#[63]⟩ : ByteArray) ++ a1 ++ ⟨#[35]⟩ ++ a2 = x := ⟨_, rfl⟩
          obtain ⟨x2, hx2⟩ : ∃ x, t ++ (⟨#[63, 120]⟩ : ByteArray) ++ a1 ++ ⟨#[35, 120]⟩ ++ a2 = x := ⟨_, rfl⟩
          have l1 : x1.data.toList = t.data.toList ++ 63 :: (a1.data.toList ++ 35 :: a2.data.toList) := by
            rw [← hx1, Path.text_append, Path.text_append, Path.text_append, Path.text_append, show (⟨#[63]⟩ : ByteArray).data.toList = [63] from rfl, show (⟨#[35]⟩ : ByteArray).data.toList = [35] from rfl]; simp
          have l2 : x2.data.toList = t.data.toList ++ 63 :: 120 :: (a1.data.toList ++ 35 :: 120 :: a2.data.toList) := by
            rw [← hx2, Path.text_append, Path.text_append, Path.text_append, Path.text_append, show (⟨#[63, 120]⟩ : ByteArray).data.toList = [63, 120] from rfl, show (⟨#[35, 120]⟩ : ByteArray).data.toList = [35, 120] from rfl]; simp
          have s1 : x1.size ≤ 600 := by rw [← hx1]; simp only [size_app]; show t.size + 1 + a1.size + 1 + a2.size ≤ 600; omega
          have s2 : x2.size ≤ 600 := by rw [← hx2]; simp only [size_app]; show t.size + 2 + a1.size + 2 + a2.size ≤ 600; omega
          obtain ⟨r1, r2, r3, r4, r5⟩ := tail_of t.data.toList a1.data.toList a2.data.toList N35.out N63.out hno
          have CT := Lib.hid (fun u hu => tail_any x1 (by omega) t a1 a2 true true (by rw [l1, r1, tb_of]) (by rw [l1, r2, tb_of]) (by rw [l1, r3, tb_of]) (by rw [l1, r4]) (by rw [l1, r5]) m u hu)
          obtain ⟨p1, p2⟩ := tail_same t.data.toList a1.data.toList a2.data.toList N35.out N63.out LAST.out hno
          obtain ⟨b, hb⟩ : ∃ b, okU t.data.toList = b := ⟨_, rfl⟩
          obtain ⟨u, hu⟩ : ∃ u : U, parU t.data.toList = u := ⟨_, rfl⟩
          obtain ⟨v, hv⟩ : ∃ v : U, parU x2.data.toList = v := ⟨_, rfl⟩
          have CP1 := Lib.hid (fun w hm => parse_in t (by omega) b hb m w hm)
          have CP2 := Lib.hid (fun w hm => parse_in x2 (by omega) b (by rw [l2, p1]; exact hb) m w hm)
          rw [hu] at CP1
          rw [hv] at CP2
          have H8 := Lib.hid (show u.h.p.length = 8 by rw [← hu]; exact par8 _)
          have H9 := Lib.hid (show v.h.p.length = 8 by rw [← hv]; exact par8 _)
          have hbare : bare v = u := by rw [← hv, l2, p2]; exact hu
          have HBR := Lib.hid hbare
          have HX1 := Lib.hid hx1
          have HX2 := Lib.hid hx2
          clear hx1 hx2 l1 l2 s1 s2 r1 r2 r3 r4 r5 p1 p2 hb hu hv hbare hno HA N35 N63 LAST
          go_wp2_with fail
          rw [HX1.out]
          refine (CT.out _ HM2.out).mono ?_
          rintro e u3 ⟨rfl, hB3⟩
          have HM3 := Lib.hid (HM2.out.later hB3)
          have HB3 := Lib.hid (Ascii.below2 HB2.out hB3)
          clear HM2 HB2 hB3 CT HX1
          go_wp2_with fail
          refine (CP1.out _ HM3.out).mono ?_
          rintro e u4 ⟨pv, rfl, hst, hn, hB4⟩
          have hone := strs_one hst
          have hnew := new_url u4
          have HB5 := Lib.hid (Ascii.below3 HB3.out hB4 (below_url u4 u pv))
          have HM5 := Lib.hid ((HM3.out.later hB4).later (below_url u4 u pv))
          have HS5 := Lib.hid (hst.later (below_url u4 u pv))
          have HU5 := Lib.hid (hnew.row u pv)
          clear CP1 hst hn hB4 HB3 HM3
          go_wp2_with ((with_reducible refine wp_store27 (o := ⟨none, .store 27 (.tmp 19) (.tmp 88), _, _, _, _⟩) ?_ (.tmp 19) (.tmp 88) ?_ u4.heap.size ?_ u pv ?_ H8.out hone none1 (.slice none 0 0) rfl hnew ?_); (· rfl); (· rfl); (· rfl); (· rfl); simp only [Act.put, List.setIfInBounds_toArray, List.set_cons_zero, List.set_cons_succ])
          rw [HX2.out]
          generalize (u4.alloc (.cells #[.string ⟨#[]⟩, .string ⟨#[]⟩, .string ⟨#[]⟩, .int .i64 0, .string ⟨#[]⟩, .int .i64 0, .int .i64 0, .int .i64 0, .int .i64 0, .int .i64 0, .int .i64 0, .int .i64 0, .int .i64 0, .int .i64 0, .int .i64 0, .slice none 0 0, .string ⟨#[]⟩, .string ⟨#[]⟩, .string ⟨#[]⟩, .bool false, .bool false] 27)).setRow u4.heap.size (cU u pv) = u5 at HB5 HM5 HS5 HU5 ⊢
          generalize u4.heap.size = g1 at HU5 ⊢
          clear hnew hone HX2
          refine (CP2.out _ HM5.out).mono ?_
          rintro e u6 ⟨qv, rfl, hst, hn, hB6⟩
          have hone := strs_one hst
          have hnew := new_url u6
          have HT := Lib.hid hst
          have HS := Lib.hid (HS5.out.later hB6)
          have HU := Lib.hid (HU5.out.later hB6)
          have HB := Lib.hid (Ascii.below2 HB5.out hB6)
          have HVr := Lib.hid (hnew.row v qv)
          have HC := Lib.hid (below_set (below_set (below_set (below_set (below_url u6 v qv) (Nat.le_refl _) 17 (.string ⟨#[]⟩)) (Nat.le_refl _) 18 (.string ⟨#[]⟩)) (Nat.le_refl _) 19 (.bool false)) (Nat.le_refl _) 20 (.bool false))
          have HV := Lib.hid (show UrlAt ((((((u6.alloc (.cells #[.string ⟨#[]⟩, .string ⟨#[]⟩, .string ⟨#[]⟩, .int .i64 0, .string ⟨#[]⟩, .int .i64 0, .int .i64 0, .int .i64 0, .int .i64 0, .int .i64 0, .int .i64 0, .int .i64 0, .int .i64 0, .int .i64 0, .int .i64 0, .slice none 0 0, .string ⟨#[]⟩, .string ⟨#[]⟩, .string ⟨#[]⟩, .bool false, .bool false] 27)).setRow u6.heap.size (cU v qv)).setCell ⟨u6.heap.size, 17, none⟩ (.string ⟨#[]⟩)).setCell ⟨u6.heap.size, 18, none⟩ (.string ⟨#[]⟩)).setCell ⟨u6.heap.size, 19, none⟩ (.bool false)).setCell ⟨u6.heap.size, 20, none⟩ (.bool false)) u6.heap.size (bare v) qv from (((HVr.out.qry H9.out []).frg H9.out []).hq H9.out false).hf H9.out false)
          have HU4 := Lib.hid (HU.out.later HC.out)
          have c17 := HVr.out.cell 17
          rw [(cU_at v qv H9.out).2.2.2.2.2.2.2.1] at c17
          have c18 := HVr.out.cell 18
          rw [(cU_at v qv H9.out).2.2.2.2.2.2.2.2.1] at c18
          have c19 := HVr.out.cell 19
          rw [(cU_at v qv H9.out).2.2.2.2.2.2.2.2.2.1] at c19
          have c20 := HVr.out.cell 20
          rw [(cU_at v qv H9.out).2.2.2.2.2.2.2.2.2.2] at c20
          have f17 := HVr.out.free 17
          have f18 := HVr.out.free 18
          have f19 := HVr.out.free 19
          have f20 := HVr.out.free 20
          have HSame := Lib.hid (fun x hx hy => same_any u (bare v) pv qv H8.out (bare8 v H9.out) true ((same_iff _ _).2 HBR.out.symm) x hx hy)
          have HS4 := Lib.hid (HS.out.later HC.out)
          have HT4 := Lib.hid (show Path.Strs _ qv (bare v).path from HT.out.later HC.out)
          have HB4 := Lib.hid (Ascii.below2 HB.out HC.out)
          clear CP2 hst hn hB6 HB5 HM5 HS5 HU5 HT HS HU HB HC
          have e1 := E1.out
          have e2 := E2.out
          clear E1 E2
          cases hq
          · cases hf
            · go_wp2_with (first | ((with_reducible refine wp_store27 (o := ⟨none, .store 27 (.tmp 21) (.tmp 99), _, _, _, _⟩) ?_ (.tmp 21) (.tmp 99) ?_ u6.heap.size ?_ v qv ?_ H9.out hone none1 (.slice none 0 0) rfl hnew ?_); (· rfl); (· rfl); (· rfl); (· rfl); simp only [Act.put, List.setIfInBounds_toArray, List.set_cons_zero, List.set_cons_succ]; generalize (u6.alloc (.cells #[.string ⟨#[]⟩, .string ⟨#[]⟩, .string ⟨#[]⟩, .int .i64 0, .string ⟨#[]⟩, .int .i64 0, .int .i64 0, .int .i64 0, .int .i64 0, .int .i64 0, .int .i64 0, .int .i64 0, .int .i64 0, .int .i64 0, .int .i64 0, .slice none 0 0, .string ⟨#[]⟩, .string ⟨#[]⟩, .string ⟨#[]⟩, .bool false, .bool false] 27)).setRow u6.heap.size (cU v qv) = Wx at HVr HV HU4 HS4 HT4 HB4 c17 c18 c19 c20 f17 f18 f19 f20 ⊢; generalize u6.heap.size = g2 at HVr HV HU4 HS4 HT4 HB4 c17 c18 c19 c20 f17 f18 f19 f20 ⊢; clear hnew) | ((with_reducible refine wp_load27 (o := ⟨some 147, .load 27 (.tmp 19), _, _, _, _⟩) ?_ (.tmp 19) ?_ g1 ?_ u pv H8.out HU4.out ?_); (· rfl); (· rfl); (· rfl); simp only [Act.put, List.setIfInBounds_toArray, List.set_cons_zero, List.set_cons_succ]) | ((with_reducible refine wp_load27 (o := ⟨some 148, .load 27 (.tmp 21), _, _, _, _⟩) ?_ (.tmp 21) ?_ g2 ?_ (bare v) qv (bare8 v H9.out) HV.out ?_); (· rfl); (· rfl); (· rfl); simp only [Act.put, List.setIfInBounds_toArray, List.set_cons_zero, List.set_cons_succ]))
              refine (HSame.out _ HS4.out HT4.out).mono ?_
              rintro e x ⟨rfl, hx⟩
              go_wp2
              go_ret
              exact ⟨rfl, Ascii.below2 HB4.out hx⟩
            · have e2 := e2 rfl
              go_wp2_with (first | ((with_reducible refine wp_store27 (o := ⟨none, .store 27 (.tmp 21) (.tmp 99), _, _, _, _⟩) ?_ (.tmp 21) (.tmp 99) ?_ u6.heap.size ?_ v qv ?_ H9.out hone none1 (.slice none 0 0) rfl hnew ?_); (· rfl); (· rfl); (· rfl); (· rfl); simp only [Act.put, List.setIfInBounds_toArray, List.set_cons_zero, List.set_cons_succ]; generalize (u6.alloc (.cells #[.string ⟨#[]⟩, .string ⟨#[]⟩, .string ⟨#[]⟩, .int .i64 0, .string ⟨#[]⟩, .int .i64 0, .int .i64 0, .int .i64 0, .int .i64 0, .int .i64 0, .int .i64 0, .int .i64 0, .int .i64 0, .int .i64 0, .int .i64 0, .slice none 0 0, .string ⟨#[]⟩, .string ⟨#[]⟩, .string ⟨#[]⟩, .bool false, .bool false] 27)).setRow u6.heap.size (cU v qv) = Wx at HVr HV HU4 HS4 HT4 HB4 c17 c18 c19 c20 f17 f18 f19 f20 ⊢; generalize u6.heap.size = g2 at HVr HV HU4 HS4 HT4 HB4 c17 c18 c19 c20 f17 f18 f19 f20 ⊢; clear hnew) | ((with_reducible refine wp_load27 (o := ⟨some 147, .load 27 (.tmp 19), _, _, _, _⟩) ?_ (.tmp 19) ?_ g1 ?_ u pv H8.out HU4.out ?_); (· rfl); (· rfl); (· rfl); simp only [Act.put, List.setIfInBounds_toArray, List.set_cons_zero, List.set_cons_succ]) | ((with_reducible refine wp_load27 (o := ⟨some 148, .load 27 (.tmp 21), _, _, _, _⟩) ?_ (.tmp 21) ?_ g2 ?_ (bare v) qv (bare8 v H9.out) HV.out ?_); (· rfl); (· rfl); (· rfl); simp only [Act.put, List.setIfInBounds_toArray, List.set_cons_zero, List.set_cons_succ]))
              refine (HSame.out _ HS4.out HT4.out).mono ?_
              rintro e x ⟨rfl, hx⟩
              go_wp2
              go_ret
              exact ⟨rfl, Ascii.below2 HB4.out hx⟩
          · have e1 := e1 rfl
            cases hf
            · go_wp2_with (first | ((with_reducible refine wp_store27 (o := ⟨none, .store 27 (.tmp 21) (.tmp 99), _, _, _, _⟩) ?_ (.tmp 21) (.tmp 99) ?_ u6.heap.size ?_ v qv ?_ H9.out hone none1 (.slice none 0 0) rfl hnew ?_); (· rfl); (· rfl); (· rfl); (· rfl); simp only [Act.put, List.setIfInBounds_toArray, List.set_cons_zero, List.set_cons_succ]; generalize (u6.alloc (.cells #[.string ⟨#[]⟩, .string ⟨#[]⟩, .string ⟨#[]⟩, .int .i64 0, .string ⟨#[]⟩, .int .i64 0, .int .i64 0, .int .i64 0, .int .i64 0, .int .i64 0, .int .i64 0, .int .i64 0, .int .i64 0, .int .i64 0, .int .i64 0, .slice none 0 0, .string ⟨#[]⟩, .string ⟨#[]⟩, .string ⟨#[]⟩, .bool false, .bool false] 27)).setRow u6.heap.size (cU v qv) = Wx at HVr HV HU4 HS4 HT4 HB4 c17 c18 c19 c20 f17 f18 f19 f20 ⊢; generalize u6.heap.size = g2 at HVr HV HU4 HS4 HT4 HB4 c17 c18 c19 c20 f17 f18 f19 f20 ⊢; clear hnew) | ((with_reducible refine wp_load27 (o := ⟨some 147, .load 27 (.tmp 19), _, _, _, _⟩) ?_ (.tmp 19) ?_ g1 ?_ u pv H8.out HU4.out ?_); (· rfl); (· rfl); (· rfl); simp only [Act.put, List.setIfInBounds_toArray, List.set_cons_zero, List.set_cons_succ]) | ((with_reducible refine wp_load27 (o := ⟨some 148, .load 27 (.tmp 21), _, _, _, _⟩) ?_ (.tmp 21) ?_ g2 ?_ (bare v) qv (bare8 v H9.out) HV.out ?_); (· rfl); (· rfl); (· rfl); simp only [Act.put, List.setIfInBounds_toArray, List.set_cons_zero, List.set_cons_succ]))
              refine (HSame.out _ HS4.out HT4.out).mono ?_
              rintro e x ⟨rfl, hx⟩
              go_wp2
              go_ret
              exact ⟨rfl, Ascii.below2 HB4.out hx⟩
            · have e2 := e2 rfl
              go_wp2_with (first | ((with_reducible refine wp_store27 (o := ⟨none, .store 27 (.tmp 21) (.tmp 99), _, _, _, _⟩) ?_ (.tmp 21) (.tmp 99) ?_ u6.heap.size ?_ v qv ?_ H9.out hone none1 (.slice none 0 0) rfl hnew ?_); (· rfl); (· rfl); (· rfl); (· rfl); simp only [Act.put, List.setIfInBounds_toArray, List.set_cons_zero, List.set_cons_succ]; generalize (u6.alloc (.cells #[.string ⟨#[]⟩, .string ⟨#[]⟩, .string ⟨#[]⟩, .int .i64 0, .string ⟨#[]⟩, .int .i64 0, .int .i64 0, .int .i64 0, .int .i64 0, .int .i64 0, .int .i64 0, .int .i64 0, .int .i64 0, .int .i64 0, .int .i64 0, .slice none 0 0, .string ⟨#[]⟩, .string ⟨#[]⟩, .string ⟨#[]⟩, .bool false, .bool false] 27)).setRow u6.heap.size (cU v qv) = Wx at HVr HV HU4 HS4 HT4 HB4 c17 c18 c19 c20 f17 f18 f19 f20 ⊢; generalize u6.heap.size = g2 at HVr HV HU4 HS4 HT4 HB4 c17 c18 c19 c20 f17 f18 f19 f20 ⊢; clear hnew) | ((with_reducible refine wp_load27 (o := ⟨some 147, .load 27 (.tmp 19), _, _, _, _⟩) ?_ (.tmp 19) ?_ g1 ?_ u pv H8.out HU4.out ?_); (· rfl); (· rfl); (· rfl); simp only [Act.put, List.setIfInBounds_toArray, List.set_cons_zero, List.set_cons_succ]) | ((with_reducible refine wp_load27 (o := ⟨some 148, .load 27 (.tmp 21), _, _, _, _⟩) ?_ (.tmp 21) ?_ g2 ?_ (bare v) qv (bare8 v H9.out) HV.out ?_); (· rfl); (· rfl); (· rfl); simp only [Act.put, List.setIfInBounds_toArray, List.set_cons_zero, List.set_cons_succ]))
              refine (HSame.out _ HS4.out HT4.out).mono ?_
              rintro e x ⟨rfl, hx⟩
              go_wp2
              go_ret
              exact ⟨rfl, Ascii.below2 HB4.out hx⟩
    · go_wp2
      go_ret
      exact ⟨rfl, HB2.out⟩

/-! ### The row's step -/
theorem reads (os : Os) {H : Type} (enc : TypeId × Value → H) : (DataW.whole enc Tryz.prog ((Card.laidWorld os).forCall (fun _ _ => 0) ⟨#[], #[.string ByteArray.empty, .string ByteArray.empty, .string ByteArray.empty], []⟩).memory Tryz.f5.params.toList Rows.urlTailSpec.vars false (#[.string ByteArray.empty, .string ByteArray.empty, .string ByteArray.empty] : Array Value).toList 8).map (fun x => (x.1, x.2.1)) = some ([.lit (.string []), .lit (.string []), .lit (.string [])], []) := by kernel_rfl
set_option maxRecDepth 100000 in
theorem lifted (os : Os) (started : os.Started) (H : Type) (enc : TypeId × Value → H) (F : Stop.Interp) :
    ReturnsInHanded {} Tryz.checked os 5 .any ((OpenSpec.ofChange Rows.urlTailSpec).preRow enc Tryz.prog Tryz.f5 Rows.urlTailRow.domain false Rows.urlTailRow.laid) (((OpenSpec.ofChange Rows.urlTailSpec).at F).post enc Tryz.prog Tryz.f5 false true false false) := by
  obtain ⟨⟨x1, x2, x3⟩, hx, hx1⟩ := Option.map_eq_some_iff.1 (reads os enc)
  simp only [Prod.mk.injEq] at hx1
  obtain ⟨rfl, rfl⟩ := hx1
  refine returnsInHanded_of_row (C := Tryz.checked) (s := OpenSpec.ofChange Rows.urlTailSpec) own started (by kernel_rfl) Tryz.func5
    (witness_row_at (enc := enc) (C := Tryz.checked) false (Card.laidWorld os) #[.string ByteArray.empty, .string ByteArray.empty, .string ByteArray.empty] rfl (by kernel_rfl) (by kernel_rfl) (by kernel_rfl)
      (OpenSpec.preRow_of_cond 8 hx (by kernel_rfl) (fun k hk => by cases hk) (by kernel_rfl) (Card.laid_met os _))) ?_
  intro W base args ds gs before hval0 hW _ _ _ hL hsh _
  obtain ⟨m, hmax⟩ := Card.maxLen_int hsh
  have hm : Six.At m W := ⟨hmax, Six.tab_of hL⟩
  have hval : ∀ (j : Nat) t v, Tryz.f5.params[j]? = some t → args[j]? = some v → Value.okWide Tryz.prog W .any base t v := hval0
  have hW' := hW
  obtain ⟨p, q, hA0, hV, rfl, hfz, hnd⟩ := hW
  have hA : DataW.TrodAll enc Tryz.prog W 0 (fun _ => true) true Tryz.f5.params.toList args.toList ds p := hA0
  rw [Tryz.params5] at hA hval
  obtain ⟨v0, vs0, d0, ds0, p0, q0, hargs0, rfl, rfl, t0, r0⟩ := trodAll_cons hA
  obtain ⟨v1, vs1, d1, ds1, p1, q1, hargs1, rfl, rfl, t1, r1⟩ := trodAll_cons r0
  obtain ⟨v2, vs2, d2, ds2, p2, q2, hargs2, rfl, rfl, t2, r2⟩ := trodAll_cons r1
  obtain ⟨rfl, rfl, rfl⟩ := trodAll_nil r2
  obtain rfl : args = #[v0, v1, v2] := by cases args; simp_all
  obtain ⟨rfl, rfl⟩ := trodVars_none hV
  obtain ⟨a0, rfl, rfl, rfl, w0⟩ := open_string Tryz.underlying9 (hval 0 9 v0 rfl rfl) t0
  obtain ⟨a1, rfl, rfl, rfl, w1⟩ := open_string Tryz.underlying9 (hval 1 9 v1 rfl rfl) t1
  obtain ⟨a2, rfl, rfl, rfl, w2⟩ := open_string Tryz.underlying9 (hval 2 9 v2 rfl rfl) t2
  clear hA0 hval0
  simp only [List.append_nil] at hW'
  refine (walk a0 a1 a2 w0 w1 w2 m W hm ).mono fun e W' ⟨he, bel⟩ => ?_
  subst he
  exact ⟨_, rfl, _, _, _, [], _, [], hW', trodAll_mk1 (shut_bool Tryz.underlying4 _), (trodAll_cons_mk (shut_string Tryz.underlying9 w0) (trodAll_cons_mk (shut_string Tryz.underlying9 w1) (trodAll_cons_mk (shut_string Tryz.underlying9 w2) trodAll_mk0))), rfl, bel.frame _, fun h => by cases h⟩

theorem said : Rows.urlTailRow.holds Tryz.pinned (OpenSpec.ofChange Rows.urlTailSpec) :=
  OpenClaim.holds_of_cond 5 Tryz.f5 rfl rfl rfl rfl rfl rfl rfl ⟨rfl, rfl, rfl, rfl, rfl⟩ rfl rfl rfl rfl rfl (by kernel_rfl) Tryz.func5 (by kernel_rfl)
    (of_decide_eq_true (by kernel_rfl)) (by unfold Func.isWrapper; first | (rw [if_pos (by decide +kernel)]; kernel_rfl) | (rw [if_neg (by decide +kernel)]; exact ⟨rfl, rfl⟩))
    (fun os started H enc _ F => by rw [OpenClaim.pre_eq_preRow]; exact lifted os started H enc F)

/-- No parameter wants a stand-in; the program's own looks are on. -/
theorem plain (f : FuncId) (fn : Func) (hf : Tryz.pinned.checked.prog.funcNamed Rows.urlTailRow.func = some f) (hfn : Tryz.pinned.checked.prog.funcs[f]? = some fn) :
    true = Tryz.pinned.checked.prog.looks [] ∧ ∀ (j : Nat) t, fn.params[j]? = some t → Tryz.pinned.checked.prog.wantsStandIn t = false := by
  obtain rfl : f = 5 := Option.some.inj ((show Tryz.prog.funcNamed Rows.urlTailRow.func = some 5 by kernel_rfl).symm.trans hf) |>.symm
  obtain rfl : fn = Tryz.f5 := (Option.some.inj (Tryz.func5.symm.trans hfn)).symm
  refine ⟨by kernel_rfl, fun j t ht => ?_⟩
  rw [Tryz.params5] at ht
  obtain rfl : t = 9 := by simpa using Array.mem_of_getElem? ht
  · exact (show Tryz.prog.wantsStandIn 9 = false by kernel_rfl)

/-- The statement: the card. -/
theorem proved : Rows.UrlTailCardSaid :=
  Claim7.holds_tied_plain_at .later [] _ _ _ _ said (fun _ h => by cases h) (by kernel_rfl) (fun _ h => by cases h) urlTail_row_tie rfl ⟨rfl, rfl⟩ (by kernel_rfl) rfl plain (by kernel_rfl)
#print axioms proved
end Go.Proofs.YtfdhhjigpboieaaGreatDoor.urlTail

/-
  host's Show and Local.
-/
import Derived.Test.YtidmlhefdjpafaaDoorHTold
namespace Go.Proofs.YtidmlhefdjpafaaDoor.Host
open Go.RowKit
open Six (arr RowAt zero8)
set_option linter.unusedSimpArgs false
set_option linter.unusedVariables false
/-- A host's text. -/
def showH (h : H) : List UInt8 := if mayH h then (if h.k = 1 then h.s.data.toList else if h.k = 2 then Four.showF h.n else 91 :: (Six.showS h.p ++ [93])) else []
set_option maxRecDepth 100000 in
set_option maxHeartbeats 4000000 in
theorem show_in (h : H) (h8 : h.p.length = 8) (hs : h.s.size ≤ 1000) (x : ByteArray) (hx : (⟨(showH h).toArray⟩ : ByteArray) = x) (m : Int) (w : World) (hm : Six.At m w) :
    Calls Tryd.prog 9 #[.agg h.cells] w fun e w' => e = .returned (.string x) ∧ Below w.heap.size w w' := by
  have HB0 := Lib.hid (show Below w.heap.size w (w.alloc (.cells h.cells 24)) from (Below.refl _ w).alloc (Nat.le_refl _) _)
  have HR0 := Lib.hid (HostAt.new w h)
  have HM := Lib.hid (hm.later HB0.out)
  obtain ⟨v, hv⟩ : ∃ v, whatH h = v := ⟨_, rfl⟩
  have cT := Lib.hid (fun u (hu : Six.At m u) => told_any h h8 hs v hv m u hu)
  have H8 := Lib.hid h8
  have HH := Lib.hid (what_cases h)
  have HX := Lib.hid hx
  have HV := Lib.hid hv
  have HS := Lib.hid hs
  clear hm h8 hs hv hx
  go_enter Tryd.func9, Tryd.ntmps9
  go_wp2_with ((with_reducible refine wp_load24 (o := ⟨some 6, .load 24 (.tmp 1), _, _, _, _⟩) ?_ (.tmp 1) ?_ w.heap.size ?_ h H8.out HR0.out ?_); (· rfl); (· rfl); (· rfl))
  refine (cT.out _ HM.out).mono ?_
  rintro e u1 ⟨rfl, hB1⟩
  have HB1 := Lib.hid (Ascii.below2 HB0.out hB1)
  have HM1 := Lib.hid (HM.out.later hB1)
  clear hB1 cT HB0 HR0 HM
  rcases HH.out with ⟨h1, h2⟩ | ⟨h1, h0, h3, h2⟩ | ⟨h1, h0, h3, h2⟩ | ⟨h1, h0, h3, h2⟩
  · rw [HV.out] at h2
    subst h2
    have hx := HX.out
    unfold showH at hx
    rw [h1] at hx
    have HX2 := Lib.hid hx
    have n1 := nil42
    have n2 := nil44
    have n3 := nil46
    clear h1 hx HX HH HV
    go_wp2
    go_ret
    exact ⟨by rw [← HX2.out]; rfl, HB1.out⟩
  · rw [HV.out] at h2
    subst h2
    have hx := HX.out
    unfold showH at hx
    rw [if_pos h1, if_pos (show h.k = 1 by rw [h0])] at hx
    have HX2 := Lib.hid (show h.s = x by rw [← hx])
    obtain ⟨s, hse⟩ : ∃ s, h.s = s := ⟨_, rfl⟩
    rw [hse] at HX2 ⊢
    have HS2 := Lib.hid (show s.size ≤ 1000 by rw [← hse]; exact HS.out)
    have n1 := is42 (.string s)
    clear h1 h0 h3 hx HX HH HV hse HS
    go_wp2_with fail
    refine (clone_any s (by have := HS2.out; omega) _).mono ?_
    rintro e u2 ⟨rfl, hB2⟩
    go_wp2
    go_ret
    exact ⟨by rw [HX2.out]; rfl, Ascii.below2 HB1.out hB2⟩
  · rw [HV.out] at h2
    subst h2
    have hx := HX.out
    unfold showH at hx
    rw [if_pos h1, if_neg (show ¬ h.k = 1 by rw [h0]; show ¬ (2 : Int) = 1; decide), if_pos (show h.k = 2 by rw [h0])] at hx
    obtain ⟨n, hne⟩ : ∃ n, h.n = n := ⟨_, rfl⟩
    rw [hne] at hx ⊢
    have cF := Lib.hid (fun u => Four.showF_at n x hx u)
    have n1 := is44 (.int .i64 n)
    have n2 := no42_44 (.int .i64 n)
    clear h1 h0 h3 hx HX HH HV hne HS
    go_wp2_with fail
    refine (cF.out _).mono ?_
    rintro e u2 ⟨rfl, hB2⟩
    go_wp2
    go_ret
    exact ⟨rfl, Ascii.below2 HB1.out hB2⟩
  · rw [HV.out] at h2
    subst h2
    have hx := HX.out
    unfold showH at hx
    rw [if_pos h1, if_neg (show ¬ h.k = 1 by rw [h0]; show ¬ (3 : Int) = 1; decide), if_neg (show ¬ h.k = 2 by rw [h0]; show ¬ (3 : Int) = 2; decide)] at hx
    obtain ⟨p, hpe⟩ : ∃ p, h.p = p := ⟨_, rfl⟩
    have h8 := H8.out
    rw [hpe] at hx h3 h8 ⊢
    match p, h8 with
    | [a0, a1, a2, a3, a4, a5, a6, a7], _ =>
    obtain ⟨y, hy⟩ : ∃ y : ByteArray, (⟨(Six.showS [a0, a1, a2, a3, a4, a5, a6, a7]).toArray⟩ : ByteArray) = y := ⟨_, rfl⟩
    have cS := Lib.hid (fun u (hu : Six.At m u) => Six.show_any [a0, a1, a2, a3, a4, a5, a6, a7] rfl y hy m u hu)
    have hys : y.size ≤ 200 := by
      have := Six.show_len39 [a0, a1, a2, a3, a4, a5, a6, a7] rfl h3
      have e : y.size = (Six.showS [a0, a1, a2, a3, a4, a5, a6, a7]).length := by rw [← hy]; rfl
      omega
    have HX2 := Lib.hid (show (⟨#[91]⟩ : ByteArray) ++ y ++ ⟨#[93]⟩ = x by
      rw [← hx, ← hy]
      apply ByteArray.ext
      simp)
    have hv : Value.iface 46 (.agg (arr [a0, a1, a2, a3, a4, a5, a6, a7])) = .iface 46 (.agg #[.int .i64 a0, .int .i64 a1, .int .i64 a2, .int .i64 a3, .int .i64 a4, .int .i64 a5, .int .i64 a6, .int .i64 a7]) := rfl
    rw [hv]
    have n1 := is46 (.agg #[.int .i64 a0, .int .i64 a1, .int .i64 a2, .int .i64 a3, .int .i64 a4, .int .i64 a5, .int .i64 a6, .int .i64 a7])
    have n2 := no42_46 (.agg #[.int .i64 a0, .int .i64 a1, .int .i64 a2, .int .i64 a3, .int .i64 a4, .int .i64 a5, .int .i64 a6, .int .i64 a7])
    have n3 := no44_46 (.agg #[.int .i64 a0, .int .i64 a1, .int .i64 a2, .int .i64 a3, .int .i64 a4, .int .i64 a5, .int .i64 a6, .int .i64 a7])
    have HBx := Lib.hid (show Below u1.heap.size u1 (u1.alloc (.cells #[.int .i64 a0, .int .i64 a1, .int .i64 a2, .int .i64 a3, .int .i64 a4, .int .i64 a5, .int .i64 a6, .int .i64 a7] 46)) from (Below.refl _ u1).alloc (Nat.le_refl _) _)
    clear h1 h0 h3 hx HX HH HV hpe HS hy hv H8
    go_wp2_with fail
    refine (cS.out _ (HM1.out.later HBx.out)).mono ?_
    rintro e u2 ⟨rfl, hB2⟩
    go_wp2
    go_ret
    exact ⟨by rw [← HX2.out]; rfl, Ascii.below3 HB1.out HBx.out hB2⟩
/-! ### Local -/
def loc9 : List UInt8 := [108, 111, 99, 97, 108, 104, 111, 115, 116]
def one8 : List Int := [0, 0, 0, 0, 0, 0, 0, 1]
def localH (h : H) : Bool := if mayH h then (if h.k = 1 then (h.s.data.toList == loc9) || Lib.hasSuffix h.s.data.toList (46 :: loc9) else if h.k = 2 then Four.innerB h.n else decide (h.p = one8)) else false
set_option maxRecDepth 100000 in
theorem eq46 (p q : List Int) (hp : p.length = 8) (hq : q.length = 8) (b : Bool) (hb : decide (p = q) = b) (w : World) : (Op.equalIn 10000 46 (.agg (arr p)) (.agg (arr q))).run Tryd.prog w = .ok b w := by
  obtain ⟨i, hi⟩ : ∃ i, Tryd.prog.info? 3 = some i := by
    cases e : Tryd.prog.info? 3 with
    | some i => exact ⟨i, rfl⟩
    | none =>
      have : (Tryd.prog.info? 3).isSome = true := by kernel_rfl
      rw [e] at this
      cases this
  rw [show (10000 : Nat) = 9999 + 1 from rfl, run_equalIn_array w 9999 (arr p) (arr q) Tryd.underlying46 hi, show Tryd.prog.cellsOf 3 = 1 by kernel_rfl, Six.items3 9998 p q (by omega) _ (by intro j hj; simp at hj; omega), ← hb]
  congr 1
  match p, hp, q, hq with
  | [a0, a1, a2, a3, a4, a5, a6, a7], _, [b0, b1, b2, b3, b4, b5, b6, b7], _ => simp [List.range, List.range.loop]; rfl
set_option maxRecDepth 100000 in
set_option maxHeartbeats 4000000 in
theorem local_in (h : H) (h8 : h.p.length = 8) (hs : h.s.size ≤ 1000) (b : Bool) (hb : localH h = b) (m : Int) (w : World) (hm : Six.At m w) :
    Calls Tryd.prog 15 #[.agg h.cells] w fun e w' => e = .returned (.bool b) ∧ Below w.heap.size w w' := by
  have HB0 := Lib.hid (show Below w.heap.size w (w.alloc (.cells h.cells 24)) from (Below.refl _ w).alloc (Nat.le_refl _) _)
  have HR0 := Lib.hid (HostAt.new w h)
  have HM := Lib.hid (hm.later HB0.out)
  obtain ⟨v, hv⟩ : ∃ v, whatH h = v := ⟨_, rfl⟩
  have cT := Lib.hid (fun u (hu : Six.At m u) => told_any h h8 hs v hv m u hu)
  have H8 := Lib.hid h8
  have HH := Lib.hid (what_cases h)
  have HX := Lib.hid hb
  have HV := Lib.hid hv
  have HS := Lib.hid hs
  clear hm h8 hs hv hb
  go_enter Tryd.func15, Tryd.ntmps15
  go_wp2_with ((with_reducible refine wp_load24 (o := ⟨some 6, .load 24 (.tmp 1), _, _, _, _⟩) ?_ (.tmp 1) ?_ w.heap.size ?_ h H8.out HR0.out ?_); (· rfl); (· rfl); (· rfl))
  refine (cT.out _ HM.out).mono ?_
  rintro e u1 ⟨rfl, hB1⟩
  have HB1 := Lib.hid (Ascii.below2 HB0.out hB1)
  clear hB1 cT HB0 HR0 HM
  rcases HH.out with ⟨h1, h2⟩ | ⟨h1, h0, h3, h2⟩ | ⟨h1, h0, h3, h2⟩ | ⟨h1, h0, h3, h2⟩
  · rw [HV.out] at h2
    subst h2
    have hx := HX.out
    unfold localH at hx
    rw [h1] at hx
    have HX2 := Lib.hid (show false = b from hx)
    have n1 := nil42
    have n2 := nil44
    have n3 := nil46
    clear h1 hx HX HH HV
    go_wp2
    go_ret
    exact ⟨congrArg (fun x => Ending.returned (Value.bool x)) HX2.out, HB1.out⟩
  · rw [HV.out] at h2
    subst h2
    have hx := HX.out
    unfold localH at hx
    rw [if_pos h1, if_pos (show h.k = 1 by rw [h0])] at hx
    obtain ⟨s, hse⟩ : ∃ s, h.s = s := ⟨_, rfl⟩
    rw [hse] at hx ⊢
    have HS2 := Lib.hid (show s.size ≤ 1000 by rw [← hse]; exact HS.out)
    have n1 := is42 (.string s)
    have cF := Lib.hid (fun u => Tryd.strings_HasSuffix s ⟨#[46, 108, 111, 99, 97, 108, 104, 111, 115, 116]⟩ u (by have := HS2.out; omega))
    rw [show (⟨#[46, 108, 111, 99, 97, 108, 104, 111, 115, 116]⟩ : ByteArray).data.toList = 46 :: loc9 from rfl] at cF
    generalize Lib.hasSuffix s.data.toList (46 :: loc9) = c at cF hx
    cases hq : (s.data.toList == loc9)
    · have q1 : (s.toList == [108, 111, 99, 97, 108, 104, 111, 115, 116]) = false := by rw [toList_ba]; exact hq
      rw [hq] at hx
      have HX2 := Lib.hid (show c = b from hx)
      clear h1 h0 h3 hx HX HH HV hse HS hq
      go_wp2_with fail
      refine (cF.out _).mono ?_
      rintro e u2 ⟨rfl, hu⟩
      rw [hu]
      go_wp2
      go_ret
      exact ⟨congrArg (fun x => Ending.returned (Value.bool x)) HX2.out, HB1.out⟩
    · have q1 : (s.toList == [108, 111, 99, 97, 108, 104, 111, 115, 116]) = true := by rw [toList_ba]; exact hq
      rw [hq] at hx
      have HX2 := Lib.hid (show true = b from hx)
      clear h1 h0 h3 hx HX HH HV hse HS hq
      go_wp2
      go_ret
      exact ⟨congrArg (fun x => Ending.returned (Value.bool x)) HX2.out, HB1.out⟩
  · rw [HV.out] at h2
    subst h2
    have hx := HX.out
    unfold localH at hx
    rw [if_pos h1, if_neg (show ¬ h.k = 1 by rw [h0]; show ¬ (2 : Int) = 1; decide), if_pos (show h.k = 2 by rw [h0])] at hx
    obtain ⟨n, hne⟩ : ∃ n, h.n = n := ⟨_, rfl⟩
    rw [hne] at hx ⊢
    have cF := Lib.hid (fun u => Four.inner_any n u)
    rw [hx] at cF
    have n1 := is44 (.int .i64 n)
    have n2 := no42_44 (.int .i64 n)
    clear h1 h0 h3 hx HX HH HV hne HS
    go_wp2_with fail
    refine (cF.out _).mono ?_
    rintro e u2 ⟨rfl, rfl⟩
    go_wp2
    go_ret
    exact ⟨rfl, HB1.out⟩
  · rw [HV.out] at h2
    subst h2
    have hx := HX.out
    unfold localH at hx
    rw [if_pos h1, if_neg (show ¬ h.k = 1 by rw [h0]; show ¬ (3 : Int) = 1; decide), if_neg (show ¬ h.k = 2 by rw [h0]; show ¬ (3 : Int) = 2; decide)] at hx
    obtain ⟨p, hpe⟩ : ∃ p, h.p = p := ⟨_, rfl⟩
    have h8 := H8.out
    rw [hpe] at hx h3 h8 ⊢
    match p, h8 with
    | [a0, a1, a2, a3, a4, a5, a6, a7], _ =>
    have heq : ∀ u, (Op.equalIn 10000 46 (.agg #[.int .i64 a0, .int .i64 a1, .int .i64 a2, .int .i64 a3, .int .i64 a4, .int .i64 a5, .int .i64 a6, .int .i64 a7]) (.agg #[.int .i64 0, .int .i64 0, .int .i64 0, .int .i64 0, .int .i64 0, .int .i64 0, .int .i64 0, .int .i64 1])).run Tryd.prog u = .ok b u := fun u => eq46 [a0, a1, a2, a3, a4, a5, a6, a7] one8 rfl rfl b hx u
    have hv : Value.iface 46 (.agg (arr [a0, a1, a2, a3, a4, a5, a6, a7])) = .iface 46 (.agg #[.int .i64 a0, .int .i64 a1, .int .i64 a2, .int .i64 a3, .int .i64 a4, .int .i64 a5, .int .i64 a6, .int .i64 a7]) := rfl
    rw [hv]
    have n1 := is46 (.agg #[.int .i64 a0, .int .i64 a1, .int .i64 a2, .int .i64 a3, .int .i64 a4, .int .i64 a5, .int .i64 a6, .int .i64 a7])
    have n2 := no42_46 (.agg #[.int .i64 a0, .int .i64 a1, .int .i64 a2, .int .i64 a3, .int .i64 a4, .int .i64 a5, .int .i64 a6, .int .i64 a7])
    have n3 := no44_46 (.agg #[.int .i64 a0, .int .i64 a1, .int .i64 a2, .int .i64 a3, .int .i64 a4, .int .i64 a5, .int .i64 a6, .int .i64 a7])
    have HBx := Lib.hid (show Below u1.heap.size u1 (u1.alloc (.cells #[.int .i64 a0, .int .i64 a1, .int .i64 a2, .int .i64 a3, .int .i64 a4, .int .i64 a5, .int .i64 a6, .int .i64 a7] 46)) from (Below.refl _ u1).alloc (Nat.le_refl _) _)
    clear h1 h0 h3 hx HX HH HV hpe HS hv H8
    go_wp2
    go_ret
    exact ⟨rfl, Ascii.below2 HB1.out HBx.out⟩
end Go.Proofs.YtidmlhefdjpafaaDoor.Host

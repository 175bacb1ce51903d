/-
  url's May.
-/
import Derived.Test.YtfdhhjigpboieaaGreatDoorUObj
namespace Go.Proofs.YtfdhhjigpboieaaGreatDoor.Url
open Go.RowKit Go.Shelf
open Host (H HostAt none0 okH mayH)
open Six (arr RowAt zero8)
open Path (Strs)
set_option linter.unusedSimpArgs false
set_option linter.unusedVariables false
set_option maxRecDepth 100000

/-- How large an address may be here. -/
structure Fit (u : U) : Prop where
  h8 : u.h.p.length = 8
  hs : u.h.s.size ≤ 1000
  pn : u.path.length ≤ 10000
  pt : ∀ t ∈ u.path, t.length ≤ 1000000
  sch : u.sch.length ≤ 1000000
  usr : u.usr.length ≤ 1000000
  pas : u.pas.length ≤ 1000000
  opq : u.opq.length ≤ 1000000
  qry : u.qry.length ≤ 1000000
  frg : u.frg.length ≤ 1000000
theorem ready_at (l : T) (hl : l.length ≤ 1000000) (set : Int) (b : Bool) (hb : Pct.readyB set l = b) (w : World) :
    Calls Tryz.prog 87 #[.string (tb l), .int .i64 set] w fun e w' => e = .returned (.bool b) ∧ Below w.heap.size w w' := by
  subst hb
  exact Pct.ready_any (tb l) (by rw [tb_size]; unfold maxLen; omega) set w
theorem empty_tb (l : T) : (tb l).toList.isEmpty = l.isEmpty := by rw [Path.tl]; rfl
theorem told_any (l : T) (hl : l.length ≤ 1000000) (has : Bool) (set : Int) (b : Bool) (hb : (Pct.readyB set l && (has || l.isEmpty)) = b) (w : World) :
    Calls Tryz.prog 53 #[.string (tb l), .bool has, .int .i64 set] w fun e w' => e = .returned (.bool b) ∧ Below w.heap.size w w' := by
  subst hb
  obtain ⟨r, hr⟩ : ∃ r, Pct.readyB set l = r := ⟨_, rfl⟩
  have C := Lib.hid (fun u => ready_at l hl set r hr u)
  rw [hr]
  have q0 := empty_tb l
  generalize l.isEmpty = em at q0 ⊢
  generalize tb l = s at q0 C ⊢
  clear hr
  cases r
  · go_enter Tryz.func53, Tryz.ntmps53
    go_wp2_with fail
    refine (C.out _).mono ?_
    rintro e u1 ⟨rfl, hB1⟩
    go_wp2
    go_ret
    exact ⟨rfl, hB1⟩
  · cases has
    · cases em
      · go_enter Tryz.func53, Tryz.ntmps53
        go_wp2_with fail
        refine (C.out _).mono ?_
        rintro e u1 ⟨rfl, hB1⟩
        go_wp2
        go_ret
        exact ⟨rfl, hB1⟩
      · go_enter Tryz.func53, Tryz.ntmps53
        go_wp2_with fail
        refine (C.out _).mono ?_
        rintro e u1 ⟨rfl, hB1⟩
        go_wp2
        go_ret
        exact ⟨rfl, hB1⟩
    · go_enter Tryz.func53, Tryz.ntmps53
      go_wp2_with fail
      refine (C.out _).mono ?_
      rintro e u1 ⟨rfl, hB1⟩
      go_wp2
      go_ret
      exact ⟨rfl, hB1⟩
set_option maxHeartbeats 2000000 in
theorem mayPort_any (u : U) (pv : Value) (h8 : u.h.p.length = 8) (b : Bool) (hb : mayPort u = b) (w : World) :
    Calls Tryz.prog 89 #[.agg (cU u pv)] w fun e w' => e = .returned (.bool b) ∧ Below w.heap.size w w' := by
  have HB0 := Lib.hid (show Below w.heap.size w (w.alloc (.cells (cU u pv) 27)) from (Below.refl _ w).alloc (Nat.le_refl _) _)
  have c14 := (UrlAt.new w u pv).cell 14
  rw [(cU_at u pv h8).2.2.2.2.1] at c14
  have c0 := (UrlAt.new w u pv).cell 0
  rw [(cU_at u pv h8).1] at c0
  have WW := Lib.hid (fun v => web_any (tb u.sch) (webI u.sch) rfl v)
  unfold mayPort at hb
  subst hb
  generalize webI u.sch = z at WW ⊢
  generalize u.port = p at c14 ⊢
  generalize tb u.sch = s at WW c0
  generalize cU u pv = C at c14 c0 HB0 ⊢
  clear h8
  have q3 : ((p != z) : Bool) = !decide (p = z) := by by_cases h : p = z <;> simp [h]
  rw [← q3]
  clear q3
  cases q1 : decide (-1 ≤ p)
  · go_enter Tryz.func89, Tryz.ntmps89
    go_wp2_with fail
    go_quiet ((go_at_call 23; exact Calls.quiet_of_same ((WW.out _).mono fun e w' h => ⟨h.1, h.2.symm⟩)))
    go_wp2
    go_ret
    exact ⟨rfl, (below_drew HB0.out _)⟩
  · cases q2 : decide (p ≤ 65535)
    · go_enter Tryz.func89, Tryz.ntmps89
      go_wp2_with fail
      go_quiet ((go_at_call 23; exact Calls.quiet_of_same ((WW.out _).mono fun e w' h => ⟨h.1, h.2.symm⟩)))
      go_wp2
      go_ret
      exact ⟨rfl, (below_drew HB0.out _)⟩
    · cases q3 : (p != z)
      · go_enter Tryz.func89, Tryz.ntmps89
        go_wp2_with fail
        go_quiet ((go_at_call 23; exact Calls.quiet_of_same ((WW.out _).mono fun e w' h => ⟨h.1, h.2.symm⟩)))
        go_wp2
        go_ret
        exact ⟨rfl, (below_drew HB0.out _)⟩
      · go_enter Tryz.func89, Tryz.ntmps89
        go_wp2_with fail
        go_quiet ((go_at_call 23; exact Calls.quiet_of_same ((WW.out _).mono fun e w' h => ⟨h.1, h.2.symm⟩)))
        go_wp2
        go_ret
        exact ⟨rfl, (below_drew HB0.out _)⟩

theorem host_at (u : U) (hf : Fit u) (b : Bool) (hb : mayH u.h = b) (m : Int) (w : World) (hm : Six.At m w) : Calls Tryz.prog 25 #[.agg u.h.cells] w fun e w' => e = .returned (.bool b) ∧ Below w.heap.size w w' :=
  Host.may_any u.h hf.h8 hf.hs b hb m w hm
theorem path_at (u : U) (hf : Fit u) (pv : Value) (b : Bool) (hb : Path.mayP u.path = b) (m : Int) (w : World) (hm : Six.At m w) (h : Strs w pv u.path) : Calls Tryz.prog 88 #[pv] w fun e w' => e = .returned (.bool b) ∧ Below w.heap.size w w' := by
  subst hb
  exact Path.may_any pv u.path (by have := hf.pn; omega) hf.pt m w hm.max h
set_option maxHeartbeats 8000000 in
theorem mayWeb_any (u : U) (pv : Value) (hf : Fit u) (b : Bool) (hb : mayWeb u = b) (m : Int) (w : World) (hm : Six.At m w) (hs : Strs w pv u.path) :
    Calls Tryz.prog 55 #[.agg (cU u pv)] w fun e w' => e = .returned (.bool b) ∧ Below w.heap.size w w' := by
  have h8 := hf.h8
  have HB0 := Lib.hid (show Below w.heap.size w (w.alloc (.cells (cU u pv) 27)) from (Below.refl _ w).alloc (Nat.le_refl _) _)
  have HU := Lib.hid (UrlAt.new w u pv)
  have HM := Lib.hid (hm.later HB0.out)
  have HS := Lib.hid (hs.later HB0.out)
  have CH := Lib.hid (fun v hv => host_at u hf _ rfl m v hv)
  have C1 := Lib.hid (fun v => ready_at u.usr hf.usr 4 _ rfl v)
  have C2 := Lib.hid (fun v => ready_at u.pas hf.pas 4 _ rfl v)
  have CP := Lib.hid (fun v hv hs => path_at u hf pv _ rfl m v hv hs)
  have CQ := Lib.hid (fun v => mayPort_any u pv h8 _ rfl v)
  have q5 := empty_tb u.opq
  unfold mayWeb at hb
  subst hb
  generalize mayH u.h = b1 at CH ⊢
  generalize Pct.readyB 4 u.usr = b2 at C1 ⊢
  generalize Pct.readyB 4 u.pas = b3 at C2 ⊢
  generalize Path.mayP u.path = b4 at CP ⊢
  generalize u.opq.isEmpty = b5 at q5 ⊢
  generalize mayPort u = b6 at CQ ⊢
  clear hf hm hs
  go_enter Tryz.func55, Tryz.ntmps55
  go_wp2_with ((with_reducible refine wp_load24u (o := ⟨some 4, .load 24 (.tmp 3), _, _, _, _⟩) ?_ (.tmp 3) ?_ w.heap.size ?_ u pv h8 HU.out ?_); (· rfl); (· rfl); (· rfl))
  generalize w.alloc (.cells (cU u pv) 27) = W at HB0 HU HM HS ⊢
  refine (CH.out _ HM.out).mono ?_
  rintro e u1 ⟨rfl, hB1⟩
  cases b1
  · go_wp2
    go_ret
    exact ⟨rfl, Ascii.below2 HB0.out hB1⟩
  have HU1 := Lib.hid (HU.out.later hB1)
  have HM1 := Lib.hid (HM.out.later hB1)
  have HS1 := Lib.hid (HS.out.later hB1)
  have HB1 := Lib.hid (Ascii.below2 HB0.out hB1)
  clear HU HM HS HB0 hB1 CH
  have c1 := HU1.out.cell 1
  rw [(cU_at u pv h8).2.1] at c1
  go_wp2_with fail
  refine (C1.out _).mono ?_
  rintro e u2 ⟨rfl, hB2⟩
  cases b2
  · go_wp2
    go_ret
    exact ⟨rfl, Ascii.below2 HB1.out hB2⟩
  have HU2 := Lib.hid (HU1.out.later hB2)
  have HM2 := Lib.hid (HM1.out.later hB2)
  have HS2 := Lib.hid (HS1.out.later hB2)
  have HB2 := Lib.hid (Ascii.below2 HB1.out hB2)
  clear HU1 HM1 HS1 HB1 hB2 C1 c1
  have c2 := HU2.out.cell 2
  rw [(cU_at u pv h8).2.2.1] at c2
  go_wp2_with fail
  refine (C2.out _).mono ?_
  rintro e u3 ⟨rfl, hB3⟩
  cases b3
  · go_wp2
    go_ret
    exact ⟨rfl, Ascii.below2 HB2.out hB3⟩
  have HU3 := Lib.hid (HU2.out.later hB3)
  have HM3 := Lib.hid (HM2.out.later hB3)
  have HS3 := Lib.hid (HS2.out.later hB3)
  have HB3 := Lib.hid (Ascii.below2 HB2.out hB3)
  clear HU2 HM2 HS2 HB2 hB3 C2 c2
  have c15 := HU3.out.cell 15
  rw [(cU_at u pv h8).2.2.2.2.2.1] at c15
  go_wp2_with fail
  refine (CP.out _ HM3.out HS3.out).mono ?_
  rintro e u4 ⟨rfl, hB4⟩
  cases b4
  · go_wp2
    go_ret
    exact ⟨rfl, Ascii.below2 HB3.out hB4⟩
  have HU4 := Lib.hid (HU3.out.later hB4)
  have HB4 := Lib.hid (Ascii.below2 HB3.out hB4)
  clear HU3 HM3 HS3 HB3 hB4 CP c15
  have c16 := HU4.out.cell 16
  rw [(cU_at u pv h8).2.2.2.2.2.2.1] at c16
  cases b5
  · go_wp2
    go_ret
    exact ⟨rfl, HB4.out⟩
  go_wp2_with ((with_reducible refine wp_load27 (o := ⟨some 27, .load 27 (.tmp 1), _, _, _, _⟩) ?_ (.tmp 1) ?_ w.heap.size ?_ u pv h8 HU4.out ?_); (· rfl); (· rfl); (· rfl))
  refine (CQ.out _).mono ?_
  rintro e u5 ⟨rfl, hB5⟩
  go_wp2
  go_ret
  exact ⟨rfl, Ascii.below2 HB4.out hB5⟩

theorem in1_all : ∀ n : Fin 256, Pct.inB 1 (UInt8.ofNat n.val) = false → n.val < 128 := by decide +kernel
theorem in1_at (c : UInt8) (h : Pct.inB 1 c = false) : c.toNat < 128 := by
  have := in1_all ⟨c.toNat, c.toNat_lt⟩
  simp only [UInt8.ofNat_toNat] at this
  exact this h
theorem any_two (l : T) (x y : UInt8) : Lib.containsAny l [x, y] = (l.contains x || l.contains y) := by
  unfold Lib.containsAny
  induction l with
  | nil => rfl
  | cons a r ih =>
    have hg := Lib.indexAny_ge [x, y] r
    rw [Lib.indexAny]
    by_cases h : a = x ∨ a = y
    · rw [if_pos (by rcases h with rfl | rfl <;> simp)]
      rcases h with rfl | rfl <;> simp
    · rw [if_neg (by simp only [List.contains_cons, List.contains_nil, Bool.or_false, Bool.or_eq_true, beq_iff_eq]; exact h)]
      have hx : (x == a) = false := by simpa using fun e : x = a => h (.inl e.symm)
      have hy : (y == a) = false := by simpa using fun e : y = a => h (.inr e.symm)
      have hx' : (a :: r).contains x = r.contains x := by rw [List.contains_cons, hx, Bool.false_or]
      have hy' : (a :: r).contains y = r.contains y := by rw [List.contains_cons, hy, Bool.false_or]
      rw [hx', hy', ← ih]
      by_cases h1 : Lib.indexAny r [x, y] = -1
      · rw [h1]; rfl
      · rw [if_neg (by simpa using h1)]
        simp only [decide_eq_decide]
        omega
theorem any_at (l : T) (hl : l.length ≤ 1000000) (hr : Pct.readyB 1 l = true) (b : Bool) (hb : (!l.contains 63 && !l.contains 35) = b) (w : World) :
    Calls Tryz.prog 90 #[.string (tb l), .string ⟨#[63, 35]⟩] w fun e w' => e = .returned (.bool (!b)) ∧ Below w.heap.size w w' := by
  subst hb
  have h1 := Tryz.strings_ContainsAny (fun w => by kernel_rfl) (tb l) ⟨#[63, 35]⟩ w (by rw [tb_size]; omega) (by decide) (fun j c hc => by
    have hm : c ∈ l := List.mem_of_getElem? hc
    have := List.all_eq_true.1 hr c hm
    exact in1_at c (by simpa using this)) (fun j c hc => by
    have hm : c ∈ ([63, 35] : T) := List.mem_of_getElem? hc
    exact (by decide : ∀ c ∈ ([63, 35] : T), c.toNat < 128) c hm)
  refine h1.mono fun e w' h => ⟨?_, h.2⟩
  rw [h.1, show (⟨#[63, 35]⟩ : ByteArray).data.toList = [63, 35] from rfl, tb_list, any_two]
  cases l.contains 63 <;> cases l.contains 35 <;> rfl
set_option maxHeartbeats 8000000 in
theorem mayOpq_any (u : U) (pv : Value) (hf : Fit u) (b : Bool) (hb : mayOpq u = b) (w : World) (hs : Strs w pv u.path) :
    Calls Tryz.prog 57 #[.agg (cU u pv)] w fun e w' => e = .returned (.bool b) ∧ Below w.heap.size w w' := by
  have h8 := hf.h8
  obtain ⟨pa, pc, rfl, _⟩ := hs
  have HB0 := Lib.hid (show Below w.heap.size w (w.alloc (.cells (cU u (.slice pa u.path.length pc)) 27)) from (Below.refl _ w).alloc (Nat.le_refl _) _)
  have HU := Lib.hid (UrlAt.new w u (.slice pa u.path.length pc))
  have CR := Lib.hid (fun v => ready_at u.opq hf.opq 1 _ rfl v)
  have CA := Lib.hid (fun (hr : Pct.readyB 1 u.opq = true) v => any_at u.opq hf.opq hr _ rfl v)
  have heq : ∀ v, (Op.equalIn 10000 24 (.agg u.h.cells) (.agg #[.int .i64 0, .string ⟨#[]⟩, .int .i64 0, .int .i64 0, .int .i64 0, .int .i64 0, .int .i64 0, .int .i64 0, .int .i64 0, .int .i64 0, .int .i64 0])).run Tryz.prog v = .ok (Host.sameH u.h none0) v := fun v => Host.eq24 u.h none0 h8 rfl _ rfl v
  have q4 := empty_tb u.usr
  have q5 := empty_tb u.pas
  have q6 : ((u.path.length : Int) == 0) = u.path.isEmpty := by cases u.path <;> simp; omega
  have q3 : ((u.port : Int) == -1) = decide (u.port = -1) := by by_cases h : u.port = -1 <;> simp [h]
  unfold mayOpq at hb
  subst hb
  generalize Pct.readyB 1 u.opq = b1 at CR CA ⊢
  generalize (!u.opq.contains 63 && !u.opq.contains 35) = b2 at CA ⊢
  generalize decide (u.port = -1) = b3 at q3 ⊢
  generalize Host.sameH u.h none0 = b4 at heq ⊢
  generalize u.usr.isEmpty = b5 at q4 ⊢
  generalize u.pas.isEmpty = b6 at q5 ⊢
  generalize u.path.isEmpty = b7 at q6 ⊢
  clear hf
  have c16 := HU.out.cell 16
  rw [(cU_at u _ h8).2.2.2.2.2.2.1] at c16
  go_enter Tryz.func57, Tryz.ntmps57
  go_wp2_with fail
  generalize w.alloc (.cells (cU u (.slice pa u.path.length pc)) 27) = W at HB0 HU c16 ⊢
  refine (CR.out _).mono ?_
  rintro e u1 ⟨rfl, hB1⟩
  cases b1
  · go_wp2
    go_ret
    exact ⟨rfl, Ascii.below2 HB0.out hB1⟩
  have HU1 := Lib.hid (HU.out.later hB1)
  have HB1 := Lib.hid (Ascii.below2 HB0.out hB1)
  clear HU HB0 hB1 CR c16
  have c16 := HU1.out.cell 16
  rw [(cU_at u _ h8).2.2.2.2.2.2.1] at c16
  go_wp2_with fail
  refine (CA.out trivial _).mono ?_
  rintro e u2 ⟨rfl, hB2⟩
  cases b2
  · go_wp2
    go_ret
    exact ⟨rfl, Ascii.below2 HB1.out hB2⟩
  have HU2 := Lib.hid (HU1.out.later hB2)
  have HB2 := Lib.hid (Ascii.below2 HB1.out hB2)
  clear HU1 HB1 hB2 CA c16
  have c14 := HU2.out.cell 14
  rw [(cU_at u _ h8).2.2.2.2.1] at c14
  have c1 := HU2.out.cell 1
  rw [(cU_at u _ h8).2.1] at c1
  have c2 := HU2.out.cell 2
  rw [(cU_at u _ h8).2.2.1] at c2
  have c15 := HU2.out.cell 15
  rw [(cU_at u _ h8).2.2.2.2.2.1] at c15
  cases b3
  · go_wp2
    go_ret
    exact ⟨rfl, HB2.out⟩
  cases b4
  · go_wp2_with ((with_reducible refine wp_load24u (o := ⟨some 19, .load 24 (.tmp 18), _, _, _, _⟩) ?_ (.tmp 18) ?_ w.heap.size ?_ u _ h8 HU2.out ?_); (· rfl); (· rfl); (· rfl))
    go_ret
    exact ⟨rfl, HB2.out⟩
  cases b5
  · go_wp2_with ((with_reducible refine wp_load24u (o := ⟨some 19, .load 24 (.tmp 18), _, _, _, _⟩) ?_ (.tmp 18) ?_ w.heap.size ?_ u _ h8 HU2.out ?_); (· rfl); (· rfl); (· rfl))
    go_ret
    exact ⟨rfl, HB2.out⟩
  cases b6
  · go_wp2_with ((with_reducible refine wp_load24u (o := ⟨some 19, .load 24 (.tmp 18), _, _, _, _⟩) ?_ (.tmp 18) ?_ w.heap.size ?_ u _ h8 HU2.out ?_); (· rfl); (· rfl); (· rfl))
    go_ret
    exact ⟨rfl, HB2.out⟩
  cases b7
  · go_wp2_with ((with_reducible refine wp_load24u (o := ⟨some 19, .load 24 (.tmp 18), _, _, _, _⟩) ?_ (.tmp 18) ?_ w.heap.size ?_ u _ h8 HU2.out ?_); (· rfl); (· rfl); (· rfl))
    go_ret
    exact ⟨rfl, HB2.out⟩
  · go_wp2_with ((with_reducible refine wp_load24u (o := ⟨some 19, .load 24 (.tmp 18), _, _, _, _⟩) ?_ (.tmp 18) ?_ w.heap.size ?_ u _ h8 HU2.out ?_); (· rfl); (· rfl); (· rfl))
    go_ret
    exact ⟨rfl, HB2.out⟩

set_option maxHeartbeats 8000000 in
theorem may_any (u : U) (pv : Value) (hf : Fit u) (b : Bool) (hb : mayU u = b) (m : Int) (w : World) (hm : Six.At m w) (hs : Strs w pv u.path) :
    Calls Tryz.prog 21 #[.agg (cU u pv)] w fun e w' => e = .returned (.bool b) ∧ Below w.heap.size w w' := by
  have h8 := hf.h8
  have HB0 := Lib.hid (show Below w.heap.size w (w.alloc (.cells (cU u pv) 27)) from (Below.refl _ w).alloc (Nat.le_refl _) _)
  have HU := Lib.hid (UrlAt.new w u pv)
  have HM := Lib.hid (hm.later HB0.out)
  have HS := Lib.hid (hs.later HB0.out)
  have C1 := Lib.hid (fun v => told_any u.qry hf.qry u.hq 2 _ rfl v)
  have C2 := Lib.hid (fun v => told_any u.frg hf.frg u.hf 1 _ rfl v)
  have CW := Lib.hid (fun v => isWeb_any (tb u.sch) _ rfl v)
  have CO := Lib.hid (fun v => opq_any (tb u.sch) _ rfl v)
  have CMW := Lib.hid (fun v hv hs => mayWeb_any u pv hf _ rfl m v hv hs)
  have CMO := Lib.hid (fun v hs => mayOpq_any u pv hf _ rfl v hs)
  have hR : mayU u = ((Pct.readyB 2 u.qry && (u.hq || u.qry.isEmpty)) && ((Pct.readyB 1 u.frg && (u.hf || u.frg.isEmpty)) && (if (!decide (webI u.sch = 0)) then mayWeb u else (opB u.sch && mayOpq u)))) := by
    unfold mayU tailB
    rw [Bool.and_assoc]
    by_cases h : webI u.sch = 0
    · rw [if_pos h, h]; rfl
    · rw [if_neg h, decide_eq_false h]; rfl
  rw [hR] at hb
  rw [tb_list] at CW CO
  subst hb
  generalize (Pct.readyB 2 u.qry && (u.hq || u.qry.isEmpty)) = b1 at C1 ⊢
  generalize (Pct.readyB 1 u.frg && (u.hf || u.frg.isEmpty)) = b2 at C2 ⊢
  generalize (!decide (webI u.sch = 0)) = b3 at CW ⊢
  generalize opB u.sch = b4 at CO ⊢
  generalize mayWeb u = b5 at CMW ⊢
  generalize mayOpq u = b6 at CMO ⊢
  obtain ⟨X, hX⟩ : ∃ X, (if b3 then b5 else (b4 && b6)) = X := ⟨_, rfl⟩
  rw [hX]
  have HX := Lib.hid hX
  clear hf hm hs hR hX
  have c17 := HU.out.cell 17
  rw [(cU_at u _ h8).2.2.2.2.2.2.2.1] at c17
  have c19 := HU.out.cell 19
  rw [(cU_at u _ h8).2.2.2.2.2.2.2.2.2.1] at c19
  go_enter Tryz.func21, Tryz.ntmps21
  go_wp2_with fail
  generalize w.alloc (.cells (cU u pv) 27) = W at HB0 HU HM HS c17 c19 ⊢
  refine (C1.out _).mono ?_
  rintro e u1 ⟨rfl, hB1⟩
  cases b1
  · go_wp2
    go_ret
    exact ⟨rfl, Ascii.below2 HB0.out hB1⟩
  have HU1 := Lib.hid (HU.out.later hB1)
  have HM1 := Lib.hid (HM.out.later hB1)
  have HS1 := Lib.hid (HS.out.later hB1)
  have HB1 := Lib.hid (Ascii.below2 HB0.out hB1)
  clear HU HM HS HB0 hB1 C1 c17 c19
  have c18 := HU1.out.cell 18
  rw [(cU_at u _ h8).2.2.2.2.2.2.2.2.1] at c18
  have c20 := HU1.out.cell 20
  rw [(cU_at u _ h8).2.2.2.2.2.2.2.2.2.2] at c20
  go_wp2_with fail
  refine (C2.out _).mono ?_
  rintro e u2 ⟨rfl, hB2⟩
  cases b2
  · go_wp2
    go_ret
    exact ⟨rfl, Ascii.below2 HB1.out hB2⟩
  have HU2 := Lib.hid (HU1.out.later hB2)
  have HM2 := Lib.hid (HM1.out.later hB2)
  have HS2 := Lib.hid (HS1.out.later hB2)
  have HB2 := Lib.hid (Ascii.below2 HB1.out hB2)
  clear HU1 HM1 HS1 HB1 hB2 C2 c18 c20
  have c0 := HU2.out.cell 0
  rw [(cU_at u _ h8).1] at c0
  go_wp2_with fail
  refine (CW.out _).mono ?_
  rintro e u3 ⟨rfl, rfl⟩
  cases b3
  · go_wp2_with fail
    refine (CO.out _).mono ?_
    rintro e u3 ⟨rfl, rfl⟩
    cases b4
    · go_wp2
      go_ret
      exact ⟨by rw [← HX.out]; rfl, HB2.out⟩
    go_wp2_with ((with_reducible refine wp_load27 (o := ⟨some 27, .load 27 (.tmp 1), _, _, _, _⟩) ?_ (.tmp 1) ?_ w.heap.size ?_ u pv h8 HU2.out ?_); (· rfl); (· rfl); (· rfl))
    refine (CMO.out _ HS2.out).mono ?_
    rintro e u4 ⟨rfl, hB4⟩
    go_wp2
    go_ret
    exact ⟨by rw [← HX.out]; rfl, Ascii.below2 HB2.out hB4⟩
  · go_wp2_with ((with_reducible refine wp_load27 (o := ⟨some 21, .load 27 (.tmp 1), _, _, _, _⟩) ?_ (.tmp 1) ?_ w.heap.size ?_ u pv h8 HU2.out ?_); (· rfl); (· rfl); (· rfl))
    refine (CMW.out _ HM2.out HS2.out).mono ?_
    rintro e u4 ⟨rfl, hB4⟩
    go_wp2
    go_ret
    exact ⟨by rw [← HX.out]; rfl, Ascii.below2 HB2.out hB4⟩
end Go.Proofs.YtfdhhjigpboieaaGreatDoor.Url

/-
  The document's functions of layer 12.
-/
import Derived.Test.YtlkikfdbjpjpaaaGreatDoorOAwake
import Derived.Test.YtlkikfdbjpjpaaaGreatDoorRefC
namespace Go.Proofs.YtlkikfdbjpjpaaaGreatDoor.Origin
set_option linter.unusedSimpArgs false
set_option linter.unusedVariables false
set_option maxRecDepth 100000


open Go.RowKit Go.Shelf

open Url Show

open Host (H HostAt none0 mayH showH localH)

open Six (arr RowAt zero8)

open Path (Strs)

set_option maxRecDepth 100000

/-- A name that ends so, or not. -/
theorem ends_at (s : ByteArray) (hd : Host.domB s.data.toList = true) (k : Nat) (hk : s.size = k + 10) : Lib.hasSuffix s.data.toList (46 :: Host.loc9) = ((s.extract k s.size).toList == [46, 108, 111, 99, 97, 108, 104, 111, 115, 116]) := by
  rw [Path.tl, Pct.drop_text, Bool.eq_iff_iff, beq_iff_eq]
  unfold Lib.hasSuffix
  rw [List.isSuffixOf_iff_suffix, List.suffix_iff_eq_drop]
  have e : s.data.toList.length - (46 :: Host.loc9).length = k := by rw [size_list, hk]; rfl
  rw [e]
  exact ⟨fun h => h.symm, fun h => h.symm⟩

theorem ends_short (s : ByteArray) (hd : Host.domB s.data.toList = true) (hk : ¬ 10 < s.size) : Lib.hasSuffix s.data.toList (46 :: Host.loc9) = false := by
  cases h : Lib.hasSuffix s.data.toList (46 :: Host.loc9)
  · rfl
  · exfalso
    unfold Lib.hasSuffix at h
    rw [List.isSuffixOf_iff_suffix] at h
    obtain ⟨a, ha⟩ := h
    have hl := congrArg List.length ha
    rw [List.length_append, size_list] at hl
    have e10 : (46 :: Host.loc9).length = 10 := rfl
    have : a = [] := List.eq_nil_of_length_eq_zero (by omega)
    subst this
    rw [← ha] at hd
    exact absurd hd (by decide +kernel)

set_option maxHeartbeats 16000000 in
theorem refOf_any (u : U) (pv : Value) (hf : Fit u) (hp : ∀ t ∈ u.path, t.length ≤ 30000) (o : O) (ho : ofU u = o) (w : World) (hs : Strs w pv u.path) :
    Calls Tryz.prog 33 #[.agg (cU u pv)] w fun e w' => e = .returned (.agg (cO o)) ∧ Below w.heap.size w w' := by
  have H8 := hf.h8
  have h1 := UrlAt.new w u pv
  have hb1 := (Below.refl w.heap.size w).alloc (Nat.le_refl _) (.cells (cU u pv) 27)
  have hs1 : (w.alloc (.cells (cU u pv) 27)).heap.size = w.heap.size + 1 := Array.size_push _
  have h2 := zero_at (w.alloc (.cells (cU u pv) 27))
  rw [hs1] at h2
  have hB0 : Below w.heap.size w ((w.alloc (.cells (cU u pv) 27)).alloc (.cells #[.bool false, .string ⟨#[]⟩, .int .i64 0, .string ⟨#[]⟩, .int .i64 0, .int .i64 0, .int .i64 0, .int .i64 0, .int .i64 0, .int .i64 0, .int .i64 0, .int .i64 0, .int .i64 0, .int .i64 0] 30)) := hb1.alloc (by omega) (.cells #[.bool false, .string ⟨#[]⟩, .int .i64 0, .string ⟨#[]⟩, .int .i64 0, .int .i64 0, .int .i64 0, .int .i64 0, .int .i64 0, .int .i64 0, .int .i64 0, .int .i64 0, .int .i64 0, .int .i64 0] 30)
  have hU : UrlAt ((w.alloc (.cells (cU u pv) 27)).alloc (.cells #[.bool false, .string ⟨#[]⟩, .int .i64 0, .string ⟨#[]⟩, .int .i64 0, .int .i64 0, .int .i64 0, .int .i64 0, .int .i64 0, .int .i64 0, .int .i64 0, .int .i64 0, .int .i64 0, .int .i64 0] 30)) w.heap.size u pv := h1.past (.cells #[.bool false, .string ⟨#[]⟩, .int .i64 0, .string ⟨#[]⟩, .int .i64 0, .int .i64 0, .int .i64 0, .int .i64 0, .int .i64 0, .int .i64 0, .int .i64 0, .int .i64 0, .int .i64 0, .int .i64 0] 30)
  have HB0 := Lib.hid hB0
  have HU0 := Lib.hid hU
  have HZ0 := Lib.hid h2
  have HS := Lib.hid (hs.later hB0)
  obtain ⟨b, hb⟩ : ∃ b, mayU u = b := ⟨_, rfl⟩
  obtain ⟨z, hz⟩ : ∃ z, webI u.sch = z := ⟨_, rfl⟩
  have CM := Lib.hid (fun v hs => Url.refMay_any u pv hf hp b hb v hs)
  have CW := Lib.hid (fun v => refWeb_any (tb u.sch) z (by rw [tb_list]; exact hz) v)
  have HN := Lib.hid (show (b = false ∨ z = 0) → o = null0 from fun h => by
    rw [← ho]
    refine of_not fun k => ?_
    rcases h with h | h
    · rw [hb, h] at k; cases k.1
    · exact k.2 (hz.trans h))
  have HO := Lib.hid (show b = true → z ≠ 0 → o = ⟨false, u.sch, u.h, u.port⟩ from fun h k => by rw [← ho]; exact of_web (hb.trans h) (fun e => k (hz.symm.trans e)))
  clear h1 h2 hb1 hs1 hB0 hb hz ho hs hp
  go_enter Tryz.func33, Tryz.ntmps33
  go_wp2_with ((with_reducible refine wp_load27 (o := ⟨some 4, .load 27 (.tmp 1), _, _, _, _⟩) ?_ (.tmp 1) ?_ w.heap.size ?_ u pv H8 hU ?_); (· rfl); (· rfl); (· rfl); simp only [Act.put, List.setIfInBounds_toArray, List.set_cons_zero, List.set_cons_succ])
  clear hU
  generalize ((w.alloc (.cells (cU u pv) 27)).alloc (.cells #[.bool false, .string ⟨#[]⟩, .int .i64 0, .string ⟨#[]⟩, .int .i64 0, .int .i64 0, .int .i64 0, .int .i64 0, .int .i64 0, .int .i64 0, .int .i64 0, .int .i64 0, .int .i64 0, .int .i64 0] 30)) = W at HB0 HU0 HZ0 HS ⊢
  refine (CM.out _ HS.out).mono ?_
  rintro e u1 ⟨rfl, hB⟩
  have HB1 := Lib.hid (Ascii.below2 HB0.out hB)
  have HU1 := Lib.hid (HU0.out.later hB)
  have HZ1 := Lib.hid (HZ0.out.later hB)
  clear hB CM HB0 HU0 HZ0 HS
  have hz1 := HZ1.out
  cases b
  · obtain rfl := HN.out (.inl (by first | rfl | trivial))
    go_wp2_with (first
      | ((with_reducible refine wp_build29n (o := ⟨some 14, .build 30 #[(0, .const (.bool true))], _, _, _, _⟩) ?_ (.const (.bool true)) ?_ ?_ ?_); (· rfl); (· rfl); (· rfl); simp only [Act.put, List.setIfInBounds_toArray, List.set_cons_zero, List.set_cons_succ])
      | ((with_reducible refine wp_store29 (o := ⟨none, .store 30 (.tmp 2) (.tmp 14), _, _, _, _⟩) ?_ (.tmp 2) (.tmp 14) ?_ (w.heap.size + 1) ?_ null0 ?_ rfl zeroO rfl hz1 ?_); (· rfl); (· rfl); (· rfl); (· rfl); simp only [Act.put, List.setIfInBounds_toArray, List.set_cons_zero, List.set_cons_succ]))
    exact bodyPost_ret (ret_o rfl (w.heap.size + 1) null0 rfl rfl (hz1.row null0)) rfl ⟨rfl, below_row HB1.out (Nat.le_succ _) _⟩
  have c0 := HU1.out.cell 0
  rw [(cU_at u pv H8).1] at c0
  go_wp2_with fail
  refine (CW.out _).mono ?_
  rintro e X ⟨rfl, rfl⟩
  clear CW
  by_cases h0 : z = 0
  · subst h0
    obtain rfl := HN.out (.inr (by first | rfl | trivial))
    go_wp2_with (first
      | ((with_reducible refine wp_build29n (o := ⟨some 14, .build 30 #[(0, .const (.bool true))], _, _, _, _⟩) ?_ (.const (.bool true)) ?_ ?_ ?_); (· rfl); (· rfl); (· rfl); simp only [Act.put, List.setIfInBounds_toArray, List.set_cons_zero, List.set_cons_succ])
      | ((with_reducible refine wp_store29 (o := ⟨none, .store 30 (.tmp 2) (.tmp 14), _, _, _, _⟩) ?_ (.tmp 2) (.tmp 14) ?_ (w.heap.size + 1) ?_ null0 ?_ rfl zeroO rfl hz1 ?_); (· rfl); (· rfl); (· rfl); (· rfl); simp only [Act.put, List.setIfInBounds_toArray, List.set_cons_zero, List.set_cons_succ]))
    exact bodyPost_ret (ret_o rfl (w.heap.size + 1) null0 rfl rfl (hz1.row null0)) rfl ⟨rfl, below_row HB1.out (Nat.le_succ _) _⟩
  have q0 : (z == 0) = false := beq_eq_false_iff_ne.2 h0
  obtain rfl := HO.out (by first | rfl | trivial) h0
  clear HO HN
  have hu1 := HU1.out
  have c14 := HU1.out.cell 14
  rw [(cU_at u pv H8).2.2.2.2.1] at c14
  go_wp2_with (first
    | ((with_reducible refine wp_load24u (o := ⟨some 18, .load 24 (.tmp 17), _, _, _, _⟩) ?_ (.tmp 17) ?_ w.heap.size ?_ u pv H8 hu1 ?_); (· rfl); (· rfl); (· rfl); simp only [Act.put, List.setIfInBounds_toArray, List.set_cons_zero, List.set_cons_succ])
    | ((with_reducible refine wp_build29 (o := ⟨some 21, .build 30 #[(1, .tmp 16), (2, .tmp 18), (3, .tmp 20)], _, _, _, _⟩) ?_ (.tmp 16) (.tmp 18) (.tmp 20) ?_ u.sch u.h u.port ?_ ?_ ?_ H8 ?_); (· rfl); (· rfl); (· rfl); (· rfl); (· rfl); simp only [Act.put, List.setIfInBounds_toArray, List.set_cons_zero, List.set_cons_succ])
    | ((with_reducible refine wp_store29 (o := ⟨none, .store 30 (.tmp 2) (.tmp 21), _, _, _, _⟩) ?_ (.tmp 2) (.tmp 21) ?_ (w.heap.size + 1) ?_ ⟨false, u.sch, u.h, u.port⟩ ?_ H8 zeroO rfl hz1 ?_); (· rfl); (· rfl); (· rfl); (· rfl); simp only [Act.put, List.setIfInBounds_toArray, List.set_cons_zero, List.set_cons_succ]))
  exact bodyPost_ret (ret_o rfl (w.heap.size + 1) ⟨false, u.sch, u.h, u.port⟩ H8 rfl (hz1.row ⟨false, u.sch, u.h, u.port⟩)) rfl ⟨rfl, below_row HB1.out (Nat.le_succ _) _⟩

theorem web_pos (z : Int) (l : T) (hz : webI l = z) : decide (0 < z) = !decide (z = 0) := by
  rcases web_cases l with ⟨_, e⟩ | ⟨_, e⟩ | e <;> rw [← hz, e] <;> rfl

set_option maxHeartbeats 16000000 in
theorem refMayO_any (o : O) (h8 : o.h.p.length = 8) (hs : o.h.s.size ≤ 1000) (b : Bool) (hb : mayO o = b) (w : World) :
    Calls Tryz.prog 47 #[.agg (cO o)] w fun e w' => e = .returned (.bool b) ∧ Below w.heap.size w w' := by
  have H8 := Lib.hid h8
  have HB0 := Lib.hid (show Below w.heap.size w (w.alloc (.cells (cO o) 30)) from (Below.refl _ w).alloc (Nat.le_refl _) _)
  have HO := Lib.hid (OAt.new w o)
  obtain ⟨M, hM⟩ : ∃ b, mayH o.h = b := ⟨_, rfl⟩
  obtain ⟨z, hz⟩ : ∃ z, webI o.sch = z := ⟨_, rfl⟩
  obtain ⟨Z, hZ⟩ : ∃ z, decide (webI o.sch = 0) = z := ⟨_, rfl⟩
  obtain ⟨Q, hQ⟩ : ∃ z, o.opaq = z := ⟨_, rfl⟩
  obtain ⟨N, hN⟩ : ∃ z, tb o.sch = z := ⟨_, rfl⟩
  obtain ⟨p, hp⟩ : ∃ z, o.port = z := ⟨_, rfl⟩
  have hzp : decide (0 < z) = !Z := by rw [web_pos z o.sch hz, ← hZ, hz]
  have CM := Lib.hid (fun v => refHostMay_any o.h h8 hs M hM v)
  have CW := Lib.hid (fun v => refWeb_any N z (by rw [list_tb hN]; exact hz) v)
  obtain ⟨E, hE⟩ : ∃ b, (N.toList == []) = b := ⟨_, rfl⟩
  obtain ⟨S, hS⟩ : ∃ b, Host.sameH o.h none0 = b := ⟨_, rfl⟩
  have HEQ := Lib.hid (show ∀ v, (Op.equalIn 10000 24 (.agg o.h.cells) (.agg #[.int .i64 0, .string ⟨#[]⟩, .int .i64 0, .int .i64 0, .int .i64 0, .int .i64 0, .int .i64 0, .int .i64 0, .int .i64 0, .int .i64 0, .int .i64 0])).run Tryz.prog v = .ok S v from fun v => Host.eq24 o.h none0 h8 rfl S hS v)
  obtain ⟨P0, hP0⟩ : ∃ b, (p == 0) = b := ⟨_, rfl⟩
  obtain ⟨P1, hP1⟩ : ∃ b, decide (-1 ≤ p) = b := ⟨_, rfl⟩
  obtain ⟨P2, hP2⟩ : ∃ b, decide (p ≤ 65535) = b := ⟨_, rfl⟩
  obtain ⟨P3, hP3⟩ : ∃ b, (p != z) = b := ⟨_, rfl⟩
  have hE' : o.sch.isEmpty = E := by rw [← hE, Path.tl, list_tb hN]; cases o.sch <;> rfl
  have hP0' : decide (p = 0) = P0 := by rw [← hP0]; exact (Bool.beq_eq_decide_eq p 0).symm
  have hP3' : (!decide (p = z)) = P3 := by rw [← hP3, bne, Bool.beq_eq_decide_eq]
  unfold mayO at hb
  rw [hQ, hE', hS, hp, hP0', hZ, hM, hP1, hP2, hz, hP3'] at hb
  have HZ := Lib.hid hzp
  have HE := Lib.hid hE
  have HP0 := Lib.hid hP0
  have HP1 := Lib.hid hP1
  have HP2 := Lib.hid hP2
  have HP3 := Lib.hid hP3
  have HQ := Lib.hid hQ
  have HN := Lib.hid hN
  have HP := Lib.hid hp
  have HBb := Lib.hid hb
  clear h8 hs hb hM hz hZ hQ hN hp hzp hE hS hP0 hP1 hP2 hP3 hE' hP0' hP3'
  have ho := HO.out
  go_enter Tryz.func47, Tryz.ntmps47
  go_wp2_with ((with_reducible refine wp_load24o (o := ⟨some 6, .load 24 (.tmp 5), _, _, _, _⟩) ?_ (.tmp 5) ?_ w.heap.size ?_ o H8.out ho ?_); (· rfl); (· rfl); (· rfl); simp only [Act.put, List.setIfInBounds_toArray, List.set_cons_zero, List.set_cons_succ])
  clear ho
  generalize (w.alloc (.cells (cO o) 30)) = X0 at HB0 HO ⊢
  refine (CM.out _).mono ?_
  rintro e X1 ⟨rfl, hB⟩
  have HO1 := Lib.hid (HO.out.later hB)
  have HB1 := Lib.hid (Ascii.below2 HB0.out hB)
  clear hB CM HO HB0
  obtain ⟨c0, c1, c13⟩ := HO1.out.cells H8.out
  rw [HQ.out] at c0
  rw [HN.out] at c1
  rw [HP.out] at c13
  go_wp2_with fail
  refine (CW.out _).mono ?_
  rintro e X ⟨rfl, rfl⟩
  clear CW
  have hb := HBb.out
  have ho := HO1.out
  have hzp := HZ.out
  have hE := HE.out
  have hP0 := HP0.out
  have hP1 := HP1.out
  have hP2 := HP2.out
  have hP3 := HP3.out
  have heq := HEQ.out
  clear HBb HZ HE HP0 HP1 HP2 HP3 HEQ
  cases Q
  · rw [if_neg (by decide)] at hb
    subst hb
    clear hE hP0 heq ho
    cases Z <;> cases M <;> cases P1 <;> cases P2 <;> cases P3
    all_goals
      go_wp2
      go_ret
      exact ⟨rfl, HB1.out⟩
  · rw [if_pos rfl] at hb
    subst hb
    clear hzp hP1 hP2 hP3
    cases E <;> cases S <;> cases P0
    all_goals
      go_wp2_with ((with_reducible refine wp_load24o (o := ⟨some 18, .load 24 (.tmp 17), _, _, _, _⟩) ?_ (.tmp 17) ?_ w.heap.size ?_ o H8.out ho ?_); (· rfl); (· rfl); (· rfl); simp only [Act.put, List.setIfInBounds_toArray, List.set_cons_zero, List.set_cons_succ])
      go_ret
      exact ⟨rfl, HB1.out⟩

set_option maxHeartbeats 16000000 in
theorem refSameO_any (a b : O) (ha : a.h.p.length = 8) (hb : b.h.p.length = 8) (hs : a.h.s.size ≤ 1000) (hs' : b.h.s.size ≤ 1000) (r : Bool) (hr : sameO a b = r) (w : World) :
    Calls Tryz.prog 32 #[.agg (cO a), .agg (cO b)] w fun e w' => e = .returned (.bool r) ∧ Below w.heap.size w w' := by
  have HA := Lib.hid ha
  have HB := Lib.hid hb
  have hs1 : (w.alloc (.cells (cO a) 30)).heap.size = w.heap.size + 1 := Array.size_push _
  have hB1 := (Below.refl w.heap.size w).alloc (Nat.le_refl _) (.cells (cO a) 30)
  have hB2 := hB1.alloc (Nat.le_trans (Nat.le_succ _) (Nat.le_of_eq hs1.symm)) (.cells (cO b) 30)
  have HU := Lib.hid ((OAt.new w a).past (.cells (cO b) 30))
  have HV := Lib.hid (show OAt ((w.alloc (.cells (cO a) 30)).alloc (.cells (cO b) 30)) (w.heap.size + 1) b from by rw [← hs1]; exact OAt.new _ b)
  have HB0 := Lib.hid hB2
  obtain ⟨M1, hM1⟩ : ∃ q, mayO a = q := ⟨_, rfl⟩
  obtain ⟨M2, hM2⟩ : ∃ q, mayO b = q := ⟨_, rfl⟩
  obtain ⟨Q1, hQ1⟩ : ∃ q, a.opaq = q := ⟨_, rfl⟩
  obtain ⟨Q2, hQ2⟩ : ∃ q, b.opaq = q := ⟨_, rfl⟩
  obtain ⟨N1, hN1⟩ : ∃ q, tb a.sch = q := ⟨_, rfl⟩
  obtain ⟨N2, hN2⟩ : ∃ q, tb b.sch = q := ⟨_, rfl⟩
  obtain ⟨p1, hp1⟩ : ∃ q, a.port = q := ⟨_, rfl⟩
  obtain ⟨p2, hp2⟩ : ∃ q, b.port = q := ⟨_, rfl⟩
  obtain ⟨S, hS⟩ : ∃ q, (N1.toList == N2.toList) = q := ⟨_, rfl⟩
  obtain ⟨G, hG⟩ : ∃ q, Host.sameH a.h b.h = q := ⟨_, rfl⟩
  obtain ⟨P, hP⟩ : ∃ q, (p1 == p2) = q := ⟨_, rfl⟩
  have C1 := Lib.hid (fun y => refMayO_any a ha hs M1 hM1 y)
  have C2 := Lib.hid (fun y => refMayO_any b hb hs' M2 hM2 y)
  have HEQ := Lib.hid (show ∀ v, (Op.equalIn 10000 24 (.agg a.h.cells) (.agg b.h.cells)).run Tryz.prog v = .ok G v from fun v => Host.eq24 a.h b.h ha hb G hG v)
  have hS' : (a.sch == b.sch) = S := by rw [← hS, Path.tl, Path.tl, list_tb hN1, list_tb hN2]
  have hP' : decide (p1 = p2) = P := by rw [← hP]; exact (Bool.beq_eq_decide_eq p1 p2).symm
  unfold sameO at hr
  rw [hM1, hM2, hQ1, hQ2, hS', hG, hp1, hp2, hP'] at hr
  have K1 := Lib.hid hQ1
  have K2 := Lib.hid hQ2
  have K3 := Lib.hid hN1
  have K4 := Lib.hid hN2
  have K5 := Lib.hid hp1
  have K6 := Lib.hid hp2
  have KS := Lib.hid hS
  have KP := Lib.hid hP
  clear ha hb hs hs' hs1 hB1 hB2 hM1 hM2 hQ1 hQ2 hN1 hN2 hp1 hp2 hS hG hP hS' hP'
  subst hr
  have hu := HU.out
  go_enter Tryz.func32, Tryz.ntmps32
  go_wp2_with ((with_reducible refine wp_load29 (o := ⟨some 7, .load 30 (.tmp 2), _, _, _, _⟩) ?_ (.tmp 2) ?_ w.heap.size ?_ a HA.out hu ?_); (· rfl); (· rfl); (· rfl); simp only [Act.put, List.setIfInBounds_toArray, List.set_cons_zero, List.set_cons_succ])
  clear hu
  generalize (w.alloc (.cells (cO a) 30)).alloc (.cells (cO b) 30) = W at HB0 HU HV ⊢
  refine (C1.out _).mono ?_
  rintro e u1 ⟨rfl, hB⟩
  have HU1 := Lib.hid (HU.out.later hB)
  have HV1 := Lib.hid (HV.out.later hB)
  have HC1 := Lib.hid (Ascii.below2 HB0.out hB)
  clear hB C1 HU HV HB0
  have hv := HV1.out
  go_wp2_with ((with_reducible refine wp_load29 (o := ⟨some 9, .load 30 (.tmp 3), _, _, _, _⟩) ?_ (.tmp 3) ?_ (w.heap.size + 1) ?_ b HB.out hv ?_); (· rfl); (· rfl); (· rfl); simp only [Act.put, List.setIfInBounds_toArray, List.set_cons_zero, List.set_cons_succ])
  clear hv
  refine (C2.out _).mono ?_
  rintro e u2 ⟨rfl, hB⟩
  have HU2 := Lib.hid (HU1.out.later hB)
  have HV2 := Lib.hid (HV1.out.later hB)
  have HC2 := Lib.hid (Ascii.below2 HC1.out hB)
  clear hB C2 HU1 HV1 HC1
  obtain ⟨c0, c1, c13⟩ := HU2.out.cells HA.out
  obtain ⟨d0, d1, d13⟩ := HV2.out.cells HB.out
  rw [K1.out] at c0
  rw [K2.out] at d0
  rw [K3.out] at c1
  rw [K4.out] at d1
  rw [K5.out] at c13
  rw [K6.out] at d13
  have hu := HU2.out
  have hv := HV2.out
  have hS := KS.out
  have hP := KP.out
  have heq := HEQ.out
  clear K1 K2 K3 K4 K5 K6 KS KP HEQ
  cases M1
  · go_wp2
    go_ret
    exact ⟨rfl, HC2.out⟩
  cases M2
  · go_wp2
    go_ret
    exact ⟨rfl, HC2.out⟩
  cases Q1
  rotate_left
  · go_wp2
    go_ret
    exact ⟨rfl, HC2.out⟩
  cases Q2
  rotate_left
  · go_wp2
    go_ret
    exact ⟨rfl, HC2.out⟩
  cases S
  · go_wp2
    go_ret
    exact ⟨rfl, HC2.out⟩
  cases G <;> cases P
  all_goals
    go_wp2_with (first
      | ((with_reducible refine wp_load24o (o := ⟨some 34, .load 24 (.tmp 33), _, _, _, _⟩) ?_ (.tmp 33) ?_ w.heap.size ?_ a HA.out hu ?_); (· rfl); (· rfl); (· rfl); simp only [Act.put, List.setIfInBounds_toArray, List.set_cons_zero, List.set_cons_succ])
      | ((with_reducible refine wp_load24o (o := ⟨some 36, .load 24 (.tmp 35), _, _, _, _⟩) ?_ (.tmp 35) ?_ (w.heap.size + 1) ?_ b HB.out hv ?_); (· rfl); (· rfl); (· rfl); simp only [Act.put, List.setIfInBounds_toArray, List.set_cons_zero, List.set_cons_succ]))
    go_ret
    exact ⟨rfl, HC2.out⟩

set_option maxHeartbeats 16000000 in
theorem refShowO_any (o : O) (h8 : o.h.p.length = 8) (hs : o.h.s.size ≤ 1000) (hl : o.sch.length ≤ 1000000) (hw : -9223372036854775808 ≤ o.port ∧ o.port ≤ 9223372036854775807) (x : ByteArray) (hx : tb (showO o) = x) (w : World) :
    Calls Tryz.prog 30 #[.agg (cO o)] w fun e w' => e = .returned (.string x) ∧ Below w.heap.size w w' := by
  have H8 := Lib.hid h8
  have HB0 := Lib.hid (show Below w.heap.size w (w.alloc (.cells (cO o) 30)) from (Below.refl _ w).alloc (Nat.le_refl _) _)
  have HO := Lib.hid (OAt.new w o)
  obtain ⟨M, hM⟩ : ∃ b, mayO o = b := ⟨_, rfl⟩
  obtain ⟨Q, hQ⟩ : ∃ z, o.opaq = z := ⟨_, rfl⟩
  obtain ⟨N, hN⟩ : ∃ z, tb o.sch = z := ⟨_, rfl⟩
  have hN1 : N.size ≤ 1000000 := by rw [size_tb hN]; exact hl
  obtain ⟨p, hp⟩ : ∃ z, o.port = z := ⟨_, rfl⟩
  have CM := Lib.hid (fun v => refMayO_any o h8 hs M hM v)
  obtain ⟨D, hD⟩ : ∃ z, tb (showH o.h) = z := ⟨_, rfl⟩
  have hD1 : D.size ≤ 100 := by rw [size_tb hD]; exact host_len (adr o) (adr_fit o h8 hs hl)
  have CH := Lib.hid (fun v => refHostShow_any o.h h8 hs D hD v)
  obtain ⟨P, hP⟩ : ∃ n, N ++ (⟨#[58, 47, 47]⟩ : ByteArray) = n := ⟨_, rfl⟩
  have hP1 : P.size = N.size + 3 := by rw [← hP, ByteArray.size_append]; rfl
  obtain ⟨Y, hY⟩ : ∃ n, P ++ D = n := ⟨_, rfl⟩
  have hY1 : Y.size = P.size + D.size := by rw [← hY, ByteArray.size_append]
  obtain ⟨G, hG⟩ : ∃ n, tb (Deci.showI p) = n := ⟨_, rfl⟩
  have hG1 : G.size ≤ 20 := by rw [size_tb hG, ← hp]; exact port_len (adr o) hw.2 hw.1
  have CD := Lib.hid (show ∀ v, Calls Tryz.prog 49 #[.int .i64 p] v fun e W' => e = .returned (.string G) ∧ Below v.heap.size v W' from fun v => by rw [← hG, ← hp]; exact Deci.refShow_calls o.port hw.1 hw.2 v)
  obtain ⟨P9, hP9⟩ : ∃ b, (p == -1) = b := ⟨_, rfl⟩
  have hx0 : (Q || !M) = true → (⟨#[110, 117, 108, 108]⟩ : ByteArray) = x := fun h => by
    rw [← hx, show_null (by rw [hQ, hM]; exact h)]; rfl
  have hlist : Y.data.toList = o.sch ++ 58 :: 47 :: 47 :: showH o.h := by
    rw [← hY, ← hP, Path.text_append, Path.text_append, list_tb hN, list_tb hD]; simp
  have hx1 : Q = false → M = true → P9 = true → Y = x := fun h1 h2 h3 => by
    rw [← hx, show_begins (hM.trans h2) (hQ.trans h1)]
    unfold portO
    rw [if_pos (by rw [hp]; exact beq_iff_eq.1 (hP9.trans h3)), List.append_nil, ← hlist]
    exact (tb_of Y).symm
  have hx2 : Q = false → M = true → P9 = false → Y ++ (⟨#[58]⟩ : ByteArray) ++ G = x := fun h1 h2 h3 => by
    rw [← hx, show_begins (hM.trans h2) (hQ.trans h1)]
    unfold portO
    rw [if_neg (by rw [hp]; exact beq_eq_false_iff_ne.1 (hP9.trans h3)), hp]
    apply ByteArray.ext
    apply Array.toList_inj.1
    show (Y ++ (⟨#[58]⟩ : ByteArray) ++ G).data.toList = _
    rw [Path.text_append, Path.text_append, hlist, list_tb hG, tb_list]; simp
  have HQ := Lib.hid hQ
  have HN := Lib.hid hN
  have HPp := Lib.hid hp
  have HN1 := Lib.hid hN1
  have HD1 := Lib.hid hD1
  have HP := Lib.hid hP
  have HP1 := Lib.hid hP1
  have HY := Lib.hid hY
  have HY1 := Lib.hid hY1
  have HG1 := Lib.hid hG1
  have HP9 := Lib.hid hP9
  have HX0 := Lib.hid hx0
  have HX1 := Lib.hid hx1
  have HX2 := Lib.hid hx2
  clear h8 hs hl hw hx hM hQ hN hN1 hp hD hD1 hP hP1 hY hY1 hG hG1 hP9 hx0 hx1 hx2 hlist
  have ho := HO.out
  go_enter Tryz.func30, Tryz.ntmps30
  go_wp2_with ((with_reducible refine wp_load29 (o := ⟨some 5, .load 30 (.tmp 1), _, _, _, _⟩) ?_ (.tmp 1) ?_ w.heap.size ?_ o H8.out ho ?_); (· rfl); (· rfl); (· rfl); simp only [Act.put, List.setIfInBounds_toArray, List.set_cons_zero, List.set_cons_succ])
  clear ho
  generalize (w.alloc (.cells (cO o) 30)) = X0 at HB0 HO ⊢
  refine (CM.out _).mono ?_
  rintro e X1 ⟨rfl, hB⟩
  have HO1 := Lib.hid (HO.out.later hB)
  have HB1 := Lib.hid (Ascii.below2 HB0.out hB)
  clear hB CM HO HB0
  obtain ⟨c0, c1, c13⟩ := HO1.out.cells H8.out
  rw [HQ.out] at c0
  rw [HN.out] at c1
  rw [HPp.out] at c13
  cases Q
  rotate_left
  · obtain rfl := HX0.out (by first | rfl | trivial)
    go_wp2
    go_ret
    exact ⟨rfl, HB1.out⟩
  cases M
  · obtain rfl := HX0.out (by first | rfl | trivial)
    go_wp2
    go_ret
    exact ⟨rfl, HB1.out⟩
  go_wp2_with fail
  have hc : Below X1.heap.size X1 X1.drew := (Below.refl _ _).drew
  refine wp_region_held_drew (S := fun v => OAt v w.heap.size o ∧ Below X1.heap.size X1 v) (by kernel_rfl) ⟨HO1.out.later hc, hc⟩ (fun hS => ?_)
  refine wpAnyH_take (i := 0) (oi := ⟨some 13, .fieldAddr 30 (.tmp 1) 1, _, _, _, _⟩) (v := .pointer (some ⟨w.heap.size, 1, none⟩)) rfl (by kernel_rfl) (by kernel_rfl) (by kernel_rfl) (fun _ _ _ h => h) (Or.inl ⟨by rfl, ?_⟩) (by assumption) ?_
  · (intro v hv; go_simp)
  simp only [Act.put, List.setIfInBounds_toArray, List.set_cons_zero, List.set_cons_succ]
  refine wpAnyH_take (i := 1) (oi := ⟨some 14, .load 9 (.tmp 13), _, _, _, _⟩) (v := .string N) rfl (by kernel_rfl) (by kernel_rfl) (by kernel_rfl) (fun _ _ _ h => h) (Or.inl ⟨by rfl, ?_⟩) (by assumption) ?_
  · (exact fun v hv => run_load_of 9 (.tmp 13) ⟨w.heap.size, 1, none⟩ rfl (.string N) (load9 (by rw [← HN.out]; exact (hv.1.cells H8.out).2.1)))
  simp only [Act.put, List.setIfInBounds_toArray, List.set_cons_zero, List.set_cons_succ]
  refine wpAnyH_take (i := 2) (oi := ⟨some 15, .binOp .add 9 (.tmp 14) (.const (.string ⟨#[58, 47, 47]⟩)) 9, _, _, _, _⟩) (v := .string P) rfl (by kernel_rfl) (by kernel_rfl) (by kernel_rfl) (fun _ _ _ h => h) (Or.inl ⟨by rfl, ?_⟩) (by assumption) ?_
  · (intro v hv; have a1 := HN1.out; have a2 := HP.out; go_simp; omega)
  simp only [Act.put, List.setIfInBounds_toArray, List.set_cons_zero, List.set_cons_succ]
  refine wpAnyH_take (i := 3) (oi := ⟨some 16, .fieldAddr 30 (.tmp 1) 2, _, _, _, _⟩) (v := .pointer (some ⟨w.heap.size, 2, none⟩)) rfl (by kernel_rfl) (by kernel_rfl) (by kernel_rfl) (fun _ _ _ h => h) (Or.inl ⟨by rfl, ?_⟩) (by assumption) ?_
  · (intro v hv; go_simp)
  simp only [Act.put, List.setIfInBounds_toArray, List.set_cons_zero, List.set_cons_succ]
  refine wpAnyH_take (i := 4) (oi := ⟨some 17, .load 24 (.tmp 16), _, _, _, _⟩) (v := .agg o.h.cells) rfl (by kernel_rfl) (by kernel_rfl) (by kernel_rfl) (fun _ _ _ h => h) (Or.inl ⟨by rfl, ?_⟩) (by assumption) ?_
  · (exact fun v hv => run_load_of 24 (.tmp 16) ⟨w.heap.size, 2, none⟩ rfl (.agg o.h.cells) (hv.1.host H8.out))
  simp only [Act.put, List.setIfInBounds_toArray, List.set_cons_zero, List.set_cons_succ]
  refine wpAnyH_ready (rs := [5]) (by kernel_rfl) (by simp) ?_
  refine AllReadyH.cons (o := ⟨some 18, .call ⟨.value (.func 48), #[.tmp 17], _⟩, _, _, _, _⟩) rfl (fun K hK => ?_) AllReadyH.nil
  go_simp
  go_at_call 48
  refine (CH.out _).mono ?_
  rintro e y ⟨rfl, hB⟩
  have hc := below_trans hc hB
  refine hK.out _ _ ⟨HO1.out.later hc, hc⟩ (fun hS => ?_)
  clear hB
  refine wpAnyH_take (i := 6) (oi := ⟨some 19, .binOp .add 9 (.tmp 15) (.tmp 18) 9, _, _, _, _⟩) (v := .string Y) rfl (by kernel_rfl) (by kernel_rfl) (by kernel_rfl) (fun _ _ _ h => h) (Or.inl ⟨by rfl, ?_⟩) (by assumption) ?_
  · (intro v hv; have a1 := HN1.out; have a2 := HD1.out; have a3 := HP1.out; have a4 := HY.out; go_simp; omega)
  simp only [Act.put, List.setIfInBounds_toArray, List.set_cons_zero, List.set_cons_succ]
  refine wpAnyH_take (i := 7) (oi := ⟨some 4, .assign (.tmp 19), _, _, _, _⟩) (v := .string Y) rfl (by kernel_rfl) (by kernel_rfl) (by kernel_rfl) (fun _ _ _ h => h) (Or.inl ⟨by rfl, ?_⟩) (by assumption) ?_
  · (intro v hv; go_simp)
  simp only [Act.put, List.setIfInBounds_toArray, List.set_cons_zero, List.set_cons_succ]
  refine wpAnyH_done (by kernel_rfl) ?_ _
  have HO2 := Lib.hid (HO1.out.later hc)
  have HB2 := Lib.hid (Ascii.below2 HB1.out hc)
  clear hS hc HO1 HB1 c0 c1 c13 CH HP HY
  obtain ⟨Z, hZ⟩ : ∃ z, z = y := ⟨_, rfl⟩
  subst hZ
  have c13 := (HO2.out.cells H8.out).2.2
  rw [HPp.out] at c13
  have hP9 := HP9.out
  cases P9
  · have e := HX2.out (by first | rfl | trivial) (by first | rfl | trivial) (by first | rfl | trivial)
    have a1 := HN1.out
    have a2 := HD1.out
    have a3 := HP1.out
    have a4 := HY1.out
    have a5 := HG1.out
    have hsz1 : ¬ (maxLen < Y.size + 1) := by unfold maxLen; omega
    have HSZ := Lib.hid (show ¬ (maxLen < Y.size + 1 + G.size) from by unfold maxLen; omega)
    have HE := Lib.hid e
    clear e HX0 HX1 HX2 a1 a2 a3 a4 a5
    go_wp2_with fail
    refine (CD.out _).mono ?_
    rintro e X4 ⟨rfl, hB⟩
    have HB3 := Lib.hid (Ascii.below2 HB2.out hB)
    have hsz2 := HSZ.out
    clear hB CD
    go_wp2
    go_ret
    exact ⟨by rw [← HE.out]; rfl, HB3.out⟩
  · obtain rfl := HX1.out (by first | rfl | trivial) (by first | rfl | trivial) (by first | rfl | trivial)
    go_wp2
    go_ret
    exact ⟨rfl, HB2.out⟩

set_option maxHeartbeats 16000000 in
theorem refBoth_any (u v : U) (pv qv : Value) (hf : Fit u) (hg : Fit v) (hp : ∀ t ∈ u.path, t.length ≤ 30000) (hq : ∀ t ∈ v.path, t.length ≤ 30000) (b : Bool) (hb : bothU u v = b) (w : World) (hs : Strs w pv u.path) (ht : Strs w qv v.path) :
    Calls Tryz.prog 31 #[.agg (cU u pv), .agg (cU v qv)] w fun e w' => e = .returned (.bool b) ∧ Below w.heap.size w w' := by
  have hs1 : (w.alloc (.cells (cU u pv) 27)).heap.size = w.heap.size + 1 := Array.size_push _
  have hb1 := (Below.refl w.heap.size w).alloc (Nat.le_refl _) (.cells (cU u pv) 27)
  have hb2 := hb1.alloc (Nat.le_trans (Nat.le_succ _) (Nat.le_of_eq hs1.symm)) (.cells (cU v qv) 27)
  have hU := (UrlAt.new w u pv).past (.cells (cU v qv) 27)
  have hV : UrlAt ((w.alloc (.cells (cU u pv) 27)).alloc (.cells (cU v qv) 27)) (w.heap.size + 1) v qv := by rw [← hs1]; exact UrlAt.new _ v qv
  have HB0 := Lib.hid hb2
  have HU := Lib.hid hU
  have HV := Lib.hid hV
  have HS := Lib.hid (hs.later hb2)
  have HT := Lib.hid (ht.later hb2)
  obtain ⟨a, ha⟩ : ∃ o, ofU u = o := ⟨_, rfl⟩
  obtain ⟨c, hc⟩ : ∃ o, ofU v = o := ⟨_, rfl⟩
  obtain ⟨a8, az, ay⟩ := of_size u hf
  obtain ⟨c8, cs, cl⟩ := of_size v hg
  rw [ha] at a8 az ay
  rw [hc] at c8 cs cl
  unfold bothU at hb
  rw [ha, hc] at hb
  have CA := Lib.hid (fun y hs => refOf_any u pv hf hp a ha y hs)
  have CC := Lib.hid (fun y hs => refOf_any v qv hg hq c hc y hs)
  have CS := Lib.hid (fun y => refSameO_any a c a8 c8 az cs b hb y)
  have H8 := Lib.hid hf.h8
  have K8 := Lib.hid hg.h8
  clear hs1 hb1 hb2 hU hV hf hg hp hq hs ht ha hc a8 az ay c8 cs cl hb
  go_enter Tryz.func31, Tryz.ntmps31
  go_wp2_with fail
  generalize ((w.alloc (.cells (cU u pv) 27)).alloc (.cells (cU v qv) 27)) = W at HB0 HU HV HS HT ⊢
  have QU := Lib.hid (q_url HU.out H8.out)
  have QV := Lib.hid (q_url HV.out K8.out)
  refine Ascii.wp_region_quiet_below (by kernel_rfl) (by kernel_rfl) ?_
  ((go_big_quiet_want; (with_reducible refine Host.quiet_load (o := ⟨some 6, .load 27 (.tmp 2), _, _, _, _⟩) 27 (.tmp 2) ?_ _ ?_ _ QU.out ?_); (· rfl); (· rfl)); go_big_quiet_on; simp only [Act.put, List.setIfInBounds_toArray, List.set_cons_succ, List.set_cons_zero])
  go_big_quiet_step ((intro hu; go_at_call 33; exact (CA.out _ (HS.out.later hu)).mono fun e u' h => ⟨h.1, hu.trans (h.2.mono hu.size)⟩))
  ((go_big_quiet_want; (with_reducible refine Host.quiet_load (o := ⟨some 8, .load 27 (.tmp 3), _, _, _, _⟩) 27 (.tmp 3) ?_ _ ?_ _ QV.out ?_); (· rfl); (· rfl)); go_big_quiet_on; simp only [Act.put, List.setIfInBounds_toArray, List.set_cons_succ, List.set_cons_zero])
  go_big_quiet_step ((intro hu; go_at_call 33; exact (CC.out _ (HT.out.later hu)).mono fun e u' h => ⟨h.1, hu.trans (h.2.mono hu.size)⟩))
  go_big_quiet_step ((intro hu; go_at_call 32; exact (CS.out _).mono fun e u' h => ⟨h.1, hu.trans (h.2.mono hu.size)⟩))
  repeat (go_big_quiet_step ((intro _; rfl)))
  refine wpQuiet_nil ?_
  intro y hy
  go_wp2
  go_ret
  exact ⟨rfl, Ascii.below2 HB0.out hy⟩

end Go.Proofs.YtlkikfdbjpjpaaaGreatDoor.Origin

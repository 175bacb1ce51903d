/-
  The document's Parse of addresses.
-/
import Derived.Test.YtkjkcgbmfglihaaGreatDoorSHRefH
namespace Go.Proofs.YtkjkcgbmfglihaaGreatDoor.Url
open Go.RowKit Go.Shelf
set_option linter.unusedSimpArgs false
set_option linter.unusedVariables false
set_option maxRecDepth 100000
open Host (H mayH showH HostAt okH parH none0)
theorem UrlAt.opqs {w : World} {g : Nat} {u : U} {pv : Value} (a : UrlAt w g u pv) (h8 : u.h.p.length = 8) (x : T) : UrlAt (w.setCell ⟨g, 16, none⟩ (.string (tb x))) g { u with opq := x } pv := by
  have := heap_set a 16 (.string (tb x))
  unfold UrlAt
  rw [this]
  obtain ⟨sch, usr, pas, ⟨k, s, n, p⟩, port, path, opq, qry, frg, hq, hf⟩ := u
  obtain ⟨a, b, c, d, e, f, g, i, rfl⟩ := eight h8
  rfl
theorem ret_rp {tmps : Array Value} {W : World} (g : Nat) (u : U) (pv : Value) (h8 : u.h.p.length = 8) (b : Bool) (hp : tmps.getD 2 undef = .pointer (some ⟨g, 0, none⟩)) (hb : tmps.getD 3 undef = .bool b) (hr : UrlAt W g u pv) :
    (results Tryz.f13 tmps).run Tryz.prog W = .ok (.tuple #[.agg (cU u pv), .bool b]) W := by
  have hp' : tmps[2]?.getD undef = .pointer (some ⟨g, 0, none⟩) := by simpa using hp
  have hb' : tmps[3]?.getD undef = .bool b := by simpa using hb
  simp [results, Tryz.results13, hp', hb', asAddr, hr.load h8]
theorem pre_ways (t : ByteArray) :
    (Lib.hasPrefix t.data.toList [47, 47] = true ∧ ∃ h : 1 < t.size, t[0] = 47 ∧ t[1] = 47) ∨ (Lib.hasPrefix t.data.toList [47, 47] = false ∧ t.size < 2) ∨
    (Lib.hasPrefix t.data.toList [47, 47] = false ∧ ∃ h : 1 < t.size, t[0] ≠ 47) ∨ (Lib.hasPrefix t.data.toList [47, 47] = false ∧ ∃ h : 1 < t.size, t[0] = 47 ∧ t[1] ≠ 47) := by
  by_cases h1 : 1 < t.size
  · have e0 := Pct.drop_cons t 0 (by omega)
    have e1 := Pct.drop_cons t 1 h1
    rw [List.drop_zero, show 0 + 1 = 1 from rfl, e1] at e0
    have hp : Lib.hasPrefix t.data.toList [47, 47] = (t[0] == 47 && t[1] == 47) := by
      rw [e0]
      unfold Lib.hasPrefix
      rw [Bool.eq_iff_iff]
      simp [List.isPrefixOf]
      exact ⟨fun ⟨a, b⟩ => ⟨a.symm, b.symm⟩, fun ⟨a, b⟩ => ⟨a.symm, b.symm⟩⟩
    rw [hp]
    by_cases h0 : t[0] = 47
    · by_cases h2 : t[1] = 47
      · exact .inl ⟨by rw [h0, h2]; rfl, h1, h0, h2⟩
      · exact .inr (.inr (.inr ⟨by rw [beq_eq_false_iff_ne.2 h2, Bool.and_false], h1, h0, h2⟩))
    · exact .inr (.inr (.inl ⟨by rw [beq_eq_false_iff_ne.2 h0, Bool.false_and], h1, h0⟩))
  · refine .inr (.inl ⟨?_, by omega⟩)
    cases e : Lib.hasPrefix t.data.toList [47, 47]
    · rfl
    · have : 2 ≤ t.data.toList.length := by
        unfold Lib.hasPrefix at e
        have := (List.isPrefixOf_iff_prefix.1 e).length_le
        simpa using this
      rw [size_list] at this
      omega
theorem new_nil (B : Nat) : Path.New B (.slice none 0 0) := fun b o s n c e => by cases e
theorem segs_top (t : T) (h : 2 ≤ t.length) : Path.parse (t.drop (2 + (bef 47 (t.drop 2)).length)) = Path.parse (47 :: segT t) := by
  unfold segT
  rcases parted 47 (t.drop 2) with hn | ⟨a, r, e, ha⟩
  · rw [bef_no _ hn, aft_no _ hn, List.drop_of_length_le (by rw [List.length_drop]; omega)]
    rfl
  · rw [← List.drop_drop, e, bef_at a r ha, aft_at a r ha, List.drop_left]
set_option maxHeartbeats 32000000 in
theorem refParse_any (s : ByteArray) (hs : s.size ≤ 400) (b : Bool) (hb : okU s.data.toList = b) (x : U) (hx : parU s.data.toList = x) (w : World) :
    Calls Tryz.prog 13 #[.string s] w (GotP w x b) := by
  have HZ := Lib.hid (new_url w)
  have HB := Lib.hid (show Below w.heap.size w (w.alloc (.cells #[.string ⟨#[]⟩, .string ⟨#[]⟩, .string ⟨#[]⟩, .int .i64 0, .string ⟨#[]⟩, .int .i64 0, .int .i64 0, .int .i64 0, .int .i64 0, .int .i64 0, .int .i64 0, .int .i64 0, .int .i64 0, .int .i64 0, .int .i64 0, .slice none 0 0, .string ⟨#[]⟩, .string ⟨#[]⟩, .string ⟨#[]⟩, .bool false, .bool false] 27)) from (Below.refl _ w).alloc (Nat.le_refl _) _)
  obtain ⟨C, hC⟩ : ∃ y, tb (Ascii.clean s.data.toList) = y := ⟨_, rfl⟩
  have hCs : C.size ≤ 400 := by rw [size_tb hC]; exact Nat.le_trans (clean_len _) hs
  unfold okU at hb
  unfold parU at hx
  rw [← list_tb hC] at hb hx
  obtain ⟨is, his⟩ : ∃ y, schB C.data.toList = y := ⟨_, rfl⟩
  obtain ⟨SC, hSC⟩ : ∃ y, schS C.data.toList = y := ⟨_, rfl⟩
  obtain ⟨RS, hRS⟩ : ∃ y, schR C.data.toList = y := ⟨_, rfl⟩
  have hRl : RS.length ≤ 400 := by
    rw [← hRS]; unfold schR
    split
    · exact Nat.le_trans (aft_len _ _) hCs
    · exact Nat.zero_le _
  obtain ⟨z, hz⟩ : ∃ y, webI SC = y := ⟨_, rfl⟩
  obtain ⟨O, hO⟩ : ∃ y, opB SC = y := ⟨_, rfl⟩
  obtain ⟨t, ht⟩ : ∃ y, tb (tA RS) = y := ⟨_, rfl⟩
  obtain ⟨q, hq⟩ : ∃ y, tb (tQ RS) = y := ⟨_, rfl⟩
  obtain ⟨f, hf⟩ : ∃ y, tb (tF RS) = y := ⟨_, rfl⟩
  obtain ⟨bq, hbq⟩ : ∃ y, tHQ RS = y := ⟨_, rfl⟩
  obtain ⟨bf, hbf⟩ : ∃ y, tHF RS = y := ⟨_, rfl⟩
  obtain ⟨Q, hQ⟩ : ∃ y, Pct.encode 2 (tQ RS) = y := ⟨_, rfl⟩
  obtain ⟨F, hF⟩ : ∃ y, Pct.encode 1 (tF RS) = y := ⟨_, rfl⟩
  obtain ⟨OE, hOE⟩ : ∃ y, Pct.encode 1 (tA RS) = y := ⟨_, rfl⟩
  have hts : t.size ≤ 400 := by rw [size_tb ht]; exact Nat.le_trans (Nat.le_trans (bef_len _ _) (bef_len _ _)) hRl
  have hqs : q.size ≤ 400 := by rw [size_tb hq]; exact Nat.le_trans (Nat.le_trans (aft_len _ _) (bef_len _ _)) hRl
  have hfs : f.size ≤ 400 := by rw [size_tb hf]; exact Nat.le_trans (aft_len _ _) hRl
  obtain ⟨A, hA⟩ : ∃ y, tb (auth t.data.toList) = y := ⟨_, rfl⟩
  obtain ⟨ba, hba⟩ : ∃ y, (okH (hname (place A.data.toList)) && portB (digs (place A.data.toList))) = y := ⟨_, rfl⟩
  obtain ⟨xa, hxa⟩ : ∃ y : U, (if ba then { (⟨SC, [], [], none0, -1, [], [], Q, F, bq, bf⟩ : U) with usr := Pct.encode 4 (user A.data.toList), pas := Pct.encode 4 (pass A.data.toList), h := parH (hname (place A.data.toList)), port := portI SC (digs (place A.data.toList)) } else none1) = y := ⟨_, rfl⟩
  obtain ⟨L, hL⟩ : ∃ y, Path.parse (47 :: segT t.data.toList) = y := ⟨_, rfl⟩
  obtain ⟨n, hn⟩ : ∃ y, findN 47 t.data.toList 2 = y := ⟨_, rfl⟩
  have hAs : A.size ≤ 400 := by rw [size_tb hA]; unfold auth; have := bef_len 47 (t.data.toList.drop 2); rw [List.length_drop, size_list] at this; omega
  have H8a := Lib.hid (show xa.h.p.length = 8 from by
    rw [← hxa]
    split
    · exact Host.parH_len _
    · rfl)
  have CC := Lib.hid (fun y => show Calls Tryz.prog 39 #[.string s] y fun e w' => e = .returned (.string C) ∧ Below y.heap.size y w' from hC ▸ Ascii.refClean_any s (by omega) y)
  have CS := Lib.hid (fun y => refScheme_any C (by omega) (tb SC) (tb RS) is (by rw [hSC]) (by rw [hRS]) his y)
  have CW := Lib.hid (fun y => refWeb_any (tb SC) z hz y)
  have CO := Lib.hid (fun y => refOpq_any (tb SC) O hO y)
  have CT := Lib.hid (fun y => refTail_any (tb RS) (by rw [tb_size]; omega) t q f bq bf ht hq hf hbq hbf y)
  have CQ := Lib.hid (fun y => show Calls Tryz.prog 41 #[.string q, .int .i64 2] y fun e w' => e = .returned (.string (tb Q)) ∧ Below y.heap.size y w' from by
    have := Pct.refEncode_any q (by omega) 2 y
    rw [list_tb hq, hQ] at this
    exact this)
  have CF := Lib.hid (fun y => show Calls Tryz.prog 41 #[.string f, .int .i64 1] y fun e w' => e = .returned (.string (tb F)) ∧ Below y.heap.size y w' from by
    have := Pct.refEncode_any f (by omega) 1 y
    rw [list_tb hf, hF] at this
    exact this)
  have CE := Lib.hid (fun y => show Calls Tryz.prog 41 #[.string t, .int .i64 1] y fun e w' => e = .returned (.string (tb OE)) ∧ Below y.heap.size y w' from by
    have := Pct.refEncode_any t (by omega) 1 y
    rw [list_tb ht, hOE] at this
    exact this)
  have CA := Lib.hid (fun y => show Calls Tryz.prog 43 #[.agg (cU ⟨SC, [], [], none0, -1, [], [], Q, F, bq, bf⟩ (.slice none 0 0)), .string A] y fun e w' => e = .returned (.tuple #[.agg (cU xa (.slice none 0 0)), .bool ba]) ∧ Below y.heap.size y w' from by
    have := refAuth_any ⟨SC, [], [], none0, -1, [], [], Q, F, bq, bf⟩ (.slice none 0 0) rfl rfl rfl A (by omega) ba hba xa hxa y (Path.Strs.nil y)
    rwa [ite_self] at this)
  have CN := Lib.hid (fun (h2 : 2 ≤ t.size) y => refFind_any t (by omega) 47 2 h2 n hn y)
  have CL := Lib.hid (fun (h2 : 2 ≤ t.size) y => show Calls Tryz.prog 44 #[.string (t.extract n t.size)] y (GotL y L) from by
    have hnl : n ≤ t.size := by rw [← hn]; exact find_le 47 _ 2 h2
    rw [piece_from t n hnl]
    have e : Path.parse (tb (t.data.toList.drop n)).data.toList = L := by
      rw [tb_list, ← hn, ← hL]
      exact segs_top _ (by rw [size_list]; exact h2)
    exact refPathParse_any _ (by rw [tb_size, List.length_drop, size_list]; omega) L e y)
  have PA := Lib.hid (fun (h2 : 2 ≤ t.size) => show t.extract 2 n = A ∧ 2 ≤ n ∧ n ≤ t.size from by
    have hnl : n ≤ t.size := by rw [← hn]; exact find_le 47 _ 2 h2
    refine ⟨?_, by rw [← hn]; exact Nat.le_add_right _ _, hnl⟩
    rw [piece_mid, ← hA, ← hn]
    unfold auth findN
    rw [List.drop_take, Nat.add_sub_cancel_left, bef_take])
  have F1 := Lib.hid (show is = false → b = false ∧ x = none1 from fun e => by
    have ho : okS C.data.toList = false := by unfold okS; rw [his, e]; rfl
    exact ⟨by rw [← hb, ho], by rw [← hx, par_none _ ho]⟩)
  have F2 := Lib.hid (show z = 0 → O = false → b = false ∧ x = none1 from fun e k => by
    have ho : okS C.data.toList = false := by unfold okS; rw [hSC, hRS, hz, hO, e, k]; simp
    exact ⟨by rw [← hb, ho], by rw [← hx, par_none _ ho]⟩)
  have F3 := Lib.hid (show is = true → z = 0 → O = true → b = true ∧ x = { (⟨SC, [], [], none0, -1, [], [], Q, F, bq, bf⟩ : U) with opq := OE } from fun e1 e k => by
    have ho : okS C.data.toList = true := by unfold okS; rw [hSC, hO, his, e1, k]; simp
    refine ⟨by rw [← hb, ho], ?_⟩
    rw [← hx]
    unfold parS
    rw [if_pos ho, hSC, hRS]
    unfold aheadU
    rw [hz, if_pos e]
    unfold tailU opqU
    rw [hQ, hF, hbq, hbf, hOE])
  have F4 := Lib.hid (show z ≠ 0 → Lib.hasPrefix t.data.toList [47, 47] = false → b = false ∧ x = none1 from fun e k => by
    have hO0 : O = false := by
      cases h : O
      · rfl
      · exact absurd (by rw [← hz]; exact op_web (hO.trans h)) e
    have ho : okS C.data.toList = false := by unfold okS webB; rw [hSC, hRS, hz, hO, hO0, ← list_tb ht, k]; simp
    exact ⟨by rw [← hb, ho], by rw [← hx, par_none _ ho]⟩)
  have hat : A.data.toList = auth t.data.toList := list_tb hA
  have F5 := Lib.hid (show z ≠ 0 → ba = false → b = false ∧ x = none1 ∧ xa = none1 from fun e k => by
    have hO0 : O = false := by
      cases h : O
      · rfl
      · exact absurd (by rw [← hz]; exact op_web (hO.trans h)) e
    have ho : okS C.data.toList = false := by unfold okS webB; rw [hSC, hRS, hz, hO, hO0, ← list_tb ht, ← hat, hba, k]; simp
    exact ⟨by rw [← hb, ho], by rw [← hx, par_none _ ho], by rw [← hxa, k]; rfl⟩)
  have F6 := Lib.hid (show is = true → z ≠ 0 → Lib.hasPrefix t.data.toList [47, 47] = true → ba = true → b = true ∧ x = { xa with path := L } from fun e1 e k m => by
    have ho : okS C.data.toList = true := by unfold okS webB; rw [hSC, hRS, hz, his, e1, ← list_tb ht, k, ← hat, hba, m, decide_eq_false e]; rfl
    refine ⟨by rw [← hb, ho], ?_⟩
    rw [← hx, ← hxa, if_pos m]
    unfold parS
    rw [if_pos ho, hSC, hRS]
    unfold aheadU
    rw [hz, if_neg e]
    unfold tailU webU
    rw [hQ, hF, hbq, hbf, ← list_tb ht, ← hat, hL])
  have PW := Lib.hid (pre_ways t)
  clear hC hb hx his hSC hRS hRl hz hO ht hq hf hbq hbf hQ hF hOE hA hba hxa hL hn hat
  go_enter Tryz.func13, Tryz.ntmps13
  go_wp2_with fail
  generalize w.alloc (.cells #[.string ⟨#[]⟩, .string ⟨#[]⟩, .string ⟨#[]⟩, .int .i64 0, .string ⟨#[]⟩, .int .i64 0, .int .i64 0, .int .i64 0, .int .i64 0, .int .i64 0, .int .i64 0, .int .i64 0, .int .i64 0, .int .i64 0, .int .i64 0, .slice none 0 0, .string ⟨#[]⟩, .string ⟨#[]⟩, .string ⟨#[]⟩, .bool false, .bool false] 27) = V at HZ HB ⊢
  refine (CC.out _).mono ?_
  rintro e X1 ⟨rfl, hB⟩
  have HZ1 := Lib.hid (HZ.out.later hB)
  have HB1 := Lib.hid (HB.out.trans (hB.mono HB.out.size))
  clear hB HZ HB CC
  go_wp2_with fail
  refine (CS.out _).mono ?_
  rintro e X2 ⟨rfl, hB⟩
  have HZ2 := Lib.hid (HZ1.out.later hB)
  have HB2 := Lib.hid (HB1.out.trans (hB.mono HB1.out.size))
  clear hB HZ1 HB1 CS
  go_wp2_with fail
  refine (CW.out _).mono ?_
  rintro e X ⟨rfl, rfl⟩
  go_wp2_with fail
  refine (CO.out _).mono ?_
  rintro e X ⟨rfl, rfl⟩
  clear CW CO
  have n81 : none1.h.p.length = 8 := rfl
  have hn1 : (Value.slice none 0 0).oneCell' = true := rfl
  cases is
  · obtain ⟨rfl, rfl⟩ := F1.out rfl
    clear F1 F2 F3 F4 F5 F6
    go_wp2_with ((with_reducible refine wp_store27 (o := ⟨none, .store 27 (.tmp 2) (.tmp 39), _, _, _, _⟩) ?_ (.tmp 2) (.tmp 39) ?_ w.heap.size ?_ none1 (.slice none 0 0) ?_ n81 hn1 none1 (.slice none 0 0) rfl HZ2.out ?_); (· rfl); (· rfl); (· rfl); (· rfl); simp only [Act.put, List.setIfInBounds_toArray, List.set_cons_zero, List.set_cons_succ])
    exact bodyPost_ret (ret_rp w.heap.size none1 (.slice none 0 0) rfl false rfl rfl (HZ2.out.row none1 (.slice none 0 0))) rfl ⟨(.slice none 0 0), rfl, Path.Strs.nil _, new_nil _, below_row HB2.out (Nat.le_refl _) _⟩
  by_cases z0 : z = 0
  · have q0 : (z == 0) = true := by rw [z0]; rfl
    cases O
    · obtain ⟨rfl, rfl⟩ := F2.out z0 rfl
      clear F1 F2 F3 F4 F5 F6 z0
      go_wp2_with ((with_reducible refine wp_store27 (o := ⟨none, .store 27 (.tmp 2) (.tmp 39), _, _, _, _⟩) ?_ (.tmp 2) (.tmp 39) ?_ w.heap.size ?_ none1 (.slice none 0 0) ?_ n81 hn1 none1 (.slice none 0 0) rfl HZ2.out ?_); (· rfl); (· rfl); (· rfl); (· rfl); simp only [Act.put, List.setIfInBounds_toArray, List.set_cons_zero, List.set_cons_succ])
      exact bodyPost_ret (ret_rp w.heap.size none1 (.slice none 0 0) rfl false rfl rfl (HZ2.out.row none1 (.slice none 0 0))) rfl ⟨(.slice none 0 0), rfl, Path.Strs.nil _, new_nil _, below_row HB2.out (Nat.le_refl _) _⟩
    obtain ⟨rfl, rfl⟩ := F3.out rfl z0 rfl
    clear F1 F2 F3 F4 F5 F6 z0 CA CN CL PA PW
    go_wp2_with fail
    refine (CT.out _).mono ?_
    rintro e X3 ⟨rfl, hB⟩
    have HZ3 := Lib.hid (HZ2.out.later hB)
    have HB3 := Lib.hid (HB2.out.trans (hB.mono HB2.out.size))
    clear hB HZ2 HB2 CT
    go_wp2_with fail
    refine (CQ.out _).mono ?_
    rintro e X4 ⟨rfl, hB⟩
    have HZ4 := Lib.hid (HZ3.out.later hB)
    have HB4 := Lib.hid (HB3.out.trans (hB.mono HB3.out.size))
    clear hB HZ3 HB3 CQ
    go_wp2_with fail
    refine (CF.out _).mono ?_
    rintro e X5 ⟨rfl, hB⟩
    have hnew := new_url X5
    have hB6 := below_url X5 ⟨SC, [], [], none0, -1, [], [], Q, F, bq, bf⟩ (.slice none 0 0)
    have HZ6 := Lib.hid ((HZ4.out.later hB).later hB6)
    have HB6 := Lib.hid ((HB4.out.trans (hB.mono HB4.out.size)).trans (hB6.mono (Nat.le_trans HB4.out.size hB.size)))
    have HU6 := Lib.hid (hnew.row ⟨SC, [], [], none0, -1, [], [], Q, F, bq, bf⟩ (.slice none 0 0))
    have HG := Lib.hid (show w.heap.size < X5.heap.size from Nat.lt_of_lt_of_le HZ4.out.lt hB.size)
    have h8u : (⟨SC, [], [], none0, -1, [], [], Q, F, bq, bf⟩ : U).h.p.length = 8 := rfl
    clear hB hB6 HZ4 HB4 CF
    go_wp2_with ((with_reducible refine wp_store27 (o := ⟨none, .store 27 (.tmp 14) (.tmp 55), _, _, _, _⟩) ?_ (.tmp 14) (.tmp 55) ?_ X5.heap.size ?_ ⟨SC, [], [], none0, -1, [], [], Q, F, bq, bf⟩ (.slice none 0 0) ?_ h8u hn1 none1 (.slice none 0 0) rfl hnew ?_); (· rfl); (· rfl); (· rfl); (· rfl); simp only [Act.put, List.setIfInBounds_toArray, List.set_cons_zero, List.set_cons_succ])
    generalize (X5.alloc (.cells #[.string ⟨#[]⟩, .string ⟨#[]⟩, .string ⟨#[]⟩, .int .i64 0, .string ⟨#[]⟩, .int .i64 0, .int .i64 0, .int .i64 0, .int .i64 0, .int .i64 0, .int .i64 0, .int .i64 0, .int .i64 0, .int .i64 0, .int .i64 0, .slice none 0 0, .string ⟨#[]⟩, .string ⟨#[]⟩, .string ⟨#[]⟩, .bool false, .bool false] 27)).setRow X5.heap.size (cU ⟨SC, [], [], none0, -1, [], [], Q, F, bq, bf⟩ (.slice none 0 0)) = V6 at HZ6 HB6 HU6 ⊢
    generalize X5.heap.size = g1 at HU6 HG ⊢
    clear hnew
    refine (CE.out _).mono ?_
    rintro e X7 ⟨rfl, hB⟩
    have HU7 := Lib.hid (HU6.out.later hB)
    have HZ7 := Lib.hid (HZ6.out.later hB)
    have HB7 := Lib.hid (HB6.out.trans (hB.mono HB6.out.size))
    clear hB HU6 HZ6 HB6 CE q0
    have f16 := HU7.out.free 16
    have g16 := HU7.out.cell 16
    rw [(cU_at _ _ h8u).2.2.2.2.2.2.1] at g16
    have hg := HG.out
    have HU8 := Lib.hid (UrlAt.opqs HU7.out h8u OE)
    have HZ8 := Lib.hid (url_other HZ7.out (by omega : w.heap.size ≠ g1) 16 (.string (tb OE)))
    have HB8 := Lib.hid (below_set HB7.out (by omega : w.heap.size ≤ g1) 16 (.string (tb OE)))
    have h8o : ({ (⟨SC, [], [], none0, -1, [], [], Q, F, bq, bf⟩ : U) with opq := OE } : U).h.p.length = 8 := rfl
    clear HU7 HZ7 HB7 hg
    go_wp2_with (first | ((with_reducible refine wp_load27 (o := ⟨some 61, .load 27 (.tmp 14), _, _, _, _⟩) ?_ (.tmp 14) ?_ g1 ?_ { (⟨SC, [], [], none0, -1, [], [], Q, F, bq, bf⟩ : U) with opq := OE } (.slice none 0 0) h8o HU8.out ?_); (· rfl); (· rfl); (· rfl); simp only [Act.put, List.setIfInBounds_toArray, List.set_cons_zero, List.set_cons_succ]) | ((with_reducible refine wp_store27 (o := ⟨none, .store 27 (.tmp 2) (.tmp 61), _, _, _, _⟩) ?_ (.tmp 2) (.tmp 61) ?_ w.heap.size ?_ { (⟨SC, [], [], none0, -1, [], [], Q, F, bq, bf⟩ : U) with opq := OE } (.slice none 0 0) ?_ h8o hn1 none1 (.slice none 0 0) rfl HZ8.out ?_); (· rfl); (· rfl); (· rfl); (· rfl); simp only [Act.put, List.setIfInBounds_toArray, List.set_cons_zero, List.set_cons_succ]))
    exact bodyPost_ret (ret_rp w.heap.size { (⟨SC, [], [], none0, -1, [], [], Q, F, bq, bf⟩ : U) with opq := OE } (.slice none 0 0) rfl true rfl rfl (HZ8.out.row { (⟨SC, [], [], none0, -1, [], [], Q, F, bq, bf⟩ : U) with opq := OE } (.slice none 0 0))) rfl ⟨(.slice none 0 0), rfl, Path.Strs.nil _, new_nil _, below_row HB8.out (Nat.le_refl _) _⟩
  have q0 : (z == 0) = false := beq_eq_false_iff_ne.2 z0
  have Z0 := Lib.hid z0
  clear z0 F1 F2 F3 CE
  go_wp2_with fail
  refine (CT.out _).mono ?_
  rintro e X3 ⟨rfl, hB⟩
  have HZ3 := Lib.hid (HZ2.out.later hB)
  have HB3 := Lib.hid (HB2.out.trans (hB.mono HB2.out.size))
  clear hB HZ2 HB2 CT
  go_wp2_with fail
  refine (CQ.out _).mono ?_
  rintro e X4 ⟨rfl, hB⟩
  have HZ4 := Lib.hid (HZ3.out.later hB)
  have HB4 := Lib.hid (HB3.out.trans (hB.mono HB3.out.size))
  clear hB HZ3 HB3 CQ
  go_wp2_with fail
  refine (CF.out _).mono ?_
  rintro e X5 ⟨rfl, hB⟩
  have hnew := new_url X5
  have hB6 := below_url X5 ⟨SC, [], [], none0, -1, [], [], Q, F, bq, bf⟩ (.slice none 0 0)
  have HZ6 := Lib.hid ((HZ4.out.later hB).later hB6)
  have HB6 := Lib.hid ((HB4.out.trans (hB.mono HB4.out.size)).trans (hB6.mono (Nat.le_trans HB4.out.size hB.size)))
  have HU6 := Lib.hid (hnew.row ⟨SC, [], [], none0, -1, [], [], Q, F, bq, bf⟩ (.slice none 0 0))
  have HG := Lib.hid (show w.heap.size < X5.heap.size from Nat.lt_of_lt_of_le HZ4.out.lt hB.size)
  have h8u : (⟨SC, [], [], none0, -1, [], [], Q, F, bq, bf⟩ : U).h.p.length = 8 := rfl
  clear hB hB6 HZ4 HB4 CF
  rcases PW.out with ⟨hp, h1, e0, e1⟩ | hno
  case inr =>
    have hp : Lib.hasPrefix t.data.toList [47, 47] = false := by rcases hno with ⟨a, _⟩ | ⟨a, _⟩ | ⟨a, _⟩ <;> exact a
    obtain ⟨rfl, rfl⟩ := F4.out Z0.out hp
    have hw : (decide ((t.size : Int) < 2) = true ∧ decide (t.size < 2) = true) ∨ (∃ h : 1 < t.size, decide ((t.size : Int) < 2) = false ∧ ((t[0].toNat : Int) != 47) = true) ∨ (∃ h : 1 < t.size, decide ((t.size : Int) < 2) = false ∧ ((t[0].toNat : Int) != 47) = false ∧ ((t[1].toNat : Int) != 47) = true) := by
      rcases hno with ⟨_, a⟩ | ⟨_, a, c⟩ | ⟨_, a, c, d⟩
      · exact .inl ⟨decide_eq_true (by omega), decide_eq_true (by omega)⟩
      · exact .inr (.inl ⟨a, decide_eq_false (by omega), bne_iff_ne.2 (fun q => c (UInt8.toNat_inj.1 (by simpa using (by omega : t[0].toNat = 47))))⟩)
      · exact .inr (.inr ⟨a, decide_eq_false (by omega), by rw [c]; rfl, bne_iff_ne.2 (fun q => d (UInt8.toNat_inj.1 (by simpa using (by omega : t[1].toNat = 47))))⟩)
    clear F4 F5 F6 hp hno PW CA CN CL PA
    rcases hw with ⟨w0, w0'⟩ | ⟨h1, w0, w1⟩ | ⟨h1, w0, w1, w2⟩
    all_goals
      go_wp2_with (first | ((with_reducible refine wp_store27 (o := ⟨none, .store 27 (.tmp 14) (.tmp 55), _, _, _, _⟩) ?_ (.tmp 14) (.tmp 55) ?_ X5.heap.size ?_ ⟨SC, [], [], none0, -1, [], [], Q, F, bq, bf⟩ (.slice none 0 0) ?_ h8u hn1 none1 (.slice none 0 0) rfl hnew ?_); (· rfl); (· rfl); (· rfl); (· rfl); simp only [Act.put, List.setIfInBounds_toArray, List.set_cons_zero, List.set_cons_succ]) | ((with_reducible refine wp_store27 (o := ⟨none, .store 27 (.tmp 2) (.tmp 75), _, _, _, _⟩) ?_ (.tmp 2) (.tmp 75) ?_ w.heap.size ?_ none1 (.slice none 0 0) ?_ n81 hn1 none1 (.slice none 0 0) rfl HZ6.out ?_); (· rfl); (· rfl); (· rfl); (· rfl); simp only [Act.put, List.setIfInBounds_toArray, List.set_cons_zero, List.set_cons_succ]))
      exact bodyPost_ret (ret_rp w.heap.size none1 (.slice none 0 0) rfl false rfl rfl (HZ6.out.row none1 (.slice none 0 0))) rfl ⟨(.slice none 0 0), rfl, Path.Strs.nil _, new_nil _, below_row HB6.out (Nat.le_refl _) _⟩
  have h2 : 2 ≤ t.size := h1
  have w0 : decide ((t.size : Int) < 2) = false := decide_eq_false (by omega)
  have w1 : ((t[0].toNat : Int) != 47) = false := by rw [e0]; rfl
  have w2 : ((t[1].toNat : Int) != 47) = false := by rw [e1]; rfl
  have HP := Lib.hid hp
  have CN2 := Lib.hid (CN.out h2)
  have CL2 := Lib.hid (CL.out h2)
  have PA2 := Lib.hid (PA.out h2)
  clear hp e0 e1 PW F4 CN CL PA
  go_wp2_with ((with_reducible refine wp_store27 (o := ⟨none, .store 27 (.tmp 14) (.tmp 55), _, _, _, _⟩) ?_ (.tmp 14) (.tmp 55) ?_ X5.heap.size ?_ ⟨SC, [], [], none0, -1, [], [], Q, F, bq, bf⟩ (.slice none 0 0) ?_ h8u hn1 none1 (.slice none 0 0) rfl hnew ?_); (· rfl); (· rfl); (· rfl); (· rfl); simp only [Act.put, List.setIfInBounds_toArray, List.set_cons_zero, List.set_cons_succ])
  generalize (X5.alloc (.cells #[.string ⟨#[]⟩, .string ⟨#[]⟩, .string ⟨#[]⟩, .int .i64 0, .string ⟨#[]⟩, .int .i64 0, .int .i64 0, .int .i64 0, .int .i64 0, .int .i64 0, .int .i64 0, .int .i64 0, .int .i64 0, .int .i64 0, .int .i64 0, .slice none 0 0, .string ⟨#[]⟩, .string ⟨#[]⟩, .string ⟨#[]⟩, .bool false, .bool false] 27)).setRow X5.heap.size (cU ⟨SC, [], [], none0, -1, [], [], Q, F, bq, bf⟩ (.slice none 0 0)) = V6 at HZ6 HB6 HU6 ⊢
  generalize X5.heap.size = g1 at HU6 HG ⊢
  clear hnew
  refine (CN2.out _).mono ?_
  rintro e X ⟨rfl, rfl⟩
  clear CN2 w0 w1 w2 q0
  obtain ⟨pA, n2, nt⟩ := PA2.out
  clear PA2
  go_upto_region 14 with fail
  go_cut [16, 17] (fun v16 v17 wx => ∃ g : Nat, v16 = .pointer (some ⟨g, 0, none⟩) ∧ v17 = .bool ba ∧ Hid (UrlAt wx g xa (.slice none 0 0)) ∧ Hid (UrlAt wx w.heap.size none1 (.slice none 0 0)) ∧ Hid (Below w.heap.size w wx) ∧ Hid (w.heap.size < g))
  case first =>
    have hc : Below V6.heap.size V6 V6.drew := (Below.refl _ _).drew
    refine wp_region_held_drew (S := fun v => UrlAt v g1 ⟨SC, [], [], none0, -1, [], [], Q, F, bq, bf⟩ (.slice none 0 0)) (by kernel_rfl) (HU6.out.later hc) (fun hS => ?_)
    refine wpAnyH_take (i := 0) (oi := ⟨some 79, .load 27 (.tmp 14), _, _, _, _⟩) (v := .agg (cU ⟨SC, [], [], none0, -1, [], [], Q, F, bq, bf⟩ (.slice none 0 0))) rfl (by kernel_rfl) (by kernel_rfl) (by kernel_rfl) (fun _ _ _ h => h) (Or.inl ⟨by rfl, ?_⟩) (by assumption) ?_
    · (exact fun v hv => run_load_of 27 (.tmp 14) ⟨g1, 0, none⟩ rfl (.agg (cU ⟨SC, [], [], none0, -1, [], [], Q, F, bq, bf⟩ (.slice none 0 0))) (hv.load h8u))
    simp only [Act.put, List.setIfInBounds_toArray, List.set_cons_zero, List.set_cons_succ]
    refine wpAnyH_take (i := 1) (oi := ⟨some 80, .move (.tmp 9), _, _, _, _⟩) (v := .string t) rfl (by kernel_rfl) (by kernel_rfl) (by kernel_rfl) (fun _ _ _ h => h) (Or.inl ⟨by rfl, ?_⟩) (by assumption) ?_
    · (intro v hv; go_simp)
    simp only [Act.put, List.setIfInBounds_toArray, List.set_cons_zero, List.set_cons_succ]
    refine wpAnyH_take (i := 2) (oi := ⟨some 81, .move (.tmp 15), _, _, _, _⟩) (v := .int .i64 (n : Int)) rfl (by kernel_rfl) (by kernel_rfl) (by kernel_rfl) (fun _ _ _ h => h) (Or.inl ⟨by rfl, ?_⟩) (by assumption) ?_
    · (intro v hv; go_simp)
    simp only [Act.put, List.setIfInBounds_toArray, List.set_cons_zero, List.set_cons_succ]
    refine wpAnyH_take (i := 3) (oi := ⟨some 82, .slice 9 (.tmp 80) (some (.const (.int .i64 2))) (some (.tmp 81)) none, _, _, _, _⟩) (v := .string A) rfl (by kernel_rfl) (by kernel_rfl) (by kernel_rfl) (fun _ _ _ h => h) (Or.inl ⟨by rfl, ?_⟩) (by assumption) ?_
    · (intro v hv; go_simp; intro h; omega)
    simp only [Act.put, List.setIfInBounds_toArray, List.set_cons_zero, List.set_cons_succ]
    refine wpAnyH_ready (rs := [4, 8]) (by kernel_rfl) (by simp) ?_
    refine AllReadyH.cons (o := ⟨some 83, .call ⟨.value (.func 43), #[.tmp 79, .tmp 82], _⟩, _, _, _, _⟩) rfl (fun K hK => ?_) (AllReadyH.cons (o := ⟨some 16, .alloc 27, _, _, _, _⟩) rfl (fun K hK => ?_) AllReadyH.nil)
    · go_simp
      go_at_call 43
      refine (CA.out _).mono ?_
      rintro e y ⟨rfl, hB⟩
      have hc1 := below_trans hc hB
      refine hK.out _ _ (HU6.out.later hc1) (fun hS => ?_)
      refine wpAnyH_take (i := 5) (oi := ⟨some 78, .move (.tmp 83), _, _, _, _⟩) (v := .tuple #[.agg (cU xa (.slice none 0 0)), .bool ba]) rfl (by kernel_rfl) (by kernel_rfl) (by kernel_rfl) (fun _ _ _ h => h) (Or.inl ⟨by rfl, ?_⟩) (by assumption) ?_
      · (intro v hv; go_simp)
      simp only [Act.put, List.setIfInBounds_toArray, List.set_cons_zero, List.set_cons_succ]
      refine wpAnyH_take (i := 6) (oi := ⟨some 84, .extract (.tmp 78) 0, _, _, _, _⟩) (v := .agg (cU xa (.slice none 0 0))) rfl (by kernel_rfl) (by kernel_rfl) (by kernel_rfl) (fun _ _ _ h => h) (Or.inl ⟨by rfl, ?_⟩) (by assumption) ?_
      · (intro v hv; go_simp)
      simp only [Act.put, List.setIfInBounds_toArray, List.set_cons_zero, List.set_cons_succ]
      refine wpAnyH_take (i := 7) (oi := ⟨some 85, .extract (.tmp 78) 1, _, _, _, _⟩) (v := .bool ba) rfl (by kernel_rfl) (by kernel_rfl) (by kernel_rfl) (fun _ _ _ h => h) (Or.inl ⟨by rfl, ?_⟩) (by assumption) ?_
      · (intro v hv; go_simp)
      simp only [Act.put, List.setIfInBounds_toArray, List.set_cons_zero, List.set_cons_succ]
      refine wpAnyH_ready (rs := [8]) (by kernel_rfl) (by simp) ?_
      refine AllReadyH.cons (o := ⟨some 16, .alloc 27, _, _, _, _⟩) rfl (fun K hK => ?_) AllReadyH.nil
      go_simp
      have hc2 := hc1.alloc hc1.size (.cells #[.string ⟨#[]⟩, .string ⟨#[]⟩, .string ⟨#[]⟩, .int .i64 0, .string ⟨#[]⟩, .int .i64 0, .int .i64 0, .int .i64 0, .int .i64 0, .int .i64 0, .int .i64 0, .int .i64 0, .int .i64 0, .int .i64 0, .int .i64 0, .slice none 0 0, .string ⟨#[]⟩, .string ⟨#[]⟩, .string ⟨#[]⟩, .bool false, .bool false] 27)
      refine hK.out _ _ (HU6.out.later hc2) (fun hS => ?_)
      have hnew := new_url y
      refine wpAnyH_ready (rs := [9]) (by kernel_rfl) (by simp) ?_
      refine AllReadyH.cons (o := ⟨none, .store 27 (.tmp 16) (.tmp 84), _, _, _, _⟩) rfl (fun K hK => ?_) AllReadyH.nil
      rw [if_pos (by rfl)]
      refine wp_store_row 27 (.tmp 16) (.tmp 84) rfl y.heap.size (cU xa (.slice none 0 0)) rfl rfl 27 (cU none1 (.slice none 0 0)) hnew (by rw [cU_size _ _ H8a.out]; exact size27) (by first | exact (cU_size none1 (.slice none 0 0) rfl).trans (cU_size xa (.slice none 0 0) H8a.out).symm | exact (cU_size xa (.slice none 0 0) H8a.out).trans (cU_size none1 (.slice none 0 0) rfl).symm) (cU_one _ _ hn1) ?_
      have hc3 := below_row hc2 hc1.size (cU xa (.slice none 0 0))
      refine hK.out _ _ (HU6.out.later hc3) (fun hS => ?_)
      refine wpAnyH_take (i := 10) (oi := ⟨some 17, .assign (.tmp 85), _, _, _, _⟩) (v := .bool ba) rfl (by kernel_rfl) (by kernel_rfl) (by kernel_rfl) (fun _ _ _ h => h) (Or.inl ⟨by rfl, ?_⟩) (by assumption) ?_
      · (intro v hv; go_simp)
      simp only [Act.put, List.setIfInBounds_toArray, List.set_cons_zero, List.set_cons_succ]
      refine wpAnyH_done (by kernel_rfl) ?_ _
      go_wp2_with fail
      go_meet
      have hg := HG.out
      exact ⟨_, rfl, rfl, Lib.hid (hnew.row xa (.slice none 0 0)), Lib.hid (HZ6.out.later hc3), Lib.hid (HB6.out.trans (hc3.mono HB6.out.size)), Lib.hid (Nat.lt_of_lt_of_le HZ6.out.lt hc1.size)⟩
    · go_simp
      have hs1 : (V6.alloc (.cells #[.string ⟨#[]⟩, .string ⟨#[]⟩, .string ⟨#[]⟩, .int .i64 0, .string ⟨#[]⟩, .int .i64 0, .int .i64 0, .int .i64 0, .int .i64 0, .int .i64 0, .int .i64 0, .int .i64 0, .int .i64 0, .int .i64 0, .int .i64 0, .slice none 0 0, .string ⟨#[]⟩, .string ⟨#[]⟩, .string ⟨#[]⟩, .bool false, .bool false] 27)).drew.heap.size = V6.heap.size + 1 := Array.size_push _
      have hc1 : Below V6.heap.size V6 (V6.alloc (.cells #[.string ⟨#[]⟩, .string ⟨#[]⟩, .string ⟨#[]⟩, .int .i64 0, .string ⟨#[]⟩, .int .i64 0, .int .i64 0, .int .i64 0, .int .i64 0, .int .i64 0, .int .i64 0, .int .i64 0, .int .i64 0, .int .i64 0, .int .i64 0, .slice none 0 0, .string ⟨#[]⟩, .string ⟨#[]⟩, .string ⟨#[]⟩, .bool false, .bool false] 27)).drew := ((Below.refl _ V6).alloc (Nat.le_refl _) _).drew
      refine hK.out _ _ (HU6.out.later hc1) (fun hS => ?_)
      have hnew : UrlAt (V6.alloc (.cells #[.string ⟨#[]⟩, .string ⟨#[]⟩, .string ⟨#[]⟩, .int .i64 0, .string ⟨#[]⟩, .int .i64 0, .int .i64 0, .int .i64 0, .int .i64 0, .int .i64 0, .int .i64 0, .int .i64 0, .int .i64 0, .int .i64 0, .int .i64 0, .slice none 0 0, .string ⟨#[]⟩, .string ⟨#[]⟩, .string ⟨#[]⟩, .bool false, .bool false] 27)).drew V6.heap.size none1 (.slice none 0 0) := new_url V6
      refine wpAnyH_ready (rs := [4]) (by kernel_rfl) (by simp) ?_
      refine AllReadyH.cons (o := ⟨some 83, .call ⟨.value (.func 43), #[.tmp 79, .tmp 82], _⟩, _, _, _, _⟩) rfl (fun K hK => ?_) AllReadyH.nil
      go_simp
      go_at_call 43
      refine (CA.out _).mono ?_
      rintro e y ⟨rfl, hB⟩
      have hc2 := below_trans hc1 hB
      have hr := hnew.later hB
      refine hK.out _ _ (HU6.out.later hc2) (fun hS => ?_)
      refine wpAnyH_take (i := 5) (oi := ⟨some 78, .move (.tmp 83), _, _, _, _⟩) (v := .tuple #[.agg (cU xa (.slice none 0 0)), .bool ba]) rfl (by kernel_rfl) (by kernel_rfl) (by kernel_rfl) (fun _ _ _ h => h) (Or.inl ⟨by rfl, ?_⟩) (by assumption) ?_
      · (intro v hv; go_simp)
      simp only [Act.put, List.setIfInBounds_toArray, List.set_cons_zero, List.set_cons_succ]
      refine wpAnyH_take (i := 6) (oi := ⟨some 84, .extract (.tmp 78) 0, _, _, _, _⟩) (v := .agg (cU xa (.slice none 0 0))) rfl (by kernel_rfl) (by kernel_rfl) (by kernel_rfl) (fun _ _ _ h => h) (Or.inl ⟨by rfl, ?_⟩) (by assumption) ?_
      · (intro v hv; go_simp)
      simp only [Act.put, List.setIfInBounds_toArray, List.set_cons_zero, List.set_cons_succ]
      refine wpAnyH_take (i := 7) (oi := ⟨some 85, .extract (.tmp 78) 1, _, _, _, _⟩) (v := .bool ba) rfl (by kernel_rfl) (by kernel_rfl) (by kernel_rfl) (fun _ _ _ h => h) (Or.inl ⟨by rfl, ?_⟩) (by assumption) ?_
      · (intro v hv; go_simp)
      simp only [Act.put, List.setIfInBounds_toArray, List.set_cons_zero, List.set_cons_succ]
      refine wpAnyH_ready (rs := [9]) (by kernel_rfl) (by simp) ?_
      refine AllReadyH.cons (o := ⟨none, .store 27 (.tmp 16) (.tmp 84), _, _, _, _⟩) rfl (fun K hK => ?_) AllReadyH.nil
      rw [if_pos (by rfl)]
      refine wp_store_row 27 (.tmp 16) (.tmp 84) rfl V6.heap.size (cU xa (.slice none 0 0)) rfl rfl 27 (cU none1 (.slice none 0 0)) hr (by rw [cU_size _ _ H8a.out]; exact size27) (by first | exact (cU_size none1 (.slice none 0 0) rfl).trans (cU_size xa (.slice none 0 0) H8a.out).symm | exact (cU_size xa (.slice none 0 0) H8a.out).trans (cU_size none1 (.slice none 0 0) rfl).symm) (cU_one _ _ hn1) ?_
      have hc3 := below_row hc2 (Nat.le_refl _) (cU xa (.slice none 0 0))
      refine hK.out _ _ (HU6.out.later hc3) (fun hS => ?_)
      refine wpAnyH_take (i := 10) (oi := ⟨some 17, .assign (.tmp 85), _, _, _, _⟩) (v := .bool ba) rfl (by kernel_rfl) (by kernel_rfl) (by kernel_rfl) (fun _ _ _ h => h) (Or.inl ⟨by rfl, ?_⟩) (by assumption) ?_
      · (intro v hv; go_simp)
      simp only [Act.put, List.setIfInBounds_toArray, List.set_cons_zero, List.set_cons_succ]
      refine wpAnyH_done (by kernel_rfl) ?_ _
      go_wp2_with fail
      go_meet
      exact ⟨_, rfl, rfl, Lib.hid (hr.row xa (.slice none 0 0)), Lib.hid (HZ6.out.later hc3), Lib.hid (HB6.out.trans (hc3.mono HB6.out.size)), Lib.hid HZ6.out.lt⟩
  case rest =>
    obtain ⟨g, rfl, rfl, HUa, HZa, HBa, HGa⟩ := hcut
    clear HU6 HZ6 HB6 HG CA pA
    cases ba
    · obtain ⟨rfl, rfl, rfl⟩ := F5.out Z0.out (by first | rfl | trivial)
      clear F5 F6
      go_wp2_with ((with_reducible refine wp_store27 (o := ⟨none, .store 27 (.tmp 2) (.tmp 88), _, _, _, _⟩) ?_ (.tmp 2) (.tmp 88) ?_ w.heap.size ?_ none1 (.slice none 0 0) ?_ n81 hn1 none1 (.slice none 0 0) rfl HZa.out ?_); (· rfl); (· rfl); (· rfl); (· rfl); simp only [Act.put, List.setIfInBounds_toArray, List.set_cons_zero, List.set_cons_succ])
      exact bodyPost_ret (ret_rp w.heap.size none1 (.slice none 0 0) rfl false rfl rfl (HZa.out.row none1 (.slice none 0 0))) rfl ⟨(.slice none 0 0), rfl, Path.Strs.nil _, new_nil _, below_row HBa.out (Nat.le_refl _) _⟩
    · obtain ⟨rfl, rfl⟩ := F6.out (by first | rfl | trivial) Z0.out HP.out (by first | rfl | trivial)
      clear F5 F6
      go_wp2_with fail
      refine (CL2.out _).mono ?_
      rintro e Y ⟨pv, rfl, hst, hnw, hB⟩
      have hone := strs_one hst
      have HU1 := Lib.hid (HUa.out.later hB)
      have HZ1 := Lib.hid (HZa.out.later hB)
      have HB1 := Lib.hid (HBa.out.trans (hB.mono HBa.out.size))
      have hg := HGa.out
      have hgl := HUa.out.lt
      have HST := Lib.hid hst
      have HNW := Lib.hid (show Path.New (g + 1) pv from hnw.mono (by omega))
      clear hst hnw hB HUa HZa HBa HGa CL2
      have f15 := HU1.out.free 15
      have g15 := HU1.out.cell 15
      rw [(cU_at _ _ H8a.out).2.2.2.2.2.1] at g15
      have HU2 := Lib.hid (HU1.out.pth H8a.out L pv)
      have HZ2 := Lib.hid (url_other HZ1.out (by omega : w.heap.size ≠ g) 15 pv)
      have HB2 := Lib.hid (below_set HB1.out (by omega : w.heap.size ≤ g) 15 pv)
      have HS2 := Lib.hid (show Path.Strs (Y.setCell ⟨g, 15, none⟩ pv) pv L from strs_other g HST.out HNW.out (fun k hk => Below.heap_setCell _ _ _ _ hk))
      have h8x : ({ xa with path := L } : U).h.p.length = 8 := H8a.out
      clear HU1 HZ1 HB1 HST
      obtain ⟨a, cap, hpv, _⟩ := HS2.out
      subst hpv
      go_wp2_with (first | ((with_reducible refine wp_load27 (o := ⟨some 94, .load 27 (.tmp 16), _, _, _, _⟩) ?_ (.tmp 16) ?_ g ?_ { xa with path := L } (.slice a L.length cap) h8x HU2.out ?_); (· rfl); (· rfl); (· rfl); simp only [Act.put, List.setIfInBounds_toArray, List.set_cons_zero, List.set_cons_succ]) | ((with_reducible refine wp_store27 (o := ⟨none, .store 27 (.tmp 2) (.tmp 94), _, _, _, _⟩) ?_ (.tmp 2) (.tmp 94) ?_ w.heap.size ?_ { xa with path := L } (.slice a L.length cap) ?_ h8x hone none1 (.slice none 0 0) rfl HZ2.out ?_); (· rfl); (· rfl); (· rfl); (· rfl); simp only [Act.put, List.setIfInBounds_toArray, List.set_cons_zero, List.set_cons_succ]))
      exact bodyPost_ret (ret_rp w.heap.size { xa with path := L } (.slice a L.length cap) h8x true rfl rfl (HZ2.out.row { xa with path := L } (.slice a L.length cap))) rfl ⟨_, rfl, strs_other w.heap.size HS2.out (HNW.out.mono (by omega)) (fun k hk => Url.setRow_other _ _ _ (Ne.symm hk)), HNW.out.mono (by omega), below_row HB2.out (Nat.le_refl _) _⟩
end Go.Proofs.YtkjkcgbmfglihaaGreatDoor.Url

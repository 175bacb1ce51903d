/-
  url's Parse: what goes wrong ends it by a panic, which a deferred function recovers.
-/
import Derived.Test.YtfdhhjigpboieaaGreatDoorUWeb
import Derived.Tactics2
import Derived.Defers
import Derived.Recover
import Derived.Laws.Pointers
namespace Go.Proofs.YtfdhhjigpboieaaGreatDoor.Url
open Go.RowKit Go.Shelf
open Host (H HostAt none0 okH)
open Six (arr RowAt zero8)
open Path (Strs)
set_option linter.unusedSimpArgs false
set_option linter.unusedVariables false
set_option maxRecDepth 100000

theorem web8 (sc t : T) : (webU sc t).h.p.length = 8 := Host.parH_len _
theorem opq8 (sc t : T) : (opqU sc t).h.p.length = 8 := rfl
theorem ahead8 (sc t : T) : (aheadU sc t).h.p.length = 8 := by
  unfold aheadU
  split
  · exact opq8 _ _
  · exact web8 _ _
theorem par8 (s : T) : (parS s).h.p.length = 8 := by
  unfold parS
  split
  · exact ahead8 _ _
  · rfl
theorem got_one {w : World} {u : U} {pv : Value} {W : World} (h : Strs W pv u.path) : pv.oneCell' = true := strs_one h
def aheadB (sc t : T) : Bool := (!decide (webI sc = 0) && webB t) || opB sc
set_option maxHeartbeats 8000000 in
theorem ahead_any (sc t : ByteArray) (ht : t.size ≤ 900) (b : Bool) (hb : aheadB sc.data.toList t.data.toList = b) (m : Int) (w : World) (hm : Six.At m w) :
    Calls Tryz.prog 68 #[.string sc, .string t] w fun e w' => (b = false ∧ e = gone ∧ Below w.heap.size w w') ∨ (b = true ∧ Got w (aheadU sc.data.toList t.data.toList) e w') := by
  have HB0 := Lib.hid (show Below w.heap.size w (w.alloc (.cells (cU none1 (.slice none 0 0)) 27)) from (Below.refl _ w).alloc (Nat.le_refl _) _)
  have HR0 := Lib.hid (UrlAt.new w none1 (.slice none 0 0))
  have HS0 : (w.alloc (.cells (cU none1 (.slice none 0 0)) 27)).heap.size = w.heap.size + 1 := Array.size_push _
  have HM := Lib.hid (hm.later HB0.out)
  clear hm
  by_cases hw : webI sc.data.toList = 0
  · have hq : (!decide (webI sc.data.toList = 0)) = false := by rw [hw]; rfl
    have CW := Lib.hid (fun u => isWeb_any sc false hq u)
    unfold aheadB at hb
    rw [hq, Bool.false_and, Bool.false_or] at hb
    have CO := Lib.hid (fun u => opq_any sc b hb u)
    have CE := Lib.hid (fun u => Pct.encode_any t (by omega) 1 u)
    obtain ⟨E, hE⟩ : ∃ E, tb (Pct.encode 1 t.data.toList) = E := ⟨_, rfl⟩
    have hE' : (⟨(Pct.encode 1 t.data.toList).toArray⟩ : ByteArray) = E := hE
    rw [hE'] at CE
    have hU : aheadU sc.data.toList t.data.toList = ⟨sc.data.toList, [], [], none0, -1, [], E.data.toList, [], [], false, false⟩ := by
      unfold aheadU opqU
      rw [if_pos hw, list_tb hE]
    rw [hU]
    have hlit : (#[.string sc, .string ⟨#[]⟩, .string ⟨#[]⟩, .int .i64 0, .string ⟨#[]⟩, .int .i64 0, .int .i64 0, .int .i64 0, .int .i64 0, .int .i64 0, .int .i64 0, .int .i64 0, .int .i64 0, .int .i64 0, .int .i64 (-1), .slice none 0 0,
        .string E, .string ⟨#[]⟩, .string ⟨#[]⟩, .bool false, .bool false] : Array Value) = cU ⟨sc.data.toList, [], [], none0, -1, [], E.data.toList, [], [], false, false⟩ (.slice none 0 0) := by
      simp only [cU, tb_of]; rfl
    clear hU hE hE' hq hb hw ht
    cases b
    · go_enter Tryz.func68, Tryz.ntmps68
      go_wp2_with fail
      rw [zero_url]
      generalize w.alloc (.cells (cU none1 (.slice none 0 0)) 27) = W at HB0 HR0 HM HS0 ⊢
      refine (CW.out _).mono ?_
      rintro e u1 ⟨rfl, rfl⟩
      go_wp2_with fail
      refine (CO.out _).mono ?_
      rintro e u1 ⟨rfl, rfl⟩
      go_wp2_with fail
      refine (need_no _).mono ?_
      rintro e u1 ⟨rfl, rfl⟩
      unfold gone
      go_wp2
      exact ⟨rfl, .inl ⟨trivial, rfl, HB0.out⟩⟩
    · go_enter Tryz.func68, Tryz.ntmps68
      go_wp2_with fail
      rw [zero_url]
      generalize w.alloc (.cells (cU none1 (.slice none 0 0)) 27) = W at HB0 HR0 HM HS0 ⊢
      refine (CW.out _).mono ?_
      rintro e u1 ⟨rfl, rfl⟩
      go_wp2_with fail
      refine (CO.out _).mono ?_
      rintro e u1 ⟨rfl, rfl⟩
      go_wp2_with fail
      refine (need_yes _).mono ?_
      rintro e u1 ⟨rfl, rfl⟩
      go_wp2_with fail
      refine (CE.out _).mono ?_
      rintro e u2 ⟨rfl, hB2⟩
      have HR2 := HR0.out.later hB2
      have HB2 := Lib.hid (Ascii.below2 HB0.out hB2)
      clear hB2 HB0 HR0 HM HS0
      go_wp2_with ((with_reducible refine wp_store27 (o := ⟨none, .store 27 (.tmp 4) (.tmp 16), _, _, _, _⟩) ?_ (.tmp 4) (.tmp 16) ?_ w.heap.size ?_ ⟨sc.data.toList, [], [], none0, -1, [], E.data.toList, [], [], false, false⟩ (.slice none 0 0) ?_ rfl rfl none1 (.slice none 0 0) rfl HR2 ?_); (· rfl); (· rfl); (· rfl); (· exact congrArg Value.agg hlit))
      have hfin := HR2.row ⟨sc.data.toList, [], [], none0, -1, [], E.data.toList, [], [], false, false⟩ (.slice none 0 0)
      exact bodyPost_ret (ret_url rfl w.heap.size _ (.slice none 0 0) rfl rfl hfin) rfl (.inr ⟨trivial, _, rfl, Path.Strs.nil _, (fun b o s n c e => by cases e), below_row HB2.out (Nat.le_refl _) _⟩)
  · have hq : (!decide (webI sc.data.toList = 0)) = true := by rw [decide_eq_false hw]; rfl
    have CW := Lib.hid (fun u => isWeb_any sc true hq u)
    have ho : opB sc.data.toList = false := by
      cases h : opB sc.data.toList
      · rfl
      · exact absurd (web_op _ h) hw
    unfold aheadB at hb
    rw [hq, ho, Bool.true_and, Bool.or_false] at hb
    have CO := Lib.hid (fun u hu => ofWeb_any sc t ht b hb m u hu)
    have hU : aheadU sc.data.toList t.data.toList = webU sc.data.toList t.data.toList := by unfold aheadU; rw [if_neg hw]
    rw [hU]
    have H8 := web8 sc.data.toList t.data.toList
    generalize webU sc.data.toList t.data.toList = v at CO H8 ⊢
    clear hU hq hb hw ho ht
    go_enter Tryz.func68, Tryz.ntmps68
    go_wp2_with fail
    rw [zero_url]
    generalize w.alloc (.cells (cU none1 (.slice none 0 0)) 27) = W at HB0 HR0 HM HS0 ⊢
    refine (CW.out _).mono ?_
    rintro e u1 ⟨rfl, rfl⟩
    go_wp2_with fail
    refine (CO.out _ HM.out).mono ?_
    rintro e u1 (⟨hb, rfl, hB1⟩ | ⟨hb, pv, rfl, hst, hn, hB1⟩)
    · unfold gone
      go_wp2
      exact ⟨rfl, .inl ⟨hb, rfl, Ascii.below2 HB0.out hB1⟩⟩
    · have HR1 := HR0.out.later hB1
      have HB1 := Lib.hid (Ascii.below2 HB0.out hB1)
      have HST := Lib.hid hst
      have hone := strs_one hst
      have HN := Lib.hid (show Path.New (w.heap.size + 1) pv from hn.mono (by omega))
      clear hB1 HB0 HR0 HM hst hn HS0
      go_wp2_with ((with_reducible refine wp_store27 (o := ⟨none, .store 27 (.tmp 4) (.tmp 9), _, _, _, _⟩) ?_ (.tmp 4) (.tmp 9) ?_ w.heap.size ?_ v pv ?_ H8 hone none1 (.slice none 0 0) rfl HR1 ?_); (· rfl); (· rfl); (· rfl); (· rfl))
      have hfin := HR1.row v pv
      exact bodyPost_ret (ret_url rfl w.heap.size _ pv H8 rfl hfin) rfl (.inr ⟨hb, pv, rfl, strs_other w.heap.size HST.out HN.out (fun k hk => setRow_other _ _ _ (Ne.symm hk)), HN.out.mono (Nat.le_succ _), below_row HB1.out (Nat.le_refl _) _⟩)

theorem UrlAt.free {w : World} {g : Nat} {u : U} {pv : Value} (a : UrlAt w g u pv) (j : Nat) : w.frozen? ⟨g, j, none⟩ = false := by
  unfold World.frozen?
  simp only
  rw [show w.heap[g]? = _ from a]
  simp
set_option maxHeartbeats 8000000 in
theorem parsed_any (s : ByteArray) (hs : s.size ≤ 900) (b : Bool) (hb : okS s.data.toList = b) (m : Int) (w : World) (hm : Six.At m w) :
    Calls Tryz.prog 33 #[.string s] w fun e w' => (b = false ∧ e = gone ∧ Below w.heap.size w w') ∨ (b = true ∧ Got w (parS s.data.toList) e w') := by
  have HB0 := Lib.hid (show Below w.heap.size w (w.alloc (.cells (cU none1 (.slice none 0 0)) 27)) from (Below.refl _ w).alloc (Nat.le_refl _) _)
  have HR0 := Lib.hid (UrlAt.new w none1 (.slice none 0 0))
  have HS0 := Lib.hid (show (w.alloc (.cells (cU none1 (.slice none 0 0)) 27)).heap.size = w.heap.size + 1 from Array.size_push _)
  have HM := Lib.hid (hm.later HB0.out)
  clear hm
  obtain ⟨x, hx⟩ : ∃ x, tb (schS s.data.toList) = x := ⟨_, rfl⟩
  obtain ⟨y, hy⟩ : ∃ y, tb (schR s.data.toList) = y := ⟨_, rfl⟩
  have hy1 : y.size ≤ 900 := by
    rw [size_tb hy]
    unfold schR
    split
    · exact Nat.le_trans (aft_len _ _) hs
    · exact Nat.zero_le _
  cases hB : schB s.data.toList
  · have CS := Lib.hid (fun u hu => scheme_any s (by omega) x y false hx hy hB m u hu)
    have hb' : b = false := by rw [← hb]; unfold okS; rw [hB]; rfl
    subst hb'
    clear hb hB hx hy hy1 hs
    go_enter Tryz.func33, Tryz.ntmps33
    go_wp2_with fail
    rw [zero_url]
    generalize w.alloc (.cells (cU none1 (.slice none 0 0)) 27) = W at HB0 HR0 HM HS0 ⊢
    refine (CS.out _ HM.out).mono ?_
    rintro e u1 ⟨rfl, hB1⟩
    go_wp2_with fail
    refine (need_no _).mono ?_
    rintro e u2 ⟨rfl, rfl⟩
    unfold gone
    go_wp2
    exact ⟨rfl, .inl ⟨trivial, rfl, Ascii.below2 HB0.out hB1⟩⟩
  · have CS := Lib.hid (fun u hu => scheme_any s (by omega) x y true hx hy hB m u hu)
    have hyl := list_tb hy
    have hxl := list_tb hx
    obtain ⟨t, ht⟩ : ∃ t, tb (tA y.data.toList) = t := ⟨_, rfl⟩
    obtain ⟨q, hq⟩ : ∃ q, tb (tQ y.data.toList) = q := ⟨_, rfl⟩
    obtain ⟨f, hf⟩ : ∃ f, tb (tF y.data.toList) = f := ⟨_, rfl⟩
    obtain ⟨hasq, hhq⟩ : ∃ c, tHQ y.data.toList = c := ⟨_, rfl⟩
    obtain ⟨hasf, hhf⟩ : ∃ c, tHF y.data.toList = c := ⟨_, rfl⟩
    have ht1 : t.size ≤ 900 := by rw [size_tb ht]; exact Nat.le_trans (Nat.le_trans (bef_len _ _) (bef_len _ _)) hy1
    have hq1 : q.size ≤ 900 := by rw [size_tb hq]; exact Nat.le_trans (Nat.le_trans (aft_len _ _) (bef_len _ _)) hy1
    have hf1 : f.size ≤ 900 := by rw [size_tb hf]; exact Nat.le_trans (aft_len _ _) hy1
    have CT := Lib.hid (fun u hu => tail_any y (by omega) t q f hasq hasf ht hq hf hhq hhf m u hu)
    have hb2 : aheadB x.data.toList t.data.toList = b := by
      rw [← hb, list_tb ht, hyl, hxl]
      unfold okS aheadB
      rw [hB, Bool.true_and]
    have CA := Lib.hid (fun u hu => ahead_any x t ht1 b hb2 m u hu)
    have CQ := Lib.hid (fun u => Pct.encode_any q (by omega) 2 u)
    have CF := Lib.hid (fun u => Pct.encode_any f (by omega) 1 u)
    have hP : b = true → parS s.data.toList = { aheadU x.data.toList t.data.toList with qry := Pct.encode 2 q.data.toList, frg := Pct.encode 1 f.data.toList, hq := hasq, hf := hasf } := by
      intro hbt
      unfold parS
      rw [hb, hbt, if_pos rfl]
      unfold tailU
      rw [list_tb ht, list_tb hq, list_tb hf, ← hhq, ← hhf, hyl, hxl]
    have H8 := Lib.hid (ahead8 x.data.toList t.data.toList)
    generalize aheadU x.data.toList t.data.toList = v at CA hP H8
    generalize parS s.data.toList = V at hP ⊢
    have HP := Lib.hid hP
    have hE2 : (⟨(Pct.encode 2 q.data.toList).toArray⟩ : ByteArray) = tb (Pct.encode 2 q.data.toList) := rfl
    have hE1 : (⟨(Pct.encode 1 f.data.toList).toArray⟩ : ByteArray) = tb (Pct.encode 1 f.data.toList) := rfl
    rw [hE2] at CQ
    rw [hE1] at CF
    generalize Pct.encode 2 q.data.toList = Q at CQ HP
    generalize Pct.encode 1 f.data.toList = F at CF HP
    clear hP hE1 hE2 hb2 ht1 hq1 hf1 ht hq hf hhq hhf hb hB hx hy hyl hxl hy1 hs
    go_enter Tryz.func33, Tryz.ntmps33
    go_wp2_with fail
    rw [zero_url]
    generalize w.alloc (.cells (cU none1 (.slice none 0 0)) 27) = W at HB0 HR0 HM HS0 ⊢
    refine (CS.out _ HM.out).mono ?_
    rintro e u1 ⟨rfl, hB1⟩
    have HM1 := Lib.hid (HM.out.later hB1)
    have HR1 := Lib.hid (HR0.out.later hB1)
    have HB1 := Lib.hid hB1
    clear CS hB1 HM HR0
    go_wp2_with fail
    refine (need_yes _).mono ?_
    rintro e u2 ⟨rfl, rfl⟩
    go_wp2_with fail
    refine (CT.out _ HM1.out).mono ?_
    rintro e u2 ⟨rfl, hB2⟩
    have HM2 := Lib.hid (HM1.out.later hB2)
    have HR2 := Lib.hid (HR1.out.later hB2)
    have HB2 := Lib.hid (Ascii.below2 HB1.out hB2)
    clear CT hB2 HM1 HR1 HB1
    go_wp2_with fail
    refine (CA.out _ HM2.out).mono ?_
    rintro e u4 (⟨hb, rfl, hB4⟩ | ⟨hb, pv, rfl, hst, hn, hB4⟩)
    · unfold gone
      go_wp2
      exact ⟨rfl, .inl ⟨hb, rfl, Ascii.below3 HB0.out HB2.out hB4⟩⟩
    · have HST := Lib.hid hst
      have hone := strs_one hst
      have HN := Lib.hid (show Path.New (w.heap.size + 1) pv from hn.mono (by have := HB2.out.size; rw [HS0.out] at this; exact this))
      have HR4 := Lib.hid (HR2.out.later hB4)
      have HB4 := Lib.hid (Ascii.below3 HB0.out HB2.out hB4)
      have HP4 := Lib.hid (HP.out hb)
      have HT4 := Lib.hid hb
      clear CA hB4 HM2 HR2 hst hn HB2 HB0 HS0 HP hb
      have hnew : UrlAt (u4.alloc (.cells #[.string ⟨#[]⟩, .string ⟨#[]⟩, .string ⟨#[]⟩, .int .i64 0, .string ⟨#[]⟩, .int .i64 0, .int .i64 0, .int .i64 0, .int .i64 0, .int .i64 0, .int .i64 0, .int .i64 0, .int .i64 0, .int .i64 0, .int .i64 0, .slice none 0 0, .string ⟨#[]⟩, .string ⟨#[]⟩, .string ⟨#[]⟩, .bool false, .bool false] 27)) u4.heap.size none1 (.slice none 0 0) := UrlAt.new u4 none1 (.slice none 0 0)
      have HC5 := Lib.hid (below_row ((Below.refl u4.heap.size u4).alloc (Nat.le_refl _) (.cells #[.string ⟨#[]⟩, .string ⟨#[]⟩, .string ⟨#[]⟩, .int .i64 0, .string ⟨#[]⟩, .int .i64 0, .int .i64 0, .int .i64 0, .int .i64 0, .int .i64 0, .int .i64 0, .int .i64 0, .int .i64 0, .int .i64 0, .int .i64 0, .slice none 0 0, .string ⟨#[]⟩, .string ⟨#[]⟩, .string ⟨#[]⟩, .bool false, .bool false] 27)) (Nat.le_refl _) (cU v pv))
      have HU5 := Lib.hid (hnew.row v pv)
      go_wp2_with ((with_reducible refine wp_store27 (o := ⟨none, .store 27 (.tmp 11) (.tmp 30), _, _, _, _⟩) ?_ (.tmp 11) (.tmp 30) ?_ u4.heap.size ?_ v pv ?_ H8.out hone none1 (.slice none 0 0) rfl hnew ?_); (· rfl); (· rfl); (· rfl); (· rfl))
      generalize (u4.alloc (.cells #[.string ⟨#[]⟩, .string ⟨#[]⟩, .string ⟨#[]⟩, .int .i64 0, .string ⟨#[]⟩, .int .i64 0, .int .i64 0, .int .i64 0, .int .i64 0, .int .i64 0, .int .i64 0, .int .i64 0, .int .i64 0, .int .i64 0, .int .i64 0, .slice none 0 0, .string ⟨#[]⟩, .string ⟨#[]⟩, .string ⟨#[]⟩, .bool false, .bool false] 27)).setRow u4.heap.size (cU v pv) = u5 at HC5 HU5 ⊢
      clear hnew
      obtain ⟨g, hg⟩ : ∃ g, u4.heap.size = g := ⟨_, rfl⟩
      have HG := Lib.hid hg
      rw [hg] at HU5 ⊢
      clear hg
      refine (CQ.out _).mono ?_
      rintro e u6 ⟨rfl, hB6⟩
      have HU6 := Lib.hid (HU5.out.later hB6)
      have HC6 := Lib.hid (below_trans HC5.out hB6)
      clear CQ hB6 HU5 HC5
      have c17 := HU6.out.cell 17
      rw [(cU_at v pv H8.out).2.2.2.2.2.2.2.1] at c17
      have c19 := HU6.out.cell 19
      rw [(cU_at v pv H8.out).2.2.2.2.2.2.2.2.2.1] at c19
      have f17 := HU6.out.free 17
      have f19 := HU6.out.free 19
      go_wp2_with fail
      have HU7 := Lib.hid ((HU6.out.qry H8.out Q).hq H8.out hasq)
      have HC7 := Lib.hid (below_set (below_set HC6.out (Nat.le_of_eq HG.out) 17 (.string (tb Q))) (Nat.le_of_eq HG.out) 19 (.bool hasq))
      generalize (u6.setCell ⟨g, 17, none⟩ (.string (tb Q))).setCell ⟨g, 19, none⟩ (.bool hasq) = u7 at HU7 HC7 ⊢
      clear c17 c19 f17 f19 HU6 HC6
      refine (CF.out _).mono ?_
      rintro e u8 ⟨rfl, hB8⟩
      have HU8 := Lib.hid (HU7.out.later hB8)
      have HC8 := Lib.hid (below_trans HC7.out hB8)
      clear CF hB8 HU7 HC7
      have c18 := HU8.out.cell 18
      rw [(cU_at _ pv (by exact H8.out)).2.2.2.2.2.2.2.2.1] at c18
      have c20 := HU8.out.cell 20
      rw [(cU_at _ pv (by exact H8.out)).2.2.2.2.2.2.2.2.2.2] at c20
      have f18 := HU8.out.free 18
      have f20 := HU8.out.free 20
      have HU9 := Lib.hid (show UrlAt ((u8.setCell ⟨g, 18, none⟩ (.string (tb F))).setCell ⟨g, 20, none⟩ (.bool hasf)) g V pv from by rw [HP4.out]; exact (HU8.out.frg (by exact H8.out) F).hf (by exact H8.out) hasf)
      have HC9 := Lib.hid (below_set (below_set HC8.out (Nat.le_of_eq HG.out) 18 (.string (tb F))) (Nat.le_of_eq HG.out) 20 (.bool hasf))
      have HR9 := Lib.hid (HR4.out.later HC9.out)
      have H8V : V.h.p.length = 8 := by rw [HP4.out]; exact H8.out
      have HVp : V.path = v.path := by rw [HP4.out]
      go_wp2_with (first
        | ((with_reducible refine wp_load27 (o := ⟨some 41, .load 27 (.tmp 11), _, _, _, _⟩) ?_ (.tmp 11) ?_ g ?_ V pv H8V HU9.out ?_); (· rfl); (· rfl); (· rfl))
        | ((with_reducible refine wp_store27 (o := ⟨none, .store 27 (.tmp 2) (.tmp 41), _, _, _, _⟩) ?_ (.tmp 2) (.tmp 41) ?_ w.heap.size ?_ V pv ?_ H8V hone none1 (.slice none 0 0) rfl HR9.out ?_); (· rfl); (· rfl); (· rfl); (· rfl)))
      have hfin := HR9.out.row V pv
      have hstr : Strs ((u8.setCell ⟨g, 18, none⟩ (.string (tb F))).setCell ⟨g, 20, none⟩ (.bool hasf)) pv V.path := by rw [HVp]; exact HST.out.later HC9.out
      exact bodyPost_ret (ret_url rfl w.heap.size _ pv H8V rfl hfin) rfl (.inr ⟨HT4.out, pv, rfl, strs_other w.heap.size hstr HN.out (fun k hk => setRow_other _ _ _ (Ne.symm hk)), HN.out.mono (Nat.le_succ _), below_row (Ascii.below2 HB4.out HC9.out) (Nat.le_refl _) _⟩)
end Go.Proofs.YtfdhhjigpboieaaGreatDoor.Url

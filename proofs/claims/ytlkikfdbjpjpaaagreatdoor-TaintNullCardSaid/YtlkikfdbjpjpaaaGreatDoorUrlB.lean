/-
  url's Parse: the deferred function that recovers, and Parse whole.
  url's May.
  The laws' Few: an address of few segments and short texts.
-/
import Derived.Test.YtlkikfdbjpjpaaaGreatDoorUrlA
namespace Go.Proofs.YtlkikfdbjpjpaaaGreatDoor.Url
set_option linter.unusedSimpArgs false
set_option linter.unusedVariables false
set_option maxRecDepth 100000


open Go.RowKit Go.Shelf

open Host (H HostAt none0 okH)

open Six (arr RowAt zero8)

open Path (Strs)

set_option maxRecDepth 100000

theorem ret_two {fn : Func} {d c : Tmp} (h : fn.results = #[.cell d 27, .tmp c]) {tmps : Array Value} {W : World} (g : Nat) (u : U) (pv : Value) (h8 : u.h.p.length = 8) (b : Value) (hp : tmps.getD d undef = .pointer (some ⟨g, 0, none⟩)) (hb : tmps.getD c undef = b) (hr : UrlAt W g u pv) :
    (results fn tmps).run Tryz.prog W = .ok (.tuple #[.agg (cU u pv), b]) W := by
  have hp' : tmps[d]?.getD undef = .pointer (some ⟨g, 0, none⟩) := by simpa using hp
  have hb' : tmps[c]?.getD undef = b := by simpa using hb
  simp [results, h, hp', hb', asAddr, hr.load h8]

theorem isWrong (w : World) : (Instr.typeAssert (.iface 57 (.agg #[])) 20 57 false).run Tryz.prog w = .ok (.agg #[]) w := by kernel_rfl

set_option maxHeartbeats 4000000 in
theorem answer_any (w : World) : Calls Tryz.prog 43 #[.agg #[]] w fun e w' => e = .returned (.tuple #[.agg (cU none1 (.slice none 0 0)), .bool false]) ∧ Below w.heap.size w w' := by
  have hs1 : (w.alloc (.cells #[] 57)).heap.size = w.heap.size + 1 := Array.size_push _
  have hB1 := (Below.refl w.heap.size w).alloc (Nat.le_refl _) (.cells #[] 57)
  have HB := Lib.hid (hB1.alloc (Nat.le_trans (Nat.le_succ _) (Nat.le_of_eq hs1.symm)) (.cells (cU none1 (.slice none 0 0)) 27))
  have hnew : UrlAt ((w.alloc (.cells #[] 57)).alloc (.cells #[.string ⟨#[]⟩, .string ⟨#[]⟩, .string ⟨#[]⟩, .int .i64 0, .string ⟨#[]⟩, .int .i64 0, .int .i64 0, .int .i64 0, .int .i64 0, .int .i64 0, .int .i64 0, .int .i64 0, .int .i64 0, .int .i64 0, .int .i64 0, .slice none 0 0, .string ⟨#[]⟩, .string ⟨#[]⟩, .string ⟨#[]⟩, .bool false, .bool false] 27)) (w.heap.size + 1) none1 (.slice none 0 0) := by
    rw [← hs1]; exact UrlAt.new (w.alloc (.cells #[] 57)) none1 (.slice none 0 0)
  clear hs1 hB1
  go_enter Tryz.func43, Tryz.ntmps43
  go_wp2_with ((with_reducible refine wp_store27 (o := ⟨none, .store 27 (.tmp 2) (.tmp 4), _, _, _, _⟩) ?_ (.tmp 2) (.tmp 4) ?_ (w.heap.size + 1) ?_ none1 (.slice none 0 0) ?_ rfl rfl none1 (.slice none 0 0) rfl hnew ?_); (· rfl); (· rfl); (· rfl); (· exact congrArg Value.agg zero_url))
  have hfin := hnew.row none1 (.slice none 0 0)
  exact bodyPost_ret (ret_two rfl (w.heap.size + 1) none1 (.slice none 0 0) rfl (.bool false) rfl rfl hfin) rfl ⟨rfl, below_row HB.out (Nat.le_succ _) _⟩

/-- Block k is this Boolean. -/
def BoolAt (W : World) (k : Nat) (b : Bool) : Prop := W.heap[k]? = some (.cells #[.bool b] 4 (0, 0))

theorem BoolAt.lt {w : World} {k : Nat} {b : Bool} (a : BoolAt w k b) : k < w.heap.size := (Array.getElem?_eq_some_iff.1 a).1

theorem BoolAt.new (w : World) (b : Bool) : BoolAt (w.alloc (.cells #[.bool b] 4)) w.heap.size b := heap_alloc_new w _

theorem BoolAt.later {w v : World} {k : Nat} {b : Bool} (a : BoolAt w k b) (hB : Below w.heap.size w v) : BoolAt v k b := (hB.block k a.lt).trans a

theorem BoolAt.cell {w : World} {k : Nat} {b : Bool} (a : BoolAt w k b) : w.cell? ⟨k, 0, none⟩ = some (.bool b) := cell_of_row w k 0 #[.bool b] 4 (0, 0) a

theorem BoolAt.free {w : World} {k : Nat} {b : Bool} (a : BoolAt w k b) : w.frozen? ⟨k, 0, none⟩ = false := by
  unfold World.frozen?
  simp only
  rw [show w.heap[k]? = _ from a]
  simp

theorem BoolAt.other {w : World} {k : Nat} {b : Bool} (a : BoolAt w k b) {g : Nat} (h : g ≠ k) (cs : Array Value) : BoolAt (w.setRow g cs) k b := (setRow_other w g cs h).trans a

theorem BoolAt.set {w : World} {k : Nat} {b : Bool} (a : BoolAt w k b) (c : Bool) : BoolAt (w.setCell ⟨k, 0, none⟩ (.bool c)) k c := heap_set a 0 (.bool c)

theorem set_other (w : World) (k j : Nat) (v : Value) {g : Nat} (h : k ≠ g) : (w.setCell ⟨k, j, none⟩ v).heap[g]? = w.heap[g]? := by simp [World.setCell, Array.getElem?_modify, h]

theorem catch_in (g k : Nat) (u0 : U) (p0 : Value) (h8 : u0.h.p.length = 8) (b0 : Bool) (older : List PanicEntry) (w : World) (hu : UrlAt w g u0 p0) (hk : BoolAt w k b0) (hgk : g ≠ k) :
    CallsD Tryz.prog 42 #[.pointer (some ⟨g, 0, none⟩), .pointer (some ⟨k, 0, none⟩)] (.panicking ({ v := .iface 57 (.agg #[]), recovered := false } :: older)) w fun e u' w' =>
      e = .returned (.tuple #[]) ∧ u' = .panicking ({ v := .iface 57 (.agg #[]), recovered := true } :: older) ∧ UrlAt w' g none1 (.slice none 0 0) ∧ BoolAt w' k false ∧ ∀ B, B ≤ g → B ≤ k → B ≤ w.heap.size → Below B w w' := by
  refine callsD_of_wpS Tryz.func42 rfl fun c₀ cs hmode => ?_
  apply wpS_seq
  apply wpS_region
  simp [wpOpsS, go_sem, recoverD, hmode, Tryz.ntmps42, Exit.thenS]
  apply wpS_seq
  apply wpS_region
  simp [wpOpsS, go_sem, recoverD, hmode, Tryz.ntmps42, Exit.thenS]
  refine wpS_cond (t := true) (by simp [Act.eval, Array.replicate]) ?_
  simp only [if_true]
  refine wpS_of_wp ?_
  simp only [Array.replicate_succ, Array.replicate_zero, List.push_toArray, List.append_toArray, List.nil_append, List.cons_append, List.setIfInBounds_toArray, List.set_cons_succ, List.set_cons_zero]
  have hassert := isWrong w
  go_wp2_with fail
  refine (answer_any w).mono ?_
  rintro e w1 ⟨rfl, hB1⟩
  have hu1 := hu.later hB1
  have hk1 := hk.later hB1
  have HK2 := Lib.hid (hk1.other hgk (cU none1 (.slice none 0 0)))
  have HU2 := Lib.hid (hu1.row none1 (.slice none 0 0))
  have HB2 := Lib.hid (fun B (h1 : B ≤ g) (h3 : B ≤ w.heap.size) => below_row (hB1.mono h3) h1 (cU none1 (.slice none 0 0)))
  clear hk1 hu hk hassert hmode hB1
  go_wp2_with ((with_reducible refine wp_store27 (o := ⟨none, .store 27 (.tmp 0) (.tmp 10), _, _, _, _⟩) ?_ (.tmp 0) (.tmp 10) ?_ g ?_ none1 (.slice none 0 0) ?_ rfl rfl u0 p0 h8 hu1 ?_); (· rfl); (· rfl); (· rfl); (· rfl); generalize w1.setRow g (cU none1 (.slice none 0 0)) = w2 at HK2 HU2 HB2 ⊢; have ck := HK2.out.cell; have fk := HK2.out.free)
  exact ⟨rfl, _, rfl, .tuple #[], results_none rfl _ _ _, rfl, rfl, (set_other w2 k 0 (.bool false) (Ne.symm hgk)).trans HU2.out, HK2.out.set false, fun B h1 h2 h3 => below_set (HB2.out B h1 h3) h2 0 _⟩

theorem catch_idle (p q : Value) (w : World) :
    CallsD Tryz.prog 42 #[p, q] .returning w fun e u' w' => e = .returned (.tuple #[]) ∧ u' = .returning ∧ w' = w := by
  refine callsD_of_wpS Tryz.func42 rfl fun c₀ cs hu => ?_
  apply wpS_seq
  apply wpS_region
  simp [wpOpsS, go_sem, recoverD, hu, Tryz.ntmps42, Exit.thenS]
  apply wpS_seq
  apply wpS_region
  simp [wpOpsS, go_sem, recoverD, hu, Tryz.ntmps42, Exit.thenS]
  refine wpS_cond (t := false) (by simp [Act.eval, Array.replicate]) ?_
  simp only [Bool.false_eq_true, if_false]
  refine wpS_of_wp (wp_skip ?_)
  cases c₀
  simp_all [bodyPostS, results, Tryz.results42]

theorem ret_p {tmps : Array Value} {W : World} (g k : Nat) (u : U) (pv : Value) (h8 : u.h.p.length = 8) (b : Bool) (hp : tmps.getD 2 undef = .pointer (some ⟨g, 0, none⟩)) (hb : tmps.getD 3 undef = .pointer (some ⟨k, 0, none⟩)) (hr : UrlAt W g u pv) (hk : BoolAt W k b) :
    (results Tryz.f26 tmps).run Tryz.prog W = .ok (.tuple #[.agg (cU u pv), .bool b]) W := by
  have hp' : tmps[2]?.getD undef = .pointer (some ⟨g, 0, none⟩) := by simpa using hp
  have hb' : tmps[3]?.getD undef = .pointer (some ⟨k, 0, none⟩) := by simpa using hb
  have hc := hk.cell
  have hl : (loadVar 4 ⟨k, 0, none⟩).run Tryz.prog W = .ok (.bool b) W := by simp [loadVar, Tryz.isAgg4, hc, go_sem]
  simp [results, Tryz.results26, hp', hb', asAddr, hr.load h8, hl]

/-- Parse's answer. -/
def GotP (w : World) (u : U) (b : Bool) (e : Ending) (w' : World) : Prop := ∃ pv, e = .returned (.tuple #[.agg (cU u pv), .bool b]) ∧ Strs w' pv u.path ∧ Path.New w.heap.size pv ∧ Below w.heap.size w w'

theorem clean_at (s : ByteArray) (hs : s.size ≤ 1000000) (x : ByteArray) (hx : tb (Ascii.clean s.data.toList) = x) (w : World) : Calls Tryz.prog 45 #[.string s] w fun e w' => e = .returned (.string x) ∧ Below w.heap.size w w' := by
  subst hx
  exact Ascii.clean_calls s (by unfold maxLen; omega) (by omega) w

set_option maxHeartbeats 8000000 in
theorem parse_in (s : ByteArray) (hs : s.size ≤ 25000) (b : Bool) (hb : okU s.data.toList = b) (m : Int) (w : World) (hm : Six.At m w) :
    Calls Tryz.prog 26 #[.string s] w (GotP w (parU s.data.toList) b) := by
  obtain ⟨x, hx⟩ : ∃ x, tb (Ascii.clean s.data.toList) = x := ⟨_, rfl⟩
  have hx1 : x.size ≤ 25000 := by rw [size_tb hx]; exact Nat.le_trans (clean_len _) hs
  have CC := Lib.hid (clean_at s (by omega) x hx)
  unfold okU at hb
  unfold parU
  rw [← list_tb hx] at hb ⊢
  have CP := Lib.hid (fun u hu => parsed_any x hx1 b hb m u hu)
  have HV8 := Lib.hid (par8 x.data.toList)
  have HPN := Lib.hid (show b = false → parS x.data.toList = none1 from fun h => par_none _ (hb.trans h))
  generalize parS x.data.toList = v at CP HV8 HPN ⊢
  have hs1 : (w.alloc (.cells (cU none1 (.slice none 0 0)) 27)).heap.size = w.heap.size + 1 := Array.size_push _
  have hB1 := (Below.refl w.heap.size w).alloc (Nat.le_refl _) (.cells (cU none1 (.slice none 0 0)) 27)
  have HB0 := Lib.hid (hB1.alloc (Nat.le_trans (Nat.le_succ _) (Nat.le_of_eq hs1.symm)) (.cells #[.bool false] 4))
  have HR0 := Lib.hid ((UrlAt.new w none1 (.slice none 0 0)).past (.cells #[.bool false] 4))
  have HK0 := Lib.hid (show BoolAt ((w.alloc (.cells (cU none1 (.slice none 0 0)) 27)).alloc (.cells #[.bool false] 4)) (w.heap.size + 1) false from by rw [← hs1]; exact BoolAt.new _ false)
  have HM := Lib.hid (hm.later HB0.out)
  have hsz : ((w.alloc (.cells (cU none1 (.slice none 0 0)) 27)).alloc (.cells #[.bool false] 4)).heap.size = w.heap.size + 2 := by
    have : ((w.alloc (.cells (cU none1 (.slice none 0 0)) 27)).alloc (.cells #[.bool false] 4)).heap.size = (w.alloc (.cells (cU none1 (.slice none 0 0)) 27)).heap.size + 1 := Array.size_push _
    omega
  have HSZ := Lib.hid hsz
  clear hb hx hx1 hs hm hs1 hB1 hsz
  have hmf : ∀ (fn : Fn) (first cap : Array Value) (w : World), (Instr.makeFunc fn first cap).run Tryz.prog w = .ok (.func fn first cap) w := fun _ _ _ _ => rfl
  go_enter_defers Tryz.func26, Tryz.ntmps26
  go_wp2_with fail
  rw [zero_url]
  generalize (w.alloc (.cells (cU none1 (.slice none 0 0)) 27)).alloc (.cells #[.bool false] 4) = W at HB0 HR0 HK0 HM HSZ ⊢
  refine (CC.out _).mono ?_
  rintro e u1 ⟨rfl, hB1⟩
  have HM1 := Lib.hid (HM.out.later hB1)
  have HR1 := Lib.hid (HR0.out.later hB1)
  have HK1 := Lib.hid (HK0.out.later hB1)
  have HB1 := Lib.hid hB1
  clear CC hB1 HM HR0 HK0
  go_wp2_with fail
  refine (CP.out _ HM1.out).mono ?_
  rintro e u2 (⟨hb, rfl, hB2⟩ | ⟨hb, pv, rfl, hst, hn, hB2⟩)
  · unfold gone
    go_wp2
    have hR2 := HR1.out.later hB2
    have hK2 := HK1.out.later hB2
    have hBw := Ascii.below3 HB0.out HB1.out hB2
    have hsz := Nat.le_trans HB1.out.size hB2.size
    have hv : v = none1 := HPN.out hb
    subst hb
    rw [hv]
    refine leaves_cons (f := 42) (args := #[.pointer (some ⟨w.heap.size, 0, none⟩), .pointer (some ⟨w.heap.size + 1, 0, none⟩)]) (by simp) (by simp [go_sem]) ?_
    refine (catch_in w.heap.size (w.heap.size + 1) none1 _ rfl false [] u2 hR2 hK2 (by omega)).mono ?_
    rintro e u' w'' ⟨rfl, rfl, hU, hK, hBB⟩
    exact ⟨_, ret_p w.heap.size (w.heap.size + 1) none1 (.slice none 0 0) rfl false rfl rfl hU hK, (.slice none 0 0), rfl, Path.Strs.nil _, (fun b o s n c e => by cases e), hBw.trans (hBB w.heap.size (Nat.le_refl _) (Nat.le_succ _) hBw.size)⟩
  · have hR2 := HR1.out.later hB2
    have HK2 := Lib.hid ((HK1.out.later hB2).other (Nat.ne_of_lt (Nat.lt_succ_self w.heap.size)) (cU v pv))
    have HU2 := Lib.hid (hR2.row v pv)
    have HBw := Lib.hid (below_row (Ascii.below3 HB0.out HB1.out hB2) (Nat.le_refl _) (cU v pv))
    have hone := strs_one hst
    have HN := Lib.hid (show Path.New (w.heap.size + 2) pv from hn.mono (by have := HB1.out.size; rw [HSZ.out] at this; exact this))
    have HST := Lib.hid (strs_other w.heap.size hst (HN.out.mono (Nat.le_succ _)) (fun k hk => setRow_other u2 w.heap.size (cU v pv) (Ne.symm hk)))
    subst hb
    clear CP HPN hst hn hB2 HB0 HB1 HSZ HM1 HR1 HK1
    go_wp2_with ((with_reducible refine wp_store27 (o := ⟨none, .store 27 (.tmp 2) (.tmp 7), _, _, _, _⟩) ?_ (.tmp 2) (.tmp 7) ?_ w.heap.size ?_ v pv ?_ HV8.out hone none1 (.slice none 0 0) rfl hR2 ?_); (· rfl); (· rfl); (· rfl); (· rfl); generalize u2.setRow w.heap.size (cU v pv) = u3 at HK2 HU2 HBw HST ⊢; clear hR2; have ck := HK2.out.cell; have fk := HK2.out.free)
    refine leaves_cons (f := 42) (args := #[.pointer (some ⟨w.heap.size, 0, none⟩), .pointer (some ⟨w.heap.size + 1, 0, none⟩)]) (by simp) (by simp [go_sem]) ?_
    refine (catch_idle _ _ _).mono ?_
    rintro e u' w'' ⟨rfl, rfl, rfl⟩
    refine ⟨_, ret_p w.heap.size (w.heap.size + 1) v pv HV8.out true rfl rfl ((set_other u3 (w.heap.size + 1) 0 (.bool true) (Nat.succ_ne_self _)).trans HU2.out) (HK2.out.set true), pv, rfl, ?_, HN.out.mono (by omega), below_set HBw.out (Nat.le_succ _) 0 (.bool true)⟩
    exact strs_other (w.heap.size + 1) HST.out HN.out (fun k hk => set_other u3 (w.heap.size + 1) 0 (.bool true) (Ne.symm hk))



open Host (H HostAt none0 okH mayH)

set_option maxRecDepth 100000

/-- How large an address may be here. -/
structure Fit (u : U) : Prop where
  h8 : u.h.p.length = 8
  hs : u.h.s.size ≤ 1000
  pn : u.path.length ≤ 10000
  pt : ∀ t ∈ u.path, t.length ≤ 1000000
  sch : u.sch.length ≤ 1000000
  usr : u.usr.length ≤ 1000000
  pas : u.pas.length ≤ 1000000
  opq : u.opq.length ≤ 1000000
  qry : u.qry.length ≤ 1000000
  frg : u.frg.length ≤ 1000000

theorem ready_at (l : T) (hl : l.length ≤ 1000000) (set : Int) (b : Bool) (hb : Pct.readyB set l = b) (w : World) :
    Calls Tryz.prog 82 #[.string (tb l), .int .i64 set] w fun e w' => e = .returned (.bool b) ∧ Below w.heap.size w w' := by
  subst hb
  exact Pct.ready_any (tb l) (by rw [tb_size]; unfold maxLen; omega) set w

theorem empty_tb (l : T) : (tb l).toList.isEmpty = l.isEmpty := by rw [Path.tl]; rfl

theorem told_any (l : T) (hl : l.length ≤ 1000000) (has : Bool) (set : Int) (b : Bool) (hb : (Pct.readyB set l && (has || l.isEmpty)) = b) (w : World) :
    Calls Tryz.prog 53 #[.string (tb l), .bool has, .int .i64 set] w fun e w' => e = .returned (.bool b) ∧ Below w.heap.size w w' := by
  subst hb
  obtain ⟨r, hr⟩ : ∃ r, Pct.readyB set l = r := ⟨_, rfl⟩
  have C := Lib.hid (fun u => ready_at l hl set r hr u)
  rw [hr]
  have q0 := empty_tb l
  generalize l.isEmpty = em at q0 ⊢
  generalize tb l = s at q0 C ⊢
  clear hr
  cases r
  · go_enter Tryz.func53, Tryz.ntmps53
    go_wp2_with fail
    refine (C.out _).mono ?_
    rintro e u1 ⟨rfl, hB1⟩
    go_wp2
    go_ret
    exact ⟨rfl, hB1⟩
  · cases has
    · cases em
      · go_enter Tryz.func53, Tryz.ntmps53
        go_wp2_with fail
        refine (C.out _).mono ?_
        rintro e u1 ⟨rfl, hB1⟩
        go_wp2
        go_ret
        exact ⟨rfl, hB1⟩
      · go_enter Tryz.func53, Tryz.ntmps53
        go_wp2_with fail
        refine (C.out _).mono ?_
        rintro e u1 ⟨rfl, hB1⟩
        go_wp2
        go_ret
        exact ⟨rfl, hB1⟩
    · go_enter Tryz.func53, Tryz.ntmps53
      go_wp2_with fail
      refine (C.out _).mono ?_
      rintro e u1 ⟨rfl, hB1⟩
      go_wp2
      go_ret
      exact ⟨rfl, hB1⟩

set_option maxHeartbeats 2000000 in
theorem mayPort_any (u : U) (pv : Value) (h8 : u.h.p.length = 8) (b : Bool) (hb : mayPort u = b) (w : World) :
    Calls Tryz.prog 85 #[.agg (cU u pv)] w fun e w' => e = .returned (.bool b) ∧ Below w.heap.size w w' := by
  have HB0 := Lib.hid (show Below w.heap.size w (w.alloc (.cells (cU u pv) 27)) from (Below.refl _ w).alloc (Nat.le_refl _) _)
  have c14 := (UrlAt.new w u pv).cell 14
  rw [(cU_at u pv h8).2.2.2.2.1] at c14
  have c0 := (UrlAt.new w u pv).cell 0
  rw [(cU_at u pv h8).1] at c0
  have WW := Lib.hid (fun v => web_any (tb u.sch) (webI u.sch) rfl v)
  unfold mayPort at hb
  subst hb
  generalize webI u.sch = z at WW ⊢
  generalize u.port = p at c14 ⊢
  generalize tb u.sch = s at WW c0
  generalize cU u pv = C at c14 c0 HB0 ⊢
  clear h8
  have q3 : ((p != z) : Bool) = !decide (p = z) := by by_cases h : p = z <;> simp [h]
  rw [← q3]
  clear q3
  cases q1 : decide (-1 ≤ p)
  · go_enter Tryz.func85, Tryz.ntmps85
    go_wp2_with fail
    go_quiet ((go_at_call 39; exact Calls.quiet_of_same ((WW.out _).mono fun e w' h => ⟨h.1, h.2.symm⟩)))
    go_wp2
    go_ret
    exact ⟨rfl, (below_drew HB0.out _)⟩
  · cases q2 : decide (p ≤ 65535)
    · go_enter Tryz.func85, Tryz.ntmps85
      go_wp2_with fail
      go_quiet ((go_at_call 39; exact Calls.quiet_of_same ((WW.out _).mono fun e w' h => ⟨h.1, h.2.symm⟩)))
      go_wp2
      go_ret
      exact ⟨rfl, (below_drew HB0.out _)⟩
    · cases q3 : (p != z)
      · go_enter Tryz.func85, Tryz.ntmps85
        go_wp2_with fail
        go_quiet ((go_at_call 39; exact Calls.quiet_of_same ((WW.out _).mono fun e w' h => ⟨h.1, h.2.symm⟩)))
        go_wp2
        go_ret
        exact ⟨rfl, (below_drew HB0.out _)⟩
      · go_enter Tryz.func85, Tryz.ntmps85
        go_wp2_with fail
        go_quiet ((go_at_call 39; exact Calls.quiet_of_same ((WW.out _).mono fun e w' h => ⟨h.1, h.2.symm⟩)))
        go_wp2
        go_ret
        exact ⟨rfl, (below_drew HB0.out _)⟩

theorem host_at (u : U) (hf : Fit u) (b : Bool) (hb : mayH u.h = b) (m : Int) (w : World) (hm : Six.At m w) : Calls Tryz.prog 83 #[.agg u.h.cells] w fun e w' => e = .returned (.bool b) ∧ Below w.heap.size w w' :=
  Host.may_any u.h hf.h8 hf.hs b hb m w hm

theorem path_at (u : U) (hf : Fit u) (pv : Value) (b : Bool) (hb : Path.mayP u.path = b) (m : Int) (w : World) (hm : Six.At m w) (h : Strs w pv u.path) : Calls Tryz.prog 84 #[pv] w fun e w' => e = .returned (.bool b) ∧ Below w.heap.size w w' := by
  subst hb
  exact Path.may_any pv u.path (by have := hf.pn; omega) hf.pt m w hm.max h

set_option maxHeartbeats 8000000 in
theorem mayWeb_any (u : U) (pv : Value) (hf : Fit u) (b : Bool) (hb : mayWeb u = b) (m : Int) (w : World) (hm : Six.At m w) (hs : Strs w pv u.path) :
    Calls Tryz.prog 55 #[.agg (cU u pv)] w fun e w' => e = .returned (.bool b) ∧ Below w.heap.size w w' := by
  have h8 := hf.h8
  have HB0 := Lib.hid (show Below w.heap.size w (w.alloc (.cells (cU u pv) 27)) from (Below.refl _ w).alloc (Nat.le_refl _) _)
  have HU := Lib.hid (UrlAt.new w u pv)
  have HM := Lib.hid (hm.later HB0.out)
  have HS := Lib.hid (hs.later HB0.out)
  have CH := Lib.hid (fun v hv => host_at u hf _ rfl m v hv)
  have C1 := Lib.hid (fun v => ready_at u.usr hf.usr 4 _ rfl v)
  have C2 := Lib.hid (fun v => ready_at u.pas hf.pas 4 _ rfl v)
  have CP := Lib.hid (fun v hv hs => path_at u hf pv _ rfl m v hv hs)
  have CQ := Lib.hid (fun v => mayPort_any u pv h8 _ rfl v)
  have q5 := empty_tb u.opq
  unfold mayWeb at hb
  subst hb
  generalize mayH u.h = b1 at CH ⊢
  generalize Pct.readyB 4 u.usr = b2 at C1 ⊢
  generalize Pct.readyB 4 u.pas = b3 at C2 ⊢
  generalize Path.mayP u.path = b4 at CP ⊢
  generalize u.opq.isEmpty = b5 at q5 ⊢
  generalize mayPort u = b6 at CQ ⊢
  clear hf hm hs
  go_enter Tryz.func55, Tryz.ntmps55
  go_wp2_with ((with_reducible refine wp_load24u (o := ⟨some 4, .load 24 (.tmp 3), _, _, _, _⟩) ?_ (.tmp 3) ?_ w.heap.size ?_ u pv h8 HU.out ?_); (· rfl); (· rfl); (· rfl))
  generalize w.alloc (.cells (cU u pv) 27) = W at HB0 HU HM HS ⊢
  refine (CH.out _ HM.out).mono ?_
  rintro e u1 ⟨rfl, hB1⟩
  cases b1
  · go_wp2
    go_ret
    exact ⟨rfl, Ascii.below2 HB0.out hB1⟩
  have HU1 := Lib.hid (HU.out.later hB1)
  have HM1 := Lib.hid (HM.out.later hB1)
  have HS1 := Lib.hid (HS.out.later hB1)
  have HB1 := Lib.hid (Ascii.below2 HB0.out hB1)
  clear HU HM HS HB0 hB1 CH
  have c1 := HU1.out.cell 1
  rw [(cU_at u pv h8).2.1] at c1
  go_wp2_with fail
  refine (C1.out _).mono ?_
  rintro e u2 ⟨rfl, hB2⟩
  cases b2
  · go_wp2
    go_ret
    exact ⟨rfl, Ascii.below2 HB1.out hB2⟩
  have HU2 := Lib.hid (HU1.out.later hB2)
  have HM2 := Lib.hid (HM1.out.later hB2)
  have HS2 := Lib.hid (HS1.out.later hB2)
  have HB2 := Lib.hid (Ascii.below2 HB1.out hB2)
  clear HU1 HM1 HS1 HB1 hB2 C1 c1
  have c2 := HU2.out.cell 2
  rw [(cU_at u pv h8).2.2.1] at c2
  go_wp2_with fail
  refine (C2.out _).mono ?_
  rintro e u3 ⟨rfl, hB3⟩
  cases b3
  · go_wp2
    go_ret
    exact ⟨rfl, Ascii.below2 HB2.out hB3⟩
  have HU3 := Lib.hid (HU2.out.later hB3)
  have HM3 := Lib.hid (HM2.out.later hB3)
  have HS3 := Lib.hid (HS2.out.later hB3)
  have HB3 := Lib.hid (Ascii.below2 HB2.out hB3)
  clear HU2 HM2 HS2 HB2 hB3 C2 c2
  have c15 := HU3.out.cell 15
  rw [(cU_at u pv h8).2.2.2.2.2.1] at c15
  go_wp2_with fail
  refine (CP.out _ HM3.out HS3.out).mono ?_
  rintro e u4 ⟨rfl, hB4⟩
  cases b4
  · go_wp2
    go_ret
    exact ⟨rfl, Ascii.below2 HB3.out hB4⟩
  have HU4 := Lib.hid (HU3.out.later hB4)
  have HB4 := Lib.hid (Ascii.below2 HB3.out hB4)
  clear HU3 HM3 HS3 HB3 hB4 CP c15
  have c16 := HU4.out.cell 16
  rw [(cU_at u pv h8).2.2.2.2.2.2.1] at c16
  cases b5
  · go_wp2
    go_ret
    exact ⟨rfl, HB4.out⟩
  go_wp2_with ((with_reducible refine wp_load27 (o := ⟨some 27, .load 27 (.tmp 1), _, _, _, _⟩) ?_ (.tmp 1) ?_ w.heap.size ?_ u pv h8 HU4.out ?_); (· rfl); (· rfl); (· rfl))
  refine (CQ.out _).mono ?_
  rintro e u5 ⟨rfl, hB5⟩
  go_wp2
  go_ret
  exact ⟨rfl, Ascii.below2 HB4.out hB5⟩

theorem in1_all : ∀ n : Fin 256, Pct.inB 1 (UInt8.ofNat n.val) = false → n.val < 128 := by decide +kernel

theorem in1_at (c : UInt8) (h : Pct.inB 1 c = false) : c.toNat < 128 := by
  have := in1_all ⟨c.toNat, c.toNat_lt⟩
  simp only [UInt8.ofNat_toNat] at this
  exact this h

theorem any_two (l : T) (x y : UInt8) : Lib.containsAny l [x, y] = (l.contains x || l.contains y) := by
  unfold Lib.containsAny
  induction l with
  | nil => rfl
  | cons a r ih =>
    have hg := Lib.indexAny_ge [x, y] r
    rw [Lib.indexAny]
    by_cases h : a = x ∨ a = y
    · rw [if_pos (by rcases h with rfl | rfl <;> simp)]
      rcases h with rfl | rfl <;> simp
    · rw [if_neg (by simp only [List.contains_cons, List.contains_nil, Bool.or_false, Bool.or_eq_true, beq_iff_eq]; exact h)]
      have hx : (x == a) = false := by simpa using fun e : x = a => h (.inl e.symm)
      have hy : (y == a) = false := by simpa using fun e : y = a => h (.inr e.symm)
      have hx' : (a :: r).contains x = r.contains x := by rw [List.contains_cons, hx, Bool.false_or]
      have hy' : (a :: r).contains y = r.contains y := by rw [List.contains_cons, hy, Bool.false_or]
      rw [hx', hy', ← ih]
      by_cases h1 : Lib.indexAny r [x, y] = -1
      · rw [h1]; rfl
      · rw [if_neg (by simpa using h1)]
        simp only [decide_eq_decide]
        omega

theorem any_at (l : T) (hl : l.length ≤ 1000000) (hr : Pct.readyB 1 l = true) (b : Bool) (hb : (!l.contains 63 && !l.contains 35) = b) (w : World) :
    Calls Tryz.prog 86 #[.string (tb l), .string ⟨#[63, 35]⟩] w fun e w' => e = .returned (.bool (!b)) ∧ Below w.heap.size w w' := by
  subst hb
  have h1 := Tryz.strings_ContainsAny (fun w => by kernel_rfl) (tb l) ⟨#[63, 35]⟩ w (by rw [tb_size]; omega) (by decide) (fun j c hc => by
    have hm : c ∈ l := List.mem_of_getElem? hc
    have := List.all_eq_true.1 hr c hm
    exact in1_at c (by simpa using this)) (fun j c hc => by
    have hm : c ∈ ([63, 35] : T) := List.mem_of_getElem? hc
    exact (by decide : ∀ c ∈ ([63, 35] : T), c.toNat < 128) c hm)
  refine h1.mono fun e w' h => ⟨?_, h.2⟩
  rw [h.1, show (⟨#[63, 35]⟩ : ByteArray).data.toList = [63, 35] from rfl, tb_list, any_two]
  cases l.contains 63 <;> cases l.contains 35 <;> rfl

set_option maxHeartbeats 8000000 in
theorem mayOpq_any (u : U) (pv : Value) (hf : Fit u) (b : Bool) (hb : mayOpq u = b) (w : World) (hs : Strs w pv u.path) :
    Calls Tryz.prog 57 #[.agg (cU u pv)] w fun e w' => e = .returned (.bool b) ∧ Below w.heap.size w w' := by
  have h8 := hf.h8
  obtain ⟨pa, pc, rfl, _⟩ := hs
  have HB0 := Lib.hid (show Below w.heap.size w (w.alloc (.cells (cU u (.slice pa u.path.length pc)) 27)) from (Below.refl _ w).alloc (Nat.le_refl _) _)
  have HU := Lib.hid (UrlAt.new w u (.slice pa u.path.length pc))
  have CR := Lib.hid (fun v => ready_at u.opq hf.opq 1 _ rfl v)
  have CA := Lib.hid (fun (hr : Pct.readyB 1 u.opq = true) v => any_at u.opq hf.opq hr _ rfl v)
  have heq : ∀ v, (Op.equalIn 10000 24 (.agg u.h.cells) (.agg #[.int .i64 0, .string ⟨#[]⟩, .int .i64 0, .int .i64 0, .int .i64 0, .int .i64 0, .int .i64 0, .int .i64 0, .int .i64 0, .int .i64 0, .int .i64 0])).run Tryz.prog v = .ok (Host.sameH u.h none0) v := fun v => Host.eq24 u.h none0 h8 rfl _ rfl v
  have q4 := empty_tb u.usr
  have q5 := empty_tb u.pas
  have q6 : ((u.path.length : Int) == 0) = u.path.isEmpty := by cases u.path <;> simp; omega
  have q3 : ((u.port : Int) == -1) = decide (u.port = -1) := by by_cases h : u.port = -1 <;> simp [h]
  unfold mayOpq at hb
  subst hb
  generalize Pct.readyB 1 u.opq = b1 at CR CA ⊢
  generalize (!u.opq.contains 63 && !u.opq.contains 35) = b2 at CA ⊢
  generalize decide (u.port = -1) = b3 at q3 ⊢
  generalize Host.sameH u.h none0 = b4 at heq ⊢
  generalize u.usr.isEmpty = b5 at q4 ⊢
  generalize u.pas.isEmpty = b6 at q5 ⊢
  generalize u.path.isEmpty = b7 at q6 ⊢
  clear hf
  have c16 := HU.out.cell 16
  rw [(cU_at u _ h8).2.2.2.2.2.2.1] at c16
  go_enter Tryz.func57, Tryz.ntmps57
  go_wp2_with fail
  generalize w.alloc (.cells (cU u (.slice pa u.path.length pc)) 27) = W at HB0 HU c16 ⊢
  refine (CR.out _).mono ?_
  rintro e u1 ⟨rfl, hB1⟩
  cases b1
  · go_wp2
    go_ret
    exact ⟨rfl, Ascii.below2 HB0.out hB1⟩
  have HU1 := Lib.hid (HU.out.later hB1)
  have HB1 := Lib.hid (Ascii.below2 HB0.out hB1)
  clear HU HB0 hB1 CR c16
  have c16 := HU1.out.cell 16
  rw [(cU_at u _ h8).2.2.2.2.2.2.1] at c16
  go_wp2_with fail
  refine (CA.out trivial _).mono ?_
  rintro e u2 ⟨rfl, hB2⟩
  cases b2
  · go_wp2
    go_ret
    exact ⟨rfl, Ascii.below2 HB1.out hB2⟩
  have HU2 := Lib.hid (HU1.out.later hB2)
  have HB2 := Lib.hid (Ascii.below2 HB1.out hB2)
  clear HU1 HB1 hB2 CA c16
  have c14 := HU2.out.cell 14
  rw [(cU_at u _ h8).2.2.2.2.1] at c14
  have c1 := HU2.out.cell 1
  rw [(cU_at u _ h8).2.1] at c1
  have c2 := HU2.out.cell 2
  rw [(cU_at u _ h8).2.2.1] at c2
  have c15 := HU2.out.cell 15
  rw [(cU_at u _ h8).2.2.2.2.2.1] at c15
  cases b3
  · go_wp2
    go_ret
    exact ⟨rfl, HB2.out⟩
  cases b4
  · go_wp2_with ((with_reducible refine wp_load24u (o := ⟨some 19, .load 24 (.tmp 18), _, _, _, _⟩) ?_ (.tmp 18) ?_ w.heap.size ?_ u _ h8 HU2.out ?_); (· rfl); (· rfl); (· rfl))
    go_ret
    exact ⟨rfl, HB2.out⟩
  cases b5
  · go_wp2_with ((with_reducible refine wp_load24u (o := ⟨some 19, .load 24 (.tmp 18), _, _, _, _⟩) ?_ (.tmp 18) ?_ w.heap.size ?_ u _ h8 HU2.out ?_); (· rfl); (· rfl); (· rfl))
    go_ret
    exact ⟨rfl, HB2.out⟩
  cases b6
  · go_wp2_with ((with_reducible refine wp_load24u (o := ⟨some 19, .load 24 (.tmp 18), _, _, _, _⟩) ?_ (.tmp 18) ?_ w.heap.size ?_ u _ h8 HU2.out ?_); (· rfl); (· rfl); (· rfl))
    go_ret
    exact ⟨rfl, HB2.out⟩
  cases b7
  · go_wp2_with ((with_reducible refine wp_load24u (o := ⟨some 19, .load 24 (.tmp 18), _, _, _, _⟩) ?_ (.tmp 18) ?_ w.heap.size ?_ u _ h8 HU2.out ?_); (· rfl); (· rfl); (· rfl))
    go_ret
    exact ⟨rfl, HB2.out⟩
  · go_wp2_with ((with_reducible refine wp_load24u (o := ⟨some 19, .load 24 (.tmp 18), _, _, _, _⟩) ?_ (.tmp 18) ?_ w.heap.size ?_ u _ h8 HU2.out ?_); (· rfl); (· rfl); (· rfl))
    go_ret
    exact ⟨rfl, HB2.out⟩

set_option maxHeartbeats 8000000 in
theorem may_any (u : U) (pv : Value) (hf : Fit u) (b : Bool) (hb : mayU u = b) (m : Int) (w : World) (hm : Six.At m w) (hs : Strs w pv u.path) :
    Calls Tryz.prog 38 #[.agg (cU u pv)] w fun e w' => e = .returned (.bool b) ∧ Below w.heap.size w w' := by
  have h8 := hf.h8
  have HB0 := Lib.hid (show Below w.heap.size w (w.alloc (.cells (cU u pv) 27)) from (Below.refl _ w).alloc (Nat.le_refl _) _)
  have HU := Lib.hid (UrlAt.new w u pv)
  have HM := Lib.hid (hm.later HB0.out)
  have HS := Lib.hid (hs.later HB0.out)
  have C1 := Lib.hid (fun v => told_any u.qry hf.qry u.hq 2 _ rfl v)
  have C2 := Lib.hid (fun v => told_any u.frg hf.frg u.hf 1 _ rfl v)
  have CW := Lib.hid (fun v => isWeb_any (tb u.sch) _ rfl v)
  have CO := Lib.hid (fun v => opq_any (tb u.sch) _ rfl v)
  have CMW := Lib.hid (fun v hv hs => mayWeb_any u pv hf _ rfl m v hv hs)
  have CMO := Lib.hid (fun v hs => mayOpq_any u pv hf _ rfl v hs)
  have hR : mayU u = ((Pct.readyB 2 u.qry && (u.hq || u.qry.isEmpty)) && ((Pct.readyB 1 u.frg && (u.hf || u.frg.isEmpty)) && (if (!decide (webI u.sch = 0)) then mayWeb u else (opB u.sch && mayOpq u)))) := by
    unfold mayU tailB
    rw [Bool.and_assoc]
    by_cases h : webI u.sch = 0
    · rw [if_pos h, h]; rfl
    · rw [if_neg h, decide_eq_false h]; rfl
  rw [hR] at hb
  rw [tb_list] at CW CO
  subst hb
  generalize (Pct.readyB 2 u.qry && (u.hq || u.qry.isEmpty)) = b1 at C1 ⊢
  generalize (Pct.readyB 1 u.frg && (u.hf || u.frg.isEmpty)) = b2 at C2 ⊢
  generalize (!decide (webI u.sch = 0)) = b3 at CW ⊢
  generalize opB u.sch = b4 at CO ⊢
  generalize mayWeb u = b5 at CMW ⊢
  generalize mayOpq u = b6 at CMO ⊢
  obtain ⟨X, hX⟩ : ∃ X, (if b3 then b5 else (b4 && b6)) = X := ⟨_, rfl⟩
  rw [hX]
  have HX := Lib.hid hX
  clear hf hm hs hR hX
  have c17 := HU.out.cell 17
  rw [(cU_at u _ h8).2.2.2.2.2.2.2.1] at c17
  have c19 := HU.out.cell 19
  rw [(cU_at u _ h8).2.2.2.2.2.2.2.2.2.1] at c19
  go_enter Tryz.func38, Tryz.ntmps38
  go_wp2_with fail
  generalize w.alloc (.cells (cU u pv) 27) = W at HB0 HU HM HS c17 c19 ⊢
  refine (C1.out _).mono ?_
  rintro e u1 ⟨rfl, hB1⟩
  cases b1
  · go_wp2
    go_ret
    exact ⟨rfl, Ascii.below2 HB0.out hB1⟩
  have HU1 := Lib.hid (HU.out.later hB1)
  have HM1 := Lib.hid (HM.out.later hB1)
  have HS1 := Lib.hid (HS.out.later hB1)
  have HB1 := Lib.hid (Ascii.below2 HB0.out hB1)
  clear HU HM HS HB0 hB1 C1 c17 c19
  have c18 := HU1.out.cell 18
  rw [(cU_at u _ h8).2.2.2.2.2.2.2.2.1] at c18
  have c20 := HU1.out.cell 20
  rw [(cU_at u _ h8).2.2.2.2.2.2.2.2.2.2] at c20
  go_wp2_with fail
  refine (C2.out _).mono ?_
  rintro e u2 ⟨rfl, hB2⟩
  cases b2
  · go_wp2
    go_ret
    exact ⟨rfl, Ascii.below2 HB1.out hB2⟩
  have HU2 := Lib.hid (HU1.out.later hB2)
  have HM2 := Lib.hid (HM1.out.later hB2)
  have HS2 := Lib.hid (HS1.out.later hB2)
  have HB2 := Lib.hid (Ascii.below2 HB1.out hB2)
  clear HU1 HM1 HS1 HB1 hB2 C2 c18 c20
  have c0 := HU2.out.cell 0
  rw [(cU_at u _ h8).1] at c0
  go_wp2_with fail
  refine (CW.out _).mono ?_
  rintro e u3 ⟨rfl, rfl⟩
  cases b3
  · go_wp2_with fail
    refine (CO.out _).mono ?_
    rintro e u3 ⟨rfl, rfl⟩
    cases b4
    · go_wp2
      go_ret
      exact ⟨by rw [← HX.out]; rfl, HB2.out⟩
    go_wp2_with ((with_reducible refine wp_load27 (o := ⟨some 27, .load 27 (.tmp 1), _, _, _, _⟩) ?_ (.tmp 1) ?_ w.heap.size ?_ u pv h8 HU2.out ?_); (· rfl); (· rfl); (· rfl))
    refine (CMO.out _ HS2.out).mono ?_
    rintro e u4 ⟨rfl, hB4⟩
    go_wp2
    go_ret
    exact ⟨by rw [← HX.out]; rfl, Ascii.below2 HB2.out hB4⟩
  · go_wp2_with ((with_reducible refine wp_load27 (o := ⟨some 21, .load 27 (.tmp 1), _, _, _, _⟩) ?_ (.tmp 1) ?_ w.heap.size ?_ u pv h8 HU2.out ?_); (· rfl); (· rfl); (· rfl))
    refine (CMW.out _ HM2.out HS2.out).mono ?_
    rintro e u4 ⟨rfl, hB4⟩
    go_wp2
    go_ret
    exact ⟨by rw [← HX.out]; rfl, Ascii.below2 HB2.out hB4⟩



set_option maxRecDepth 100000

def le3 (n : Nat) : Bool := decide ((n : Int) ≤ 300)

def fewU (u : U) : Bool := Path.fewB u.path && (le3 u.sch.length && (le3 u.usr.length && (le3 u.pas.length && (le3 u.h.s.size && (le3 u.opq.length && (le3 u.qry.length && le3 u.frg.length))))))

theorem le3_iff (n : Nat) : le3 n = true ↔ n ≤ 300 := by unfold le3; rw [decide_eq_true_eq]; omega

theorem few_fit (u : U) (h8 : u.h.p.length = 8) (h : fewU u = true) : Fit u := by
  unfold fewU at h
  simp only [Bool.and_eq_true, le3_iff] at h
  obtain ⟨h0, h1, h2, h3, h4, h5, h6, h7⟩ := h
  obtain ⟨p1, p2⟩ := (Path.few_iff _).1 h0
  exact ⟨h8, by omega, by omega, fun t ht => by have := p2 t ht; omega, by omega, by omega, by omega, by omega, by omega, by omega⟩

set_option maxHeartbeats 8000000 in
theorem few_any (u : U) (pv : Value) (h8 : u.h.p.length = 8) (b : Bool) (hb : fewU u = b) (w : World) (hs : Strs w pv u.path) :
    Calls Tryz.prog 10 #[.agg (cU u pv)] w fun e w' => e = .returned (.bool b) ∧ Below w.heap.size w w' := by
  have HB0 := Lib.hid (show Below w.heap.size w (w.alloc (.cells (cU u pv) 27)) from (Below.refl _ w).alloc (Nat.le_refl _) _)
  have HU := Lib.hid (UrlAt.new w u pv)
  have CF := Lib.hid (fun v h => Path.few_any pv u.path v h)
  have HS := Lib.hid (hs.later HB0.out)
  have c15 := HU.out.cell 15
  rw [(cU_at u pv h8).2.2.2.2.2.1] at c15
  have c0 := HU.out.cell 0
  rw [(cU_at u pv h8).1] at c0
  have c1 := HU.out.cell 1
  rw [(cU_at u pv h8).2.1] at c1
  have c2 := HU.out.cell 2
  rw [(cU_at u pv h8).2.2.1] at c2
  have c4 := HU.out.cell 4
  rw [(cU_at u pv h8).2.2.2.1] at c4
  have c16 := HU.out.cell 16
  rw [(cU_at u pv h8).2.2.2.2.2.2.1] at c16
  have c17 := HU.out.cell 17
  rw [(cU_at u pv h8).2.2.2.2.2.2.2.1] at c17
  have c18 := HU.out.cell 18
  rw [(cU_at u pv h8).2.2.2.2.2.2.2.2.1] at c18
  unfold fewU at hb
  subst hb
  rw [← tb_size u.sch, ← tb_size u.usr, ← tb_size u.pas, ← tb_size u.opq, ← tb_size u.qry, ← tb_size u.frg]
  generalize tb u.sch = s0 at c0 ⊢
  generalize tb u.usr = s1 at c1 ⊢
  generalize tb u.pas = s2 at c2 ⊢
  generalize u.h.s = s4 at c4 ⊢
  generalize tb u.opq = s16 at c16 ⊢
  generalize tb u.qry = s17 at c17 ⊢
  generalize tb u.frg = s18 at c18 ⊢
  unfold le3
  generalize Path.fewB u.path = b0 at CF ⊢
  clear hs h8
  go_enter Tryz.func10, Tryz.ntmps10
  go_wp2_with fail
  generalize w.alloc (.cells (cU u pv) 27) = W at HB0 HU HS c15 c0 c1 c2 c4 c16 c17 c18 ⊢
  refine (CF.out _ HS.out).mono ?_
  rintro e u1 ⟨rfl, rfl⟩
  clear CF HU HS c15
  cases b0
  · go_wp2
    go_ret
    exact ⟨by first | rfl | (simp only [*]; rfl) | simp [*], HB0.out⟩
  cases q0 : decide ((s0.size : Int) ≤ 300)
  · go_wp2
    go_ret
    exact ⟨by first | rfl | (simp only [*]; rfl) | simp [*], HB0.out⟩
  cases q1 : decide ((s1.size : Int) ≤ 300)
  · go_wp2
    go_ret
    exact ⟨by first | rfl | (simp only [*]; rfl) | simp [*], HB0.out⟩
  cases q2 : decide ((s2.size : Int) ≤ 300)
  · go_wp2
    go_ret
    exact ⟨by first | rfl | (simp only [*]; rfl) | simp [*], HB0.out⟩
  cases q4 : decide ((s4.size : Int) ≤ 300)
  · go_wp2
    go_ret
    exact ⟨by first | rfl | (simp only [*]; rfl) | simp [*], HB0.out⟩
  cases q5 : decide ((s16.size : Int) ≤ 300)
  · go_wp2
    go_ret
    exact ⟨by first | rfl | (simp only [*]; rfl) | simp [*], HB0.out⟩
  cases q6 : decide ((s17.size : Int) ≤ 300)
  · go_wp2
    go_ret
    exact ⟨by first | rfl | (simp only [*]; rfl) | simp [*], HB0.out⟩
  cases q7 : decide ((s18.size : Int) ≤ 300)
  · go_wp2
    go_ret
    exact ⟨by first | rfl | (simp only [*]; rfl) | simp [*], HB0.out⟩
  · go_wp2
    go_ret
    exact ⟨by first | rfl | (simp only [*]; rfl) | simp [*], HB0.out⟩

end Go.Proofs.YtlkikfdbjpjpaaaGreatDoor.Url

/-
  url's Parse: the deferred function that recovers, and Parse whole.
-/
import Derived.Test.YtfdhhjigpboieaaGreatDoorUParse
namespace Go.Proofs.YtfdhhjigpboieaaGreatDoor.Url
open Go.RowKit Go.Shelf
open Host (H HostAt none0 okH)
open Six (arr RowAt zero8)
open Path (Strs)
set_option linter.unusedSimpArgs false
set_option linter.unusedVariables false
set_option maxRecDepth 100000

theorem ret_two {fn : Func} {d c : Tmp} (h : fn.results = #[.cell d 27, .tmp c]) {tmps : Array Value} {W : World} (g : Nat) (u : U) (pv : Value) (h8 : u.h.p.length = 8) (b : Value) (hp : tmps.getD d undef = .pointer (some ⟨g, 0, none⟩)) (hb : tmps.getD c undef = b) (hr : UrlAt W g u pv) :
    (results fn tmps).run Tryz.prog W = .ok (.tuple #[.agg (cU u pv), b]) W := by
  have hp' : tmps[d]?.getD undef = .pointer (some ⟨g, 0, none⟩) := by simpa using hp
  have hb' : tmps[c]?.getD undef = b := by simpa using hb
  simp [results, h, hp', hb', asAddr, hr.load h8]
theorem is51 (w : World) : (Instr.typeAssert (.iface 51 (.agg #[])) 20 51 false).run Tryz.prog w = .ok (.agg #[]) w := by kernel_rfl
set_option maxHeartbeats 4000000 in
theorem answer_any (w : World) : Calls Tryz.prog 32 #[.agg #[]] w fun e w' => e = .returned (.tuple #[.agg (cU none1 (.slice none 0 0)), .bool false]) ∧ Below w.heap.size w w' := by
  have hs1 : (w.alloc (.cells #[] 51)).heap.size = w.heap.size + 1 := Array.size_push _
  have hB1 := (Below.refl w.heap.size w).alloc (Nat.le_refl _) (.cells #[] 51)
  have HB := Lib.hid (hB1.alloc (Nat.le_trans (Nat.le_succ _) (Nat.le_of_eq hs1.symm)) (.cells (cU none1 (.slice none 0 0)) 27))
  have hnew : UrlAt ((w.alloc (.cells #[] 51)).alloc (.cells #[.string ⟨#[]⟩, .string ⟨#[]⟩, .string ⟨#[]⟩, .int .i64 0, .string ⟨#[]⟩, .int .i64 0, .int .i64 0, .int .i64 0, .int .i64 0, .int .i64 0, .int .i64 0, .int .i64 0, .int .i64 0, .int .i64 0, .int .i64 0, .slice none 0 0, .string ⟨#[]⟩, .string ⟨#[]⟩, .string ⟨#[]⟩, .bool false, .bool false] 27)) (w.heap.size + 1) none1 (.slice none 0 0) := by
    rw [← hs1]; exact UrlAt.new (w.alloc (.cells #[] 51)) none1 (.slice none 0 0)
  clear hs1 hB1
  go_enter Tryz.func32, Tryz.ntmps32
  go_wp2_with ((with_reducible refine wp_store27 (o := ⟨none, .store 27 (.tmp 2) (.tmp 4), _, _, _, _⟩) ?_ (.tmp 2) (.tmp 4) ?_ (w.heap.size + 1) ?_ none1 (.slice none 0 0) ?_ rfl rfl none1 (.slice none 0 0) rfl hnew ?_); (· rfl); (· rfl); (· rfl); (· exact congrArg Value.agg zero_url))
  have hfin := hnew.row none1 (.slice none 0 0)
  exact bodyPost_ret (ret_two rfl (w.heap.size + 1) none1 (.slice none 0 0) rfl (.bool false) rfl rfl hfin) rfl ⟨rfl, below_row HB.out (Nat.le_succ _) _⟩
/-- Block k is this Boolean. -/
def BoolAt (W : World) (k : Nat) (b : Bool) : Prop := W.heap[k]? = some (.cells #[.bool b] 4 (0, 0))
theorem BoolAt.lt {w : World} {k : Nat} {b : Bool} (a : BoolAt w k b) : k < w.heap.size := (Array.getElem?_eq_some_iff.1 a).1
theorem BoolAt.new (w : World) (b : Bool) : BoolAt (w.alloc (.cells #[.bool b] 4)) w.heap.size b := heap_alloc_new w _
theorem BoolAt.later {w v : World} {k : Nat} {b : Bool} (a : BoolAt w k b) (hB : Below w.heap.size w v) : BoolAt v k b := (hB.block k a.lt).trans a
theorem BoolAt.cell {w : World} {k : Nat} {b : Bool} (a : BoolAt w k b) : w.cell? ⟨k, 0, none⟩ = some (.bool b) := cell_of_row w k 0 #[.bool b] 4 (0, 0) a
theorem BoolAt.free {w : World} {k : Nat} {b : Bool} (a : BoolAt w k b) : w.frozen? ⟨k, 0, none⟩ = false := by
  unfold World.frozen?
  simp only
  rw [show w.heap[k]? = _ from a]
  simp
theorem BoolAt.other {w : World} {k : Nat} {b : Bool} (a : BoolAt w k b) {g : Nat} (h : g ≠ k) (cs : Array Value) : BoolAt (w.setRow g cs) k b := (setRow_other w g cs h).trans a
theorem BoolAt.set {w : World} {k : Nat} {b : Bool} (a : BoolAt w k b) (c : Bool) : BoolAt (w.setCell ⟨k, 0, none⟩ (.bool c)) k c := heap_set a 0 (.bool c)
theorem set_other (w : World) (k j : Nat) (v : Value) {g : Nat} (h : k ≠ g) : (w.setCell ⟨k, j, none⟩ v).heap[g]? = w.heap[g]? := by simp [World.setCell, Array.getElem?_modify, h]
theorem catch_in (g k : Nat) (u0 : U) (p0 : Value) (h8 : u0.h.p.length = 8) (b0 : Bool) (older : List PanicEntry) (w : World) (hu : UrlAt w g u0 p0) (hk : BoolAt w k b0) (hgk : g ≠ k) :
    CallsD Tryz.prog 31 #[.pointer (some ⟨g, 0, none⟩), .pointer (some ⟨k, 0, none⟩)] (.panicking ({ v := .iface 51 (.agg #[]), recovered := false } :: older)) w fun e u' w' =>
      e = .returned (.tuple #[]) ∧ u' = .panicking ({ v := .iface 51 (.agg #[]), recovered := true } :: older) ∧ UrlAt w' g none1 (.slice none 0 0) ∧ BoolAt w' k false ∧ ∀ B, B ≤ g → B ≤ k → B ≤ w.heap.size → Below B w w' := by
  refine callsD_of_wpS Tryz.func31 rfl fun c₀ cs hmode => ?_
  apply wpS_seq
  apply wpS_region
  simp [wpOpsS, go_sem, recoverD, hmode, Tryz.ntmps31, Exit.thenS]
  apply wpS_seq
  apply wpS_region
  simp [wpOpsS, go_sem, recoverD, hmode, Tryz.ntmps31, Exit.thenS]
  refine wpS_cond (t := true) (by simp [Act.eval, Array.replicate]) ?_
  simp only [if_true]
  refine wpS_of_wp ?_
  simp only [Array.replicate_succ, Array.replicate_zero, List.push_toArray, List.append_toArray, List.nil_append, List.cons_append, List.setIfInBounds_toArray, List.set_cons_succ, List.set_cons_zero]
  have hassert := is51 w
  go_wp2_with fail
  refine (answer_any w).mono ?_
  rintro e w1 ⟨rfl, hB1⟩
  have hu1 := hu.later hB1
  have hk1 := hk.later hB1
  have HK2 := Lib.hid (hk1.other hgk (cU none1 (.slice none 0 0)))
  have HU2 := Lib.hid (hu1.row none1 (.slice none 0 0))
  have HB2 := Lib.hid (fun B (h1 : B ≤ g) (h3 : B ≤ w.heap.size) => below_row (hB1.mono h3) h1 (cU none1 (.slice none 0 0)))
  clear hk1 hu hk hassert hmode hB1
  go_wp2_with ((with_reducible refine wp_store27 (o := ⟨none, .store 27 (.tmp 0) (.tmp 10), _, _, _, _⟩) ?_ (.tmp 0) (.tmp 10) ?_ g ?_ none1 (.slice none 0 0) ?_ rfl rfl u0 p0 h8 hu1 ?_); (· rfl); (· rfl); (· rfl); (· rfl); generalize w1.setRow g (cU none1 (.slice none 0 0)) = w2 at HK2 HU2 HB2 ⊢; have ck := HK2.out.cell; have fk := HK2.out.free)
  exact ⟨rfl, _, rfl, .tuple #[], results_none rfl _ _ _, rfl, rfl, (set_other w2 k 0 (.bool false) (Ne.symm hgk)).trans HU2.out, HK2.out.set false, fun B h1 h2 h3 => below_set (HB2.out B h1 h3) h2 0 _⟩
theorem catch_idle (p q : Value) (w : World) :
    CallsD Tryz.prog 31 #[p, q] .returning w fun e u' w' => e = .returned (.tuple #[]) ∧ u' = .returning ∧ w' = w := by
  refine callsD_of_wpS Tryz.func31 rfl fun c₀ cs hu => ?_
  apply wpS_seq
  apply wpS_region
  simp [wpOpsS, go_sem, recoverD, hu, Tryz.ntmps31, Exit.thenS]
  apply wpS_seq
  apply wpS_region
  simp [wpOpsS, go_sem, recoverD, hu, Tryz.ntmps31, Exit.thenS]
  refine wpS_cond (t := false) (by simp [Act.eval, Array.replicate]) ?_
  simp only [Bool.false_eq_true, if_false]
  refine wpS_of_wp (wp_skip ?_)
  cases c₀
  simp_all [bodyPostS, results, Tryz.results31]
theorem ret_p {tmps : Array Value} {W : World} (g k : Nat) (u : U) (pv : Value) (h8 : u.h.p.length = 8) (b : Bool) (hp : tmps.getD 2 undef = .pointer (some ⟨g, 0, none⟩)) (hb : tmps.getD 3 undef = .pointer (some ⟨k, 0, none⟩)) (hr : UrlAt W g u pv) (hk : BoolAt W k b) :
    (results Tryz.f13 tmps).run Tryz.prog W = .ok (.tuple #[.agg (cU u pv), .bool b]) W := by
  have hp' : tmps[2]?.getD undef = .pointer (some ⟨g, 0, none⟩) := by simpa using hp
  have hb' : tmps[3]?.getD undef = .pointer (some ⟨k, 0, none⟩) := by simpa using hb
  have hc := hk.cell
  have hl : (loadVar 4 ⟨k, 0, none⟩).run Tryz.prog W = .ok (.bool b) W := by simp [loadVar, Tryz.isAgg4, hc, go_sem]
  simp [results, Tryz.results13, hp', hb', asAddr, hr.load h8, hl]
/-- Parse's answer. -/
def GotP (w : World) (u : U) (b : Bool) (e : Ending) (w' : World) : Prop := ∃ pv, e = .returned (.tuple #[.agg (cU u pv), .bool b]) ∧ Strs w' pv u.path ∧ Path.New w.heap.size pv ∧ Below w.heap.size w w'
theorem clean_at (s : ByteArray) (hs : s.size ≤ 1000000) (x : ByteArray) (hx : tb (Ascii.clean s.data.toList) = x) (w : World) : Calls Tryz.prog 34 #[.string s] w fun e w' => e = .returned (.string x) ∧ Below w.heap.size w w' := by
  subst hx
  exact Ascii.clean_calls s (by unfold maxLen; omega) (by omega) w
set_option maxHeartbeats 8000000 in
theorem parse_in (s : ByteArray) (hs : s.size ≤ 900) (b : Bool) (hb : okU s.data.toList = b) (m : Int) (w : World) (hm : Six.At m w) :
    Calls Tryz.prog 13 #[.string s] w (GotP w (parU s.data.toList) b) := by
  obtain ⟨x, hx⟩ : ∃ x, tb (Ascii.clean s.data.toList) = x := ⟨_, rfl⟩
  have hx1 : x.size ≤ 900 := by rw [size_tb hx]; exact Nat.le_trans (clean_len _) hs
  have CC := Lib.hid (clean_at s (by omega) x hx)
  unfold okU at hb
  unfold parU
  rw [← list_tb hx] at hb ⊢
  have CP := Lib.hid (fun u hu => parsed_any x hx1 b hb m u hu)
  have HV8 := Lib.hid (par8 x.data.toList)
  have HPN := Lib.hid (show b = false → parS x.data.toList = none1 from fun h => par_none _ (hb.trans h))
  generalize parS x.data.toList = v at CP HV8 HPN ⊢
  have hs1 : (w.alloc (.cells (cU none1 (.slice none 0 0)) 27)).heap.size = w.heap.size + 1 := Array.size_push _
  have hB1 := (Below.refl w.heap.size w).alloc (Nat.le_refl _) (.cells (cU none1 (.slice none 0 0)) 27)
  have HB0 := Lib.hid (hB1.alloc (Nat.le_trans (Nat.le_succ _) (Nat.le_of_eq hs1.symm)) (.cells #[.bool false] 4))
  have HR0 := Lib.hid ((UrlAt.new w none1 (.slice none 0 0)).past (.cells #[.bool false] 4))
  have HK0 := Lib.hid (show BoolAt ((w.alloc (.cells (cU none1 (.slice none 0 0)) 27)).alloc (.cells #[.bool false] 4)) (w.heap.size + 1) false from by rw [← hs1]; exact BoolAt.new _ false)
  have HM := Lib.hid (hm.later HB0.out)
  have hsz : ((w.alloc (.cells (cU none1 (.slice none 0 0)) 27)).alloc (.cells #[.bool false] 4)).heap.size = w.heap.size + 2 := by
    have : ((w.alloc (.cells (cU none1 (.slice none 0 0)) 27)).alloc (.cells #[.bool false] 4)).heap.size = (w.alloc (.cells (cU none1 (.slice none 0 0)) 27)).heap.size + 1 := Array.size_push _
    omega
  have HSZ := Lib.hid hsz
  clear hb hx hx1 hs hm hs1 hB1 hsz
  have hmf : ∀ (fn : Fn) (first cap : Array Value) (w : World), (Instr.makeFunc fn first cap).run Tryz.prog w = .ok (.func fn first cap) w := fun _ _ _ _ => rfl
  go_enter_defers Tryz.func13, Tryz.ntmps13
  go_wp2_with fail
  rw [zero_url]
  generalize (w.alloc (.cells (cU none1 (.slice none 0 0)) 27)).alloc (.cells #[.bool false] 4) = W at HB0 HR0 HK0 HM HSZ ⊢
  refine (CC.out _).mono ?_
  rintro e u1 ⟨rfl, hB1⟩
  have HM1 := Lib.hid (HM.out.later hB1)
  have HR1 := Lib.hid (HR0.out.later hB1)
  have HK1 := Lib.hid (HK0.out.later hB1)
  have HB1 := Lib.hid hB1
  clear CC hB1 HM HR0 HK0
  go_wp2_with fail
  refine (CP.out _ HM1.out).mono ?_
  rintro e u2 (⟨hb, rfl, hB2⟩ | ⟨hb, pv, rfl, hst, hn, hB2⟩)
  · unfold gone
    go_wp2
    have hR2 := HR1.out.later hB2
    have hK2 := HK1.out.later hB2
    have hBw := Ascii.below3 HB0.out HB1.out hB2
    have hsz := Nat.le_trans HB1.out.size hB2.size
    have hv : v = none1 := HPN.out hb
    subst hb
    rw [hv]
    refine leaves_cons (f := 31) (args := #[.pointer (some ⟨w.heap.size, 0, none⟩), .pointer (some ⟨w.heap.size + 1, 0, none⟩)]) (by simp) (by simp [go_sem]) ?_
    refine (catch_in w.heap.size (w.heap.size + 1) none1 _ rfl false [] u2 hR2 hK2 (by omega)).mono ?_
    rintro e u' w'' ⟨rfl, rfl, hU, hK, hBB⟩
    exact ⟨_, ret_p w.heap.size (w.heap.size + 1) none1 (.slice none 0 0) rfl false rfl rfl hU hK, (.slice none 0 0), rfl, Path.Strs.nil _, (fun b o s n c e => by cases e), hBw.trans (hBB w.heap.size (Nat.le_refl _) (Nat.le_succ _) hBw.size)⟩
  · have hR2 := HR1.out.later hB2
    have HK2 := Lib.hid ((HK1.out.later hB2).other (Nat.ne_of_lt (Nat.lt_succ_self w.heap.size)) (cU v pv))
    have HU2 := Lib.hid (hR2.row v pv)
    have HBw := Lib.hid (below_row (Ascii.below3 HB0.out HB1.out hB2) (Nat.le_refl _) (cU v pv))
    have hone := strs_one hst
    have HN := Lib.hid (show Path.New (w.heap.size + 2) pv from hn.mono (by have := HB1.out.size; rw [HSZ.out] at this; exact this))
    have HST := Lib.hid (strs_other w.heap.size hst (HN.out.mono (Nat.le_succ _)) (fun k hk => setRow_other u2 w.heap.size (cU v pv) (Ne.symm hk)))
    subst hb
    clear CP HPN hst hn hB2 HB0 HB1 HSZ HM1 HR1 HK1
    go_wp2_with ((with_reducible refine wp_store27 (o := ⟨none, .store 27 (.tmp 2) (.tmp 7), _, _, _, _⟩) ?_ (.tmp 2) (.tmp 7) ?_ w.heap.size ?_ v pv ?_ HV8.out hone none1 (.slice none 0 0) rfl hR2 ?_); (· rfl); (· rfl); (· rfl); (· rfl); generalize u2.setRow w.heap.size (cU v pv) = u3 at HK2 HU2 HBw HST ⊢; clear hR2; have ck := HK2.out.cell; have fk := HK2.out.free)
    refine leaves_cons (f := 31) (args := #[.pointer (some ⟨w.heap.size, 0, none⟩), .pointer (some ⟨w.heap.size + 1, 0, none⟩)]) (by simp) (by simp [go_sem]) ?_
    refine (catch_idle _ _ _).mono ?_
    rintro e u' w'' ⟨rfl, rfl, rfl⟩
    refine ⟨_, ret_p w.heap.size (w.heap.size + 1) v pv HV8.out true rfl rfl ((set_other u3 (w.heap.size + 1) 0 (.bool true) (Nat.succ_ne_self _)).trans HU2.out) (HK2.out.set true), pv, rfl, ?_, HN.out.mono (by omega), below_set HBw.out (Nat.le_succ _) 0 (.bool true)⟩
    exact strs_other (w.heap.size + 1) HST.out HN.out (fun k hk => set_other u3 (w.heap.size + 1) 0 (.bool true) (Ne.symm hk))
end Go.Proofs.YtfdhhjigpboieaaGreatDoor.Url

/-
  An address of the web out of what stands ahead of its query.
-/
import Derived.Test.YtfdhhjigpboieaaGreatDoorUObj
import Derived.Deep.RegionHeld
namespace Go.Proofs.YtfdhhjigpboieaaGreatDoor.Url
open Go.RowKit Go.Shelf
open Host (H HostAt none0 okH)
open Six (arr RowAt zero8)
open Path (Strs)
set_option linter.unusedSimpArgs false
set_option linter.unusedVariables false
set_option maxRecDepth 100000

theorem ret_url {fn : Func} {d : Tmp} (h : fn.results = #[.cell d 27]) {tmps : Array Value} {W : World} (g : Nat) (u : U) (pv : Value) (h8 : u.h.p.length = 8) (hp : tmps.getD d undef = .pointer (some ⟨g, 0, none⟩)) (hr : UrlAt W g u pv) :
    (results fn tmps).run Tryz.prog W = .ok (.agg (cU u pv)) W := by
  have hp' : tmps[d]?.getD undef = .pointer (some ⟨g, 0, none⟩) := by simpa using hp
  simp [results, h, hp', asAddr, hr.load h8]
/-- An address is answered. -/
def Got (w : World) (u : U) (e : Ending) (w' : World) : Prop := ∃ pv, e = .returned (.agg (cU u pv)) ∧ Strs w' pv u.path ∧ Path.New w.heap.size pv ∧ Below w.heap.size w w'
/-- A block is written that is not the texts' own. -/
theorem strs_other {W V : World} {v : Value} {l : List T} (g : Nat) (h : Strs W v l) (hn : Path.New (g + 1) v) (hV : ∀ k, k ≠ g → V.heap[k]? = W.heap[k]?) : Strs V v l := by
  obtain ⟨a, c, rfl, h1, h2, h3, h4⟩ := h
  refine ⟨a, c, rfl, h1, h2, h3, fun hl => ?_⟩
  obtain ⟨b, off, rfl, hc⟩ := h4 hl
  have hb := hn b off none _ _ rfl
  refine ⟨b, off, rfl, fun j hj => ?_⟩
  have := hc j hj
  unfold World.cell? at this ⊢
  simp only at this ⊢
  rw [hV b (by omega)]
  exact this
theorem prefix_any (s : ByteArray) (x : ByteArray) (b : Bool) (hx : tb (Lib.trimPrefix s.data.toList [47, 47]) = x) (hb : Lib.hasPrefix s.data.toList [47, 47] = b) (w : World) :
    Calls Tryz.prog 134 #[.string s, .string ⟨#[47, 47]⟩] w fun e w' => e = .returned (.tuple #[.string x, .bool b]) ∧ w = w' := by
  subst hx; subst hb
  exact (Tryz.strings_CutPrefix s ⟨#[47, 47]⟩ w).mono fun e w' h => ⟨h.1, h.2.symm⟩
theorem trim_pre {l : T} (h : Lib.hasPrefix l [47, 47] = true) : Lib.trimPrefix l [47, 47] = l.drop 2 := by unfold Lib.trimPrefix; rw [if_pos h]; rfl
/-- port, whichever way it ends. -/
theorem port_both (c s : ByteArray) (hs : s.size ≤ 1000000) (b : Bool) (h : portB s.data.toList = b) (z : Int) (hz : portI c.data.toList s.data.toList = z) (w : World) :
    Calls Tryz.prog 138 #[.string c, .string s] w fun e w' => (b = false ∧ e = gone ∧ Below w.heap.size w w') ∨ (b = true ∧ e = .returned (.int .i64 z) ∧ Below w.heap.size w w') ∨ (b = false ∧ e = .returned (.int .i64 z) ∧ Below w.heap.size w w' ∧ False) := by
  cases b
  · exact (port_no c s hs h w).mono fun e w' k => .inl ⟨rfl, k⟩
  · exact (port_yes c s hs h z hz w).mono fun e w' k => .inr (.inl ⟨rfl, k⟩)
theorem zero_url : (#[.string ⟨#[]⟩, .string ⟨#[]⟩, .string ⟨#[]⟩, .int .i64 0, .string ⟨#[]⟩, .int .i64 0, .int .i64 0, .int .i64 0, .int .i64 0, .int .i64 0, .int .i64 0, .int .i64 0, .int .i64 0, .int .i64 0, .int .i64 0, .slice none 0 0,
    .string ⟨#[]⟩, .string ⟨#[]⟩, .string ⟨#[]⟩, .bool false, .bool false] : Array Value) = cU none1 (.slice none 0 0) := rfl
theorem setRow_other (w : World) (g : Nat) (cs : Array Value) {k : Nat} (h : g ≠ k) : (w.setRow g cs).heap[k]? = w.heap[k]? := by simp [World.setRow, Array.getElem?_modify, h]
theorem below_row {B : Nat} {a w : World} (h : Below B a w) {g : Nat} (hp : B ≤ g) (k : Array Value) : Below B a (w.setRow g k) := Six.below_setRow h hp k
theorem below_trans {u v x : World} (h : Below u.heap.size u v) (k : Below v.heap.size v x) : Below u.heap.size u x := h.trans (k.mono h.size)
theorem run_load_of {P : Program} {o : Oper} {a : Act} {w : World} (ty : TypeId) (x : Operand) (p : Addr) (hx : a.eval x = .pointer (some p)) (v : Value) (hr : (loadVar ty p).run P w = .ok v w) (ho : o.op = .load ty x := by rfl) : (execOp a.eval o).run P w = .ok (.value v) w := by
  unfold execOp
  simp only [ho, hx, Instr.loadAt, Instr.sureAddr, Sem.run_bind, Sem.run_pure, Result.andThen_ok, hr]
set_option maxHeartbeats 8000000 in
theorem ofWeb_in (sc t : ByteArray) (ht : t.size ≤ 900) (hpre : Lib.hasPrefix t.data.toList [47, 47] = true) (hok : okH (hname (place (auth t.data.toList))) = true) (b : Bool) (hb : portB (digs (place (auth t.data.toList))) = b)
    (m : Int) (w : World) (hm : Six.At m w) :
    Calls Tryz.prog 107 #[.string sc, .string t] w fun e w' => (b = false ∧ e = gone ∧ Below w.heap.size w w') ∨ (b = true ∧ Got w (webU sc.data.toList t.data.toList) e w') := by
  obtain ⟨R, hR⟩ : ∃ R, tb (t.data.toList.drop 2) = R := ⟨_, rfl⟩
  have hR1 : R.size ≤ 900 := by rw [size_tb hR, List.length_drop, size_list]; omega
  have hRl := list_tb hR
  obtain ⟨A, hA⟩ : ∃ A, tb (auth t.data.toList) = A := ⟨_, rfl⟩
  obtain ⟨S, hS⟩ : ∃ S, tb (segT t.data.toList) = S := ⟨_, rfl⟩
  have hA1 : A.size ≤ 900 := by rw [size_tb hA]; unfold auth; rw [← hRl]; exact Nat.le_trans (bef_len _ _) hR1
  have hS1 : S.size ≤ 900 := by rw [size_tb hS]; unfold segT; rw [← hRl]; exact Nat.le_trans (aft_len _ _) hR1
  have hAl := list_tb hA
  obtain ⟨X, hX⟩ : ∃ X, tb (user A.data.toList) = X := ⟨_, rfl⟩
  obtain ⟨Y, hY⟩ : ∃ Y, tb (pass A.data.toList) = Y := ⟨_, rfl⟩
  obtain ⟨Z, hZ⟩ : ∃ Z, tb (place A.data.toList) = Z := ⟨_, rfl⟩
  have hX1 : X.size ≤ 900 := by rw [size_tb hX]; unfold user; exact Nat.le_trans (Nat.le_trans (bef_len _ _) (lbef_len _ _)) hA1
  have hY1 : Y.size ≤ 900 := by rw [size_tb hY]; unfold pass; exact Nat.le_trans (Nat.le_trans (aft_len _ _) (lbef_len _ _)) hA1
  have hZ1 : Z.size ≤ 900 := by rw [size_tb hZ]; exact Nat.le_trans (laft_len _ _) hA1
  have hZl := list_tb hZ
  obtain ⟨N, hN⟩ : ∃ N, tb (hname Z.data.toList) = N := ⟨_, rfl⟩
  obtain ⟨D, hD⟩ : ∃ D, tb (digs Z.data.toList) = D := ⟨_, rfl⟩
  have hN1 : N.size ≤ 900 := by rw [size_tb hN, hname_take]; exact Nat.le_trans (List.length_take_le' _ _) hZ1
  have hD1 : D.size ≤ 900 := by rw [size_tb hD]; unfold digs; exact Nat.le_trans (aft_len _ _) (Nat.le_trans (by rw [List.length_drop, size_list]; omega) hZ1)
  have hNl := list_tb hN
  have hDl := list_tb hD
  rw [← hAl, ← hZl, ← hDl] at hb
  rw [← hAl, ← hZl, ← hNl] at hok
  obtain ⟨h, hh⟩ : ∃ h, Host.parH N.data.toList = h := ⟨_, rfl⟩
  have h8 : h.p.length = 8 := by rw [← hh]; exact Host.parH_len _
  obtain ⟨E1, hE1⟩ : ∃ E, tb (Pct.encode 4 X.data.toList) = E := ⟨_, rfl⟩
  obtain ⟨E2, hE2⟩ : ∃ E, tb (Pct.encode 4 Y.data.toList) = E := ⟨_, rfl⟩
  obtain ⟨z, hz⟩ : ∃ z, portI sc.data.toList D.data.toList = z := ⟨_, rfl⟩
  obtain ⟨G, hG⟩ : ∃ G, (⟨#[47]⟩ : ByteArray) ++ S = G := ⟨_, rfl⟩
  have hGl : G.data.toList = 47 :: segT t.data.toList := by rw [← hG, Path.text_append, list_tb hS]; rfl
  have hG1 : G.size ≤ 901 := by
    show G.data.toList.length ≤ 901
    rw [hGl, List.length_cons, ← list_tb hS]
    have : S.data.toList.length = S.size := rfl
    omega
  -- the address
  have hU : webU sc.data.toList t.data.toList = ⟨sc.data.toList, E1.data.toList, E2.data.toList, h, z, Path.parse G.data.toList, [], [], [], false, false⟩ := by
    unfold webU
    rw [← hAl, ← hZl, ← hNl, hh, ← hDl, hz, ← list_tb hX, ← list_tb hY, hGl, list_tb hE1, list_tb hE2]
  rw [hU]
  have C1 := Lib.hid (fun u => prefix_any t R true (by rw [trim_pre hpre, hR]) hpre u)
  have C2 := Lib.hid (fun u hu c hc => cut_any 47 R (by omega) A S c (by rw [hRl]; exact hA) (by rw [hRl]; exact hS) hc m u hu)
  have C3 := Lib.hid (fun u hu => users_any A (by omega) X Y Z hX hY hZ m u hu)
  have C4 := Lib.hid (fun u hu => cutPort_any Z (by omega) N D hN hD m u hu)
  have C5 := Lib.hid (fun u hu => Host.parse_any N (by omega) h true hh hok m u hu)
  have C6 := Lib.hid (fun u => Pct.encode_any X (by omega) 4 u)
  have C7 := Lib.hid (fun u => Pct.encode_any Y (by omega) 4 u)
  have C8 := Lib.hid (fun u => port_both sc D (by omega) b hb z hz u)
  have C9 := Lib.hid (fun u (hu : Six.At m u) => Path.parse_new G (by omega) m u hu.max)
  have hE1' : (⟨(Pct.encode 4 X.data.toList).toArray⟩ : ByteArray) = E1 := hE1
  have hE2' : (⟨(Pct.encode 4 Y.data.toList).toArray⟩ : ByteArray) = E2 := hE2
  rw [hE1'] at C6
  rw [hE2'] at C7
  have HB0 := Lib.hid (show Below w.heap.size w (w.alloc (.cells (cU none1 (.slice none 0 0)) 27)) from (Below.refl _ w).alloc (Nat.le_refl _) _)
  have HR0 := Lib.hid (UrlAt.new w none1 (.slice none 0 0))
  have HM := Lib.hid (hm.later HB0.out)
  have HG := Lib.hid hG
  have H8 := Lib.hid h8
  clear hR hRl hA hS hA1 hAl hX hY hZ hX1 hY1 hZ1 hZl hN hD hN1 hD1 hNl hDl hE1 hE2 hE1' hE2' hz hh hGl hU hok hpre hb ht hR1 hm hG h8
  go_enter Tryz.func107, Tryz.ntmps107
  go_wp2_with fail
  rw [zero_url]
  generalize w.alloc (.cells (cU none1 (.slice none 0 0)) 27) = W at HB0 HR0 HM ⊢
  refine (C1.out _).mono ?_
  rintro e u1 ⟨rfl, rfl⟩
  clear C1
  go_wp2_with fail
  refine (need_yes _).mono ?_
  rintro e u1 ⟨rfl, rfl⟩
  go_wp2_with fail
  refine (C2.out _ HM.out _ rfl).mono ?_
  rintro e u1 ⟨rfl, hB1⟩
  have HB1 := Lib.hid hB1
  have HM1 := Lib.hid (HM.out.later hB1)
  have HR1 := Lib.hid (HR0.out.later hB1)
  clear hB1 HM C2 HR0
  go_wp2_with fail
  refine (C3.out _ HM1.out).mono ?_
  rintro e u2 ⟨rfl, hB2⟩
  have HB2 := Lib.hid hB2
  have HM2 := Lib.hid (HM1.out.later hB2)
  have HR2 := Lib.hid (HR1.out.later hB2)
  clear hB2 HM1 C3 HR1
  go_wp2_with fail
  refine (C4.out _ HM2.out).mono ?_
  rintro e u3 ⟨rfl, hB3⟩
  have HB3 := Lib.hid (Ascii.below4 HB0.out HB1.out HB2.out hB3)
  have HM3 := Lib.hid (HM2.out.later hB3)
  have HR3 := Lib.hid (HR2.out.later hB3)
  clear hB3 HM2 C4 HR2 HB0 HB1 HB2
  go_wp2_with fail
  refine (C5.out _ HM3.out).mono ?_
  rintro e u4 ⟨rfl, hB4⟩
  have HB4 := Lib.hid (Ascii.below2 HB3.out hB4)
  have HM4 := Lib.hid (HM3.out.later hB4)
  have HR4 := Lib.hid (HR3.out.later hB4)
  clear hB4 HM3 C5 HR3 HB3
  have hnew : HostAt (u4.alloc (.cells #[.int .i64 0, .string ⟨#[]⟩, .int .i64 0, .int .i64 0, .int .i64 0, .int .i64 0, .int .i64 0, .int .i64 0, .int .i64 0, .int .i64 0, .int .i64 0] 24)) u4.heap.size none0 := HostAt.new u4 none0
  have HH5 := Lib.hid (hnew.row h)
  have HB5 := Lib.hid (Host.below_row ((Below.refl u4.heap.size u4).alloc (Nat.le_refl _) (.cells #[.int .i64 0, .string ⟨#[]⟩, .int .i64 0, .int .i64 0, .int .i64 0, .int .i64 0, .int .i64 0, .int .i64 0, .int .i64 0, .int .i64 0, .int .i64 0] 24)) (Nat.le_refl _) h.cells)
  go_wp2_with ((with_reducible refine Host.wp_store24 (o := ⟨none, .store 24 (.tmp 15) (.tmp 43), _, _, _, _⟩) ?_ (.tmp 15) (.tmp 43) ?_ u4.heap.size ?_ h ?_ H8.out none0 rfl hnew ?_); (· rfl); (· rfl); (· rfl); (· rfl))
  generalize (u4.alloc (.cells #[.int .i64 0, .string ⟨#[]⟩, .int .i64 0, .int .i64 0, .int .i64 0, .int .i64 0, .int .i64 0, .int .i64 0, .int .i64 0, .int .i64 0, .int .i64 0] 24)).setRow u4.heap.size h.cells = u5 at HH5 HB5 ⊢
  clear hnew
  have HR5 := Lib.hid (HR4.out.later HB5.out)
  have HM5 := Lib.hid (HM4.out.later HB5.out)
  have HB6 := Lib.hid (Ascii.below2 HB4.out HB5.out)
  have HNE := Lib.hid (show w.heap.size ≠ u4.heap.size from Nat.ne_of_lt HR4.out.lt)
  generalize u4.heap.size = g5 at HH5 HB5 HNE ⊢
  clear HB5 HB4 HR4 HM4
  refine (need_yes _).mono ?_
  rintro e u1 ⟨rfl, rfl⟩
  go_wp2_with fail
  have hc : Below u5.heap.size u5 u5.drew := (Below.refl _ _).drew
  refine wp_region_held_drew (S := fun v => HostAt v g5 h ∧ Below w.heap.size w v) (by kernel_rfl) ⟨HH5.out.later hc, Ascii.below2 HB6.out hc⟩ (fun hS => ?_)
  refine wpAnyH_take (i := 0) (oi := ⟨some 47, .move (.tmp 0), _, _, _, _⟩) (v := .string sc) rfl (by kernel_rfl) (by kernel_rfl) (by kernel_rfl) (fun _ _ _ h => h) (Or.inl ⟨by rfl, ?_⟩) (by assumption) ?_
  · (intro v hv; go_simp)
  simp only [Act.put, List.setIfInBounds_toArray, List.set_cons_zero, List.set_cons_succ]
  refine wpAnyH_take (i := 1) (oi := ⟨some 48, .move (.tmp 10), _, _, _, _⟩) (v := .string X) rfl (by kernel_rfl) (by kernel_rfl) (by kernel_rfl) (fun _ _ _ h => h) (Or.inl ⟨by rfl, ?_⟩) (by assumption) ?_
  · (intro v hv; go_simp)
  simp only [Act.put, List.setIfInBounds_toArray, List.set_cons_zero, List.set_cons_succ]
  refine wpAnyH_take (i := 3) (oi := ⟨some 50, .move (.tmp 11), _, _, _, _⟩) (v := .string Y) rfl (by kernel_rfl) (by kernel_rfl) (by kernel_rfl) (fun _ _ _ h => h) (Or.inl ⟨by rfl, ?_⟩) (by assumption) ?_
  · (intro v hv; go_simp)
  simp only [Act.put, List.setIfInBounds_toArray, List.set_cons_zero, List.set_cons_succ]
  refine wpAnyH_take (i := 5) (oi := ⟨some 52, .load 24 (.tmp 15), _, _, _, _⟩) (v := .agg h.cells) rfl (by kernel_rfl) (by kernel_rfl) (by kernel_rfl) (fun _ _ _ h => h) (Or.inl ⟨by rfl, ?_⟩) (by assumption) ?_
  · exact fun v hv => run_load_of 24 (.tmp 15) ⟨g5, 0, none⟩ rfl (.agg h.cells) (hv.1.load H8.out)
  simp only [Act.put, List.setIfInBounds_toArray, List.set_cons_zero, List.set_cons_succ]
  refine wpAnyH_take (i := 6) (oi := ⟨some 53, .move (.tmp 0), _, _, _, _⟩) (v := .string sc) rfl (by kernel_rfl) (by kernel_rfl) (by kernel_rfl) (fun _ _ _ h => h) (Or.inl ⟨by rfl, ?_⟩) (by assumption) ?_
  · (intro v hv; go_simp)
  simp only [Act.put, List.setIfInBounds_toArray, List.set_cons_zero, List.set_cons_succ]
  refine wpAnyH_take (i := 7) (oi := ⟨some 54, .move (.tmp 14), _, _, _, _⟩) (v := .string D) rfl (by kernel_rfl) (by kernel_rfl) (by kernel_rfl) (fun _ _ _ h => h) (Or.inl ⟨by rfl, ?_⟩) (by assumption) ?_
  · (intro v hv; go_simp)
  simp only [Act.put, List.setIfInBounds_toArray, List.set_cons_zero, List.set_cons_succ]
  refine wpAnyH_take (i := 9) (oi := ⟨some 56, .move (.tmp 8), _, _, _, _⟩) (v := .string S) rfl (by kernel_rfl) (by kernel_rfl) (by kernel_rfl) (fun _ _ _ h => h) (Or.inl ⟨by rfl, ?_⟩) (by assumption) ?_
  · (intro v hv; go_simp)
  simp only [Act.put, List.setIfInBounds_toArray, List.set_cons_zero, List.set_cons_succ]
  refine wpAnyH_take (i := 10) (oi := ⟨some 57, .binOp .add 9 (.const (.string ⟨#[47]⟩)) (.tmp 56) 9, _, _, _, _⟩) (v := .string G) rfl (by kernel_rfl) (by kernel_rfl) (by kernel_rfl) (fun _ _ _ h => h) (Or.inl ⟨by rfl, ?_⟩) (by assumption) ?_
  · (intro v hv; go_simp; rw [if_neg (by omega), HG.out])
  simp only [Act.put, List.setIfInBounds_toArray, List.set_cons_zero, List.set_cons_succ]
  refine wpAnyH_ready (rs := [2]) (by kernel_rfl) (by simp) ?_
  refine AllReadyH.cons (o := ⟨some 49, .call ⟨.value (.func 29), #[.tmp 48, .const (.int .i64 4)], _⟩, _, _, _, _⟩) rfl (fun K hK => ?_) AllReadyH.nil
  go_simp
  go_at_call 29
  refine (C6.out _).mono ?_
  rintro e v1 ⟨rfl, hB1⟩
  have hc := below_trans hc hB1
  refine hK.out _ _ ⟨HH5.out.later hc, Ascii.below2 HB6.out hc⟩ (fun hS => ?_)
  clear hB1 C6
  refine wpAnyH_ready (rs := [4]) (by kernel_rfl) (by simp) ?_
  refine AllReadyH.cons (o := ⟨some 51, .call ⟨.value (.func 29), #[.tmp 50, .const (.int .i64 4)], _⟩, _, _, _, _⟩) rfl (fun K hK => ?_) AllReadyH.nil
  go_simp
  go_at_call 29
  refine (C7.out _).mono ?_
  rintro e v2 ⟨rfl, hB2⟩
  have hc := below_trans hc hB2
  refine hK.out _ _ ⟨HH5.out.later hc, Ascii.below2 HB6.out hc⟩ (fun hS => ?_)
  clear hB2 C7
  refine wpAnyH_ready (rs := [8]) (by kernel_rfl) (by simp) ?_
  refine AllReadyH.cons (o := ⟨some 55, .call ⟨.value (.func 138), #[.tmp 53, .tmp 54], _⟩, _, _, _, _⟩) rfl (fun K hK => ?_) AllReadyH.nil
  go_simp
  go_at_call 138
  refine (C8.out _).mono ?_
  rintro e v3 (⟨hb, rfl, hB3⟩ | ⟨hb, rfl, hB3⟩ | ⟨hb, rfl, hB3, hF⟩)
  case inl => exact ⟨rfl, .inl ⟨hb, rfl, Ascii.below2 HB6.out (below_trans hc hB3)⟩⟩
  case inr.inr => exact hF.elim
  have hc := below_trans hc hB3
  refine hK.out _ _ ⟨HH5.out.later hc, Ascii.below2 HB6.out hc⟩ (fun hS => ?_)
  clear hB3 C8
  refine wpAnyH_ready (rs := [11]) (by kernel_rfl) (by simp) ?_
  refine AllReadyH.cons (o := ⟨some 58, .call ⟨.value (.func 28), #[.tmp 57], _⟩, _, _, _, _⟩) rfl (fun K hK => ?_) AllReadyH.nil
  go_simp
  go_at_call 28
  refine (C9.out _ (HM5.out.later hc)).mono ?_
  rintro e v4 ⟨pv, rfl, hst, hB4, hnew⟩
  have HNW := Lib.hid (hnew.mono hc.size)
  clear hnew
  have hc := below_trans hc hB4
  refine hK.out _ _ ⟨HH5.out.later hc, Ascii.below2 HB6.out hc⟩ (fun hS => ?_)
  clear hB4 C9
  have HST := Lib.hid hst
  have hone := strs_one hst
  clear hst
  refine wpAnyH_take (i := 12) (oi := ⟨some 59, .build 27 #[(0, .tmp 47), (1, .tmp 49), (2, .tmp 51), (3, .tmp 52), (4, .tmp 55), (5, .tmp 58)], _, _, _, _⟩) (v := .agg (cU ⟨sc.data.toList, E1.data.toList, E2.data.toList, h, z, Path.parse G.data.toList, [], [], [], false, false⟩ pv)) rfl (by kernel_rfl) (by kernel_rfl) (by kernel_rfl) (fun _ _ _ h => h) (Or.inl ⟨by rfl, ?_⟩) (by assumption) ?_
  · intro v hv
    obtain ⟨hk, hs, hn, hp⟩ := h
    obtain ⟨p0, p1, p2, p3, p4, p5, p6, p7, rfl⟩ := eight H8.out
    obtain ⟨pa, pc, rfl, _⟩ := HST.out
    clear HB6 HR5 HM5 HH5 H8 HST
    have hlit : (H.cells ⟨hk, hs, hn, [p0, p1, p2, p3, p4, p5, p6, p7]⟩) = #[.int .i64 hk, .string hs, .int .i64 hn, .int .i64 p0, .int .i64 p1, .int .i64 p2, .int .i64 p3, .int .i64 p4, .int .i64 p5, .int .i64 p6, .int .i64 p7] := rfl
    go_simp
    simp only [cU, tb_of]
    rfl
  go_simp
  refine wpAnyH_ready (rs := [13]) (by kernel_rfl) (by simp) ?_
  refine AllReadyH.cons (o := ⟨none, .store 27 (.tmp 4) (.tmp 59), _, _, _, _⟩) rfl (fun K hK => ?_) AllReadyH.nil
  rw [if_pos (by rfl)]
  have hr := HR5.out.later hc
  refine wp_store_row 27 (.tmp 4) (.tmp 59) rfl w.heap.size (cU ⟨sc.data.toList, E1.data.toList, E2.data.toList, h, z, Path.parse G.data.toList, [], [], [], false, false⟩ pv) rfl rfl 27 (cU none1 (.slice none 0 0)) hr (by rw [cU_size _ _ H8.out]; exact size27) (by first | exact (cU_size none1 (.slice none 0 0) rfl).trans (cU_size ⟨sc.data.toList, E1.data.toList, E2.data.toList, h, z, Path.parse G.data.toList, [], [], [], false, false⟩ pv H8.out).symm | exact (cU_size ⟨sc.data.toList, E1.data.toList, E2.data.toList, h, z, Path.parse G.data.toList, [], [], [], false, false⟩ pv H8.out).trans (cU_size none1 (.slice none 0 0) rfl).symm) (cU_one _ _ hone) ?_
  have hh := HH5.out.later hc
  refine hK.out _ _ ⟨(setRow_other _ _ _ HNE.out).trans hh, below_row (Ascii.below2 HB6.out hc) (Nat.le_refl _) _⟩ (fun hS => ?_)
  refine wpAnyH_done (by kernel_rfl) ?_ _
  have hfin := hr.row ⟨sc.data.toList, E1.data.toList, E2.data.toList, h, z, Path.parse G.data.toList, [], [], [], false, false⟩ pv
  have hst := HST.out
  have hS2 := hS.2
  have hnew := HNW.out.mono (Nat.succ_le_of_lt HR5.out.lt)
  have hnew2 := HNW.out.mono HB6.out.size
  clear hr hh hS hc hone HST HB6 HR5 HM5 HH5 HNE HG hS1 hG1 HNW
  go_wp2
  exact bodyPost_ret (ret_url rfl w.heap.size _ pv H8.out rfl hfin) rfl (.inr ⟨hb, pv, rfl, strs_other w.heap.size hst hnew (fun k hk => setRow_other _ _ _ (Ne.symm hk)), hnew2, hS2⟩)
set_option maxHeartbeats 8000000 in
theorem ofWeb_none (sc t : ByteArray) (ht : t.size ≤ 900) (hpre : Lib.hasPrefix t.data.toList [47, 47] = true) (hok : okH (hname (place (auth t.data.toList))) = false)
    (m : Int) (w : World) (hm : Six.At m w) :
    Calls Tryz.prog 107 #[.string sc, .string t] w fun e w' => e = gone ∧ Below w.heap.size w w' := by
  obtain ⟨R, hR⟩ : ∃ R, tb (t.data.toList.drop 2) = R := ⟨_, rfl⟩
  have hR1 : R.size ≤ 900 := by rw [size_tb hR, List.length_drop, size_list]; omega
  have hRl := list_tb hR
  obtain ⟨A, hA⟩ : ∃ A, tb (auth t.data.toList) = A := ⟨_, rfl⟩
  obtain ⟨S, hS⟩ : ∃ S, tb (segT t.data.toList) = S := ⟨_, rfl⟩
  have hA1 : A.size ≤ 900 := by rw [size_tb hA]; unfold auth; rw [← hRl]; exact Nat.le_trans (bef_len _ _) hR1
  have hS1 : S.size ≤ 900 := by rw [size_tb hS]; unfold segT; rw [← hRl]; exact Nat.le_trans (aft_len _ _) hR1
  have hAl := list_tb hA
  obtain ⟨X, hX⟩ : ∃ X, tb (user A.data.toList) = X := ⟨_, rfl⟩
  obtain ⟨Y, hY⟩ : ∃ Y, tb (pass A.data.toList) = Y := ⟨_, rfl⟩
  obtain ⟨Z, hZ⟩ : ∃ Z, tb (place A.data.toList) = Z := ⟨_, rfl⟩
  have hX1 : X.size ≤ 900 := by rw [size_tb hX]; unfold user; exact Nat.le_trans (Nat.le_trans (bef_len _ _) (lbef_len _ _)) hA1
  have hY1 : Y.size ≤ 900 := by rw [size_tb hY]; unfold pass; exact Nat.le_trans (Nat.le_trans (aft_len _ _) (lbef_len _ _)) hA1
  have hZ1 : Z.size ≤ 900 := by rw [size_tb hZ]; exact Nat.le_trans (laft_len _ _) hA1
  have hZl := list_tb hZ
  obtain ⟨N, hN⟩ : ∃ N, tb (hname Z.data.toList) = N := ⟨_, rfl⟩
  obtain ⟨D, hD⟩ : ∃ D, tb (digs Z.data.toList) = D := ⟨_, rfl⟩
  have hN1 : N.size ≤ 900 := by rw [size_tb hN, hname_take]; exact Nat.le_trans (List.length_take_le' _ _) hZ1
  have hD1 : D.size ≤ 900 := by rw [size_tb hD]; unfold digs; exact Nat.le_trans (aft_len _ _) (Nat.le_trans (by rw [List.length_drop, size_list]; omega) hZ1)
  have hNl := list_tb hN
  have hDl := list_tb hD
  rw [← hAl, ← hZl, ← hNl] at hok
  obtain ⟨h, hh⟩ : ∃ h, Host.parH N.data.toList = h := ⟨_, rfl⟩
  have h8 : h.p.length = 8 := by rw [← hh]; exact Host.parH_len _
  have C1 := Lib.hid (fun u => prefix_any t R true (by rw [trim_pre hpre, hR]) hpre u)
  have C2 := Lib.hid (fun u hu c hc => cut_any 47 R (by omega) A S c (by rw [hRl]; exact hA) (by rw [hRl]; exact hS) hc m u hu)
  have C3 := Lib.hid (fun u hu => users_any A (by omega) X Y Z hX hY hZ m u hu)
  have C4 := Lib.hid (fun u hu => cutPort_any Z (by omega) N D hN hD m u hu)
  have C5 := Lib.hid (fun u hu => Host.parse_any N (by omega) h false hh hok m u hu)
  have HB0 := Lib.hid (show Below w.heap.size w (w.alloc (.cells (cU none1 (.slice none 0 0)) 27)) from (Below.refl _ w).alloc (Nat.le_refl _) _)
  have HR0 := Lib.hid (UrlAt.new w none1 (.slice none 0 0))
  have HM := Lib.hid (hm.later HB0.out)
  have H8 := Lib.hid h8
  clear hR hRl hA hS hA1 hAl hX hY hZ hX1 hY1 hZ1 hZl hN hD hN1 hD1 hNl hDl hh hok hpre ht hR1 hm h8
  go_enter Tryz.func107, Tryz.ntmps107
  go_wp2_with fail
  rw [zero_url]
  generalize w.alloc (.cells (cU none1 (.slice none 0 0)) 27) = W at HB0 HR0 HM ⊢
  refine (C1.out _).mono ?_
  rintro e u1 ⟨rfl, rfl⟩
  clear C1
  go_wp2_with fail
  refine (need_yes _).mono ?_
  rintro e u1 ⟨rfl, rfl⟩
  go_wp2_with fail
  refine (C2.out _ HM.out _ rfl).mono ?_
  rintro e u1 ⟨rfl, hB1⟩
  have HB1 := Lib.hid hB1
  have HM1 := Lib.hid (HM.out.later hB1)
  have HR1 := Lib.hid (HR0.out.later hB1)
  clear hB1 HM C2 HR0
  go_wp2_with fail
  refine (C3.out _ HM1.out).mono ?_
  rintro e u2 ⟨rfl, hB2⟩
  have HB2 := Lib.hid hB2
  have HM2 := Lib.hid (HM1.out.later hB2)
  have HR2 := Lib.hid (HR1.out.later hB2)
  clear hB2 HM1 C3 HR1
  go_wp2_with fail
  refine (C4.out _ HM2.out).mono ?_
  rintro e u3 ⟨rfl, hB3⟩
  have HB3 := Lib.hid (Ascii.below4 HB0.out HB1.out HB2.out hB3)
  have HM3 := Lib.hid (HM2.out.later hB3)
  have HR3 := Lib.hid (HR2.out.later hB3)
  clear hB3 HM2 C4 HR2 HB0 HB1 HB2
  go_wp2_with fail
  refine (C5.out _ HM3.out).mono ?_
  rintro e u4 ⟨rfl, hB4⟩
  have HB4 := Lib.hid (Ascii.below2 HB3.out hB4)
  have HM4 := Lib.hid (HM3.out.later hB4)
  have HR4 := Lib.hid (HR3.out.later hB4)
  clear hB4 HM3 C5 HR3 HB3
  have hnew : HostAt (u4.alloc (.cells #[.int .i64 0, .string ⟨#[]⟩, .int .i64 0, .int .i64 0, .int .i64 0, .int .i64 0, .int .i64 0, .int .i64 0, .int .i64 0, .int .i64 0, .int .i64 0] 24)) u4.heap.size none0 := HostAt.new u4 none0
  have HH5 := Lib.hid (hnew.row h)
  have HB5 := Lib.hid (Host.below_row ((Below.refl u4.heap.size u4).alloc (Nat.le_refl _) (.cells #[.int .i64 0, .string ⟨#[]⟩, .int .i64 0, .int .i64 0, .int .i64 0, .int .i64 0, .int .i64 0, .int .i64 0, .int .i64 0, .int .i64 0, .int .i64 0] 24)) (Nat.le_refl _) h.cells)
  go_wp2_with ((with_reducible refine Host.wp_store24 (o := ⟨none, .store 24 (.tmp 15) (.tmp 43), _, _, _, _⟩) ?_ (.tmp 15) (.tmp 43) ?_ u4.heap.size ?_ h ?_ H8.out none0 rfl hnew ?_); (· rfl); (· rfl); (· rfl); (· rfl))
  generalize (u4.alloc (.cells #[.int .i64 0, .string ⟨#[]⟩, .int .i64 0, .int .i64 0, .int .i64 0, .int .i64 0, .int .i64 0, .int .i64 0, .int .i64 0, .int .i64 0, .int .i64 0] 24)).setRow u4.heap.size h.cells = u5 at HH5 HB5 ⊢
  clear hnew
  have HR5 := Lib.hid (HR4.out.later HB5.out)
  have HM5 := Lib.hid (HM4.out.later HB5.out)
  have HB6 := Lib.hid (Ascii.below2 HB4.out HB5.out)
  have HNE := Lib.hid (show w.heap.size ≠ u4.heap.size from Nat.ne_of_lt HR4.out.lt)
  generalize u4.heap.size = g5 at HH5 HB5 HNE ⊢
  clear HB5 HB4 HR4 HM4
  refine (need_no _).mono ?_
  rintro e u1 ⟨rfl, rfl⟩
  unfold gone
  go_wp2
  exact ⟨rfl, rfl, HB6.out⟩
theorem ofWeb_any (sc t : ByteArray) (ht : t.size ≤ 900) (b : Bool) (hb : webB t.data.toList = b) (m : Int) (w : World) (hm : Six.At m w) :
    Calls Tryz.prog 107 #[.string sc, .string t] w fun e w' => (b = false ∧ e = gone ∧ Below w.heap.size w w') ∨ (b = true ∧ Got w (webU sc.data.toList t.data.toList) e w') := by
  subst hb
  unfold webB
  cases hpre : Lib.hasPrefix t.data.toList [47, 47]
  · have C1 := Lib.hid (fun u => prefix_any t _ false rfl hpre u)
    have HB0 := Lib.hid (show Below w.heap.size w (w.alloc (.cells (cU none1 (.slice none 0 0)) 27)) from (Below.refl _ w).alloc (Nat.le_refl _) _)
    generalize tb (Lib.trimPrefix t.data.toList [47, 47]) = R at C1
    clear hpre ht hm
    go_enter Tryz.func107, Tryz.ntmps107
    go_wp2_with fail
    rw [zero_url]
    generalize w.alloc (.cells (cU none1 (.slice none 0 0)) 27) = W at HB0 ⊢
    refine (C1.out _).mono ?_
    rintro e u1 ⟨rfl, rfl⟩
    go_wp2_with fail
    refine (need_no _).mono ?_
    rintro e u1 ⟨rfl, rfl⟩
    unfold gone
    go_wp2
    exact ⟨rfl, .inl ⟨rfl, rfl, HB0.out⟩⟩
  · cases hok : okH (hname (place (auth t.data.toList)))
    · exact (ofWeb_none sc t ht hpre hok m w hm).mono fun e w' h => .inl ⟨rfl, h⟩
    · exact ofWeb_in sc t ht hpre hok _ rfl m w hm
end Go.Proofs.YtfdhhjigpboieaaGreatDoor.Url

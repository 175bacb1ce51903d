/-
  The document's Parse of layer 6.
-/
import Derived.Test.YtgfhjigalefkmaaDoorSRefPieces
namespace Go.Proofs.YtgfhjigalefkmaaDoor.Six
open Go.RowKit
set_option linter.unusedSimpArgs false
set_option linter.unusedVariables false
/-! ### What it answers -/
theorem okR (l : List UInt8) (h : okL l = true) : valR l = valL l := by unfold valR; rw [h]; rfl
theorem par_none (l : List UInt8) (h : Lib.index l [58, 58] = -1) : parB l = (okL l && decide ((valR l).length = 8)) ∧ (okL l = true → (valR l).length = 8 → parI l = ints (valR l)) := by
  rcases cut_index l with ⟨_, hc⟩ | ⟨k, hk, _⟩
  · rcases cutL_spec l with ⟨h', _⟩ | ⟨_, h1, h2⟩
    · rw [hc] at h'; cases h'
    · have hB : parB l = (okL l && decide ((valR l).length = 8)) := by
        unfold parB
        rw [h1, h2, hc]
        cases ho : okL l
        · rfl
        · rw [okR l ho]; simp [fitB, valL, okL]
      refine ⟨hB, fun ho h8 => ?_⟩
      unfold parI
      rw [hB, ho, decide_eq_true h8]
      show ints (fill (valL (cutL l).1) (valL (cutL l).2.1)) = _
      rw [h1, h2]
      rw [okR l ho] at h8 ⊢
      rw [show valL [] = [] from rfl]
      simp [fill, h8]
  · omega
theorem par_hit (l : List UInt8) (k : Nat) (h : Lib.index l [58, 58] = k) : k + 2 ≤ l.length ∧ parB l = (okL (l.take k) && (okL (l.drop (k + 2)) && decide ((valR (l.take k)).length + (valR (l.drop (k + 2))).length < 8))) ∧
    (okL (l.take k) = true → okL (l.drop (k + 2)) = true → (valR (l.take k)).length + (valR (l.drop (k + 2))).length < 8 → parI l = ints (fill (valR (l.take k)) (valR (l.drop (k + 2))))) := by
  rcases cut_index l with ⟨h', _⟩ | ⟨j, hj, h3, h1, h2⟩
  · omega
  · obtain rfl : j = k := by omega
    have hlen : j + 2 ≤ l.length := by
      rcases cutL_spec l with ⟨_, hs⟩ | ⟨hs, _⟩
      · have := congrArg List.length hs
        rw [h1, h2] at this
        simp at this
        omega
      · rw [h3] at hs; cases hs
    have hB : parB l = (okL (l.take j) && (okL (l.drop (j + 2)) && decide ((valR (l.take j)).length + (valR (l.drop (j + 2))).length < 8))) := by
      unfold parB
      rw [h1, h2, h3]
      cases ha : okL (l.take j)
      · rfl
      · cases hb : okL (l.drop (j + 2))
        · rfl
        · rw [okR _ ha, okR _ hb]; simp [fitB]
    refine ⟨hlen, hB, fun ha hb h8 => ?_⟩
    unfold parI
    rw [hB, ha, hb, decide_eq_true h8]
    show ints (fill (valL (cutL l).1) (valL (cutL l).2.1)) = _
    rw [h1, h2, okR _ ha, okR _ hb]
/-! ### The array, cell by cell -/
def fillA (a : List Nat) (k : Nat) : List Int := ints (a.take k) ++ List.replicate (8 - k) 0
def fillB (a b : List Nat) (k : Nat) : List Int := ints a ++ (List.replicate (8 - a.length - b.length) 0 ++ (ints (b.take k) ++ List.replicate (b.length - k) 0))
theorem fillA_zero (a : List Nat) : fillA a 0 = zero8 := rfl
theorem fillA_len (a : List Nat) (k : Nat) (h : k ≤ a.length) (h8 : k ≤ 8) : (fillA a k).length = 8 := by simp [fillA, ints]; omega
theorem fillA_set (a : List Nat) (k : Nat) (h : k < a.length) (h8 : k < 8) : (fillA a k).set k (a[k] : Int) = fillA a (k + 1) := by
  have e : (ints (a.take k)).length = k := by simp [ints]; omega
  unfold fillA
  rw [List.set_append_right _ _ (by omega), e, Nat.sub_self, List.take_succ_eq_append_getElem h, ints_append, show 8 - k = (8 - (k + 1)) + 1 by omega, List.replicate_succ, List.set_cons_zero]
  simp [ints]
theorem fillB_zero (a b : List Nat) (h : a.length + b.length ≤ 8) : fillB a b 0 = fillA a a.length := by
  unfold fillB fillA
  rw [List.take_of_length_le (Nat.le_refl _), List.take_zero, show 8 - a.length = (8 - a.length - b.length) + b.length by omega, ← List.replicate_append_replicate]
  simp [ints]
theorem fillB_len (a b : List Nat) (k : Nat) (h : a.length + b.length ≤ 8) (hk : k ≤ b.length) : (fillB a b k).length = 8 := by simp [fillB, ints]; omega
theorem fillB_set (a b : List Nat) (k q : Nat) (h : a.length + b.length ≤ 8) (hk : k < b.length) (hq : q + b.length = 8) : (fillB a b k).set (q + k) (b[k] : Int) = fillB a b (k + 1) := by
  have e : (ints (b.take k)).length = k := by simp [ints]; omega
  have ea : (ints a).length = a.length := ints_len a
  unfold fillB
  rw [List.set_append_right _ _ (by omega), ea, List.set_append_right _ _ (by simp; omega), List.length_replicate, List.set_append_right _ _ (by omega), e, show q + k - a.length - (8 - a.length - b.length) - k = 0 by omega, List.take_succ_eq_append_getElem hk, ints_append, show b.length - k = (b.length - (k + 1)) + 1 by omega, List.replicate_succ, List.set_cons_zero]
  simp [ints]
theorem fillB_all (a b : List Nat) : fillB a b b.length = ints (fill a b) := by
  unfold fillB fill
  rw [List.take_of_length_le (Nat.le_refl _), ints_append, ints_append]
  simp [ints]
theorem results11 (tmps : Array Value) (w : World) (g : Nat) (l : List Int) (h8 : l.length = 8) (b : Bool) (hp : tmps.getD 2 undef = .pointer (some ⟨g, 0, none⟩)) (hb : tmps.getD 3 undef = .bool b) (hr : RowAt w g l) :
    (results Tryd.f11 tmps).run Tryd.prog w = .ok (.tuple #[.agg (arr l), .bool b]) w := by
  have hp' : tmps[2]?.getD undef = .pointer (some ⟨g, 0, none⟩) := by simpa using hp
  have hb' : tmps[3]?.getD undef = .bool b := by simpa using hb
  simp [results, Tryd.results11, hp', hb', asAddr, hr.load h8]
theorem alloc2_size (w : World) (X Y : Obj) : ((w.alloc X).alloc Y).heap.size = w.heap.size + 2 := by simp
/-- The two arrays that Parse lays, and what a round leaves alone. -/
structure Lies (w : World) (P : List Int) (W : World) : Prop where
  p : RowAt W (w.heap.size + 1) P
  r : RowAt W w.heap.size zero8
  b : Below w.heap.size w W
  s : w.heap.size + 2 ≤ W.heap.size
theorem Lies.new (w : World) : Lies w zero8 ((w.alloc (.cells (arr zero8) 22)).alloc (.cells (arr zero8) 22)) := by
  refine ⟨?_, (RowAt.new w zero8).past _, ((Below.refl _ w).alloc (Nat.le_refl _) _).alloc (by simp) _, by simp⟩
  have := RowAt.new (w.alloc (.cells (arr zero8) 22)) zero8
  simpa using this
theorem Lies.later {w W U : World} {P : List Int} (h : Lies w P W) (hB : Below W.heap.size W U) : Lies w P U :=
  ⟨h.p.later hB, h.r.later hB, h.b.trans (hB.mono (by have := h.s; omega)), Nat.le_trans h.s hB.size⟩
theorem Lies.set {w W : World} {P : List Int} (h : Lies w P W) (j : Nat) (z : Int) : Lies w (P.set j z) (W.setCell ⟨w.heap.size + 1, j, none⟩ (.int .i64 z)) :=
  ⟨h.p.set j z, h.r.setOther (by omega) _ _, h.b.setCell (p := ⟨w.heap.size + 1, j, none⟩) (by show w.heap.size ≤ w.heap.size + 1; omega) _, by have := h.s; simpa [World.setCell] using this⟩
theorem Lies.done {w W : World} {P : List Int} (h : Lies w P W) (F : List Int) : RowAt (W.setRow w.heap.size (arr F)) w.heap.size F ∧ Below w.heap.size w (W.setRow w.heap.size (arr F)) := ⟨h.r.row F, below_setRow h.b (Nat.le_refl _) _⟩
theorem valR_len (l : List UInt8) : (valR l).length ≤ l.length + 1 := by
  unfold valR valL
  have := parts_le l
  split
  · split
    · simp
    · rw [List.length_map]; exact this
  · simp
theorem Cells.up {B B' : Nat} {W : World} {A : Option Addr} {l : List Nat} (h : Cells B W A l) (hB : B' ≤ B) : Cells B' W A l := fun j hj => by
  obtain ⟨g, h1, h2, h3⟩ := h j hj
  exact ⟨g, h1, Nat.le_trans hB h2, h3⟩
set_option maxRecDepth 100000 in
set_option maxHeartbeats 8000000 in
theorem refParse_none (s : ByteArray) (hs : s.size ≤ 1000000) (hg : Lib.index s.data.toList [58, 58] = -1) (p : List Int) (x : Bool) (hp : parI s.data.toList = p) (hx : parB s.data.toList = x) (w : World) :
    Calls Tryd.prog 11 #[.string s] w fun e W' => e = .returned (.tuple #[.agg (arr p), .bool x]) ∧ Below w.heap.size w W' := by
  have hN := par_none s.data.toList hg
  have hz : x = false → p = zero8 := fun h => by rw [← hp]; unfold parI; rw [hx, h]; rfl
  have hlen : (valR s.data.toList).length ≤ 1000001 := by have := valR_len s.data.toList; have : s.data.toList.length = s.size := rfl; omega
  rw [hx, hp] at hN
  have HL0 := Lib.hid (Lies.new w)
  have cG := Lib.hid (fun u => refGap_any s hs (-1) hg u)
  have cP := Lib.hid (fun u => refPieces_any s hs u)
  have HN := Lib.hid hN
  have HZ := Lib.hid hz
  clear hN hz hp hx hs hg
  generalize valR s.data.toList = a at HN cP hlen
  generalize okL s.data.toList = oa at HN cP
  go_enter Tryd.func11, Tryd.ntmps11
  go_wp2_with fail
  rw [zero_arr]
  generalize (w.alloc (.cells (arr zero8) 22)).alloc (.cells (arr zero8) 22) = W at HL0 ⊢
  refine (cG.out _).mono ?_
  rintro e u1 ⟨rfl, rfl⟩
  go_wp2_with fail
  refine (cP.out _).mono ?_
  rintro e u2 ⟨A, c, rfl, hC, hB⟩
  have HL := Lib.hid (HL0.out.later hB)
  have HC := Lib.hid (show Cells (w.heap.size + 2) u2 A a from hC.up HL0.out.s)
  clear hC hB HL0 cG cP
  obtain ⟨n, hn⟩ : ∃ n, a.length = n := ⟨_, rfl⟩
  rw [hn] at hlen ⊢
  have HA := Lib.hid hn
  have hway : ((oa = false ∨ (oa = true ∧ ((n : Int) != 8) = true)) ∧ Hid (x = false ∧ p = zero8)) ∨ (oa = true ∧ ((n : Int) != 8) = false ∧ n = 8 ∧ Hid (x = true ∧ p = ints a)) := by
    obtain ⟨h1, h2⟩ := HN.out
    rw [hn] at h1 h2
    cases oa
    · have h3 : x = false := by simpa using h1
      exact .inl ⟨.inl rfl, Lib.hid ⟨h3, HZ.out h3⟩⟩
    · by_cases h8 : n = 8
      · exact .inr ⟨rfl, by simp [h8], h8, Lib.hid ⟨by simpa [h8] using h1, h2 rfl h8⟩⟩
      · have h3 : x = false := by simpa [h8] using h1
        exact .inl ⟨.inr ⟨rfl, by simp; omega⟩, Lib.hid ⟨h3, HZ.out h3⟩⟩
  clear hn HN HZ
  rcases hway with ⟨hw1, HNo⟩ | ⟨rfl, e1, rfl, HYes⟩
  · rcases hw1 with rfl | ⟨rfl, e1⟩
    all_goals
      go_wp2_with (first
        | ((with_reducible refine wp_load22 (o := ⟨some 31, .load 22 (.tmp 4), _, _, _, _⟩) ?_ (.tmp 4) ?_ (w.heap.size + 1) ?_ zero8 ?_ HL.out.p ?_); (· rfl); (· rfl); (· rfl); (· rfl))
        | ((with_reducible refine wp_store22 (o := ⟨none, .store 22 (.tmp 2) (.tmp 31), _, _, _, _⟩) ?_ (.tmp 2) (.tmp 31) ?_ w.heap.size ?_ zero8 ?_ ?_ zero8 ?_ HL.out.r ?_); (· rfl); (· rfl); (· rfl); (· rfl); (· rfl); (· rfl)))
      obtain ⟨rfl, rfl⟩ := HNo.out
      exact bodyPost_ret (results11 _ _ _ zero8 rfl false rfl rfl (HL.out.done zero8).1) rfl ⟨rfl, (HL.out.done zero8).2⟩
  · have HF := Lib.hid (show fillA a 8 = ints a by unfold fillA; rw [List.take_of_length_le (by have := HA.out; omega)]; simp)
    go_wp2
    go_loopw [8] (fun i wr => ∃ k : Nat, k ≤ 8 ∧ i = .int .i64 k ∧ Hid (Lies w (fillA a k) wr) ∧ Hid (Cells (w.heap.size + 2) wr A a)) (fun i _ => 8 - (intOf i).toNat)
    case atStart => exact ⟨0, Nat.zero_le _, rfl, HL, HC⟩
    case round =>
      clear HL HC
      obtain ⟨k, hk, rfl, HL, HC⟩ := hrel
      by_cases hlt : k < 8
      · have t1 : (k : Int) < 8 := by omega
        have hka : k < a.length := by have := HA.out; omega
        obtain ⟨g, rfl, hg1, hg2, hcell⟩ := HC.out k hka
        have hkl : k < (fillA a k).length := by rw [fillA_len a k (by omega) hk]; exact hlt
        obtain ⟨y, hy⟩ : ∃ y, (fillA a k)[k]'hkl = y := ⟨_, rfl⟩
        have hc := HL.out.p.cell k hkl
        rw [hy] at hc
        clear hy
        have hf := HL.out.p.frozen k
        have HS := Lib.hid (fillA_set a k hka hlt)
        obtain ⟨z, hz⟩ : ∃ z, a[k] = z := ⟨_, rfl⟩
        rw [hz] at hcell HS
        clear hz hka hkl
        go_wp2
        go_roundw
        case rel =>
          refine ⟨k + 1, by omega, by go_num, Lib.hid ?_, Lib.hid (HC.out.set _ _ _ (by omega))⟩
          rw [← HS.out]
          exact HL.out.set k _
        case measure => simp [intOf]; omega
      · obtain rfl : k = 8 := by omega
        have hL := HL.out
        rw [HF.out] at hL
        have HL2 := Lib.hid hL
        have HI8 := Lib.hid (show (ints a).length = 8 by rw [ints_len]; exact HA.out)
        clear hL HL HC
        go_wp2_with (first
          | ((with_reducible refine wp_load22 (o := ⟨some 42, .load 22 (.tmp 4), _, _, _, _⟩) ?_ (.tmp 4) ?_ (w.heap.size + 1) ?_ (ints a) HI8.out HL2.out.p ?_); (· rfl); (· rfl); (· rfl))
          | ((with_reducible refine wp_store22 (o := ⟨none, .store 22 (.tmp 2) (.tmp 42), _, _, _, _⟩) ?_ (.tmp 2) (.tmp 42) ?_ w.heap.size ?_ (ints a) ?_ HI8.out zero8 ?_ HL2.out.r ?_); (· rfl); (· rfl); (· rfl); (· rfl); (· rfl)))
        obtain ⟨rfl, rfl⟩ := HYes.out
        exact bodyPost_ret (results11 _ _ _ (ints a) HI8.out true rfl rfl (HL2.out.done (ints a)).1) rfl ⟨rfl, (HL2.out.done (ints a)).2⟩
set_option maxRecDepth 100000 in
set_option maxHeartbeats 8000000 in
theorem refParse_hit (s : ByteArray) (hs : s.size ≤ 1000000) (k : Nat) (hg : Lib.index s.data.toList [58, 58] = k) (p : List Int) (x : Bool) (hp : parI s.data.toList = p) (hx : parB s.data.toList = x) (w : World) :
    Calls Tryd.prog 11 #[.string s] w fun e W' => e = .returned (.tuple #[.agg (arr p), .bool x]) ∧ Below w.heap.size w W' := by
  obtain ⟨hk2, hN, hI⟩ := par_hit s.data.toList k hg
  have hz : x = false → p = zero8 := fun h => by rw [← hp]; unfold parI; rw [hx, h]; rfl
  rw [hx] at hN
  rw [hp] at hI
  have hsl : s.data.toList.length = s.size := rfl
  have ea : (s.extract 0 k).data.toList = s.data.toList.take k := by rw [Lib.extract_data]; simp
  have eb : (s.extract (k + 2) s.size).data.toList = s.data.toList.drop (k + 2) := by rw [Lib.extract_data, ← hsl]; exact List.take_of_length_le (by simp)
  have hla : (s.extract 0 k).size ≤ 1000000 := by have : (s.extract 0 k).data.toList.length = (s.extract 0 k).size := rfl; rw [ea, List.length_take] at this; omega
  have hlb : (s.extract (k + 2) s.size).size ≤ 1000000 := by have : (s.extract (k + 2) s.size).data.toList.length = (s.extract (k + 2) s.size).size := rfl; rw [eb, List.length_drop] at this; omega
  have cA := Lib.hid (fun u => refPieces_any (s.extract 0 k) hla u)
  have cB := Lib.hid (fun u => refPieces_any (s.extract (k + 2) s.size) hlb u)
  have hva := valR_len (s.extract 0 k).data.toList
  have hvb := valR_len (s.extract (k + 2) s.size).data.toList
  rw [show (s.extract 0 k).data.toList.length = (s.extract 0 k).size from rfl] at hva
  rw [show (s.extract (k + 2) s.size).data.toList.length = (s.extract (k + 2) s.size).size from rfl] at hvb
  rw [ea] at cA hva
  rw [eb] at cB hvb
  have hva' : (valR (s.data.toList.take k)).length ≤ 1000001 := by omega
  have hvb' : (valR (s.data.toList.drop (k + 2))).length ≤ 1000001 := by omega
  have hk1 : k + 2 ≤ s.size := by omega
  have hk0 : k ≤ s.size := by omega
  have HL0 := Lib.hid (Lies.new w)
  have cG := Lib.hid (fun u => refGap_any s hs k hg u)
  have HN := Lib.hid hN
  have HI := Lib.hid hI
  have HZ := Lib.hid hz
  clear hN hI hz hp hx hg hsl ea eb hla hlb hva hvb hk2
  generalize valR (s.data.toList.take k) = a at HN HI cA hva'
  generalize valR (s.data.toList.drop (k + 2)) = b at HN HI cB hvb'
  generalize okL (s.data.toList.take k) = oa at HN HI cA
  generalize okL (s.data.toList.drop (k + 2)) = ob at HN HI cB
  go_enter Tryd.func11, Tryd.ntmps11
  go_wp2_with fail
  rw [zero_arr]
  generalize (w.alloc (.cells (arr zero8) 22)).alloc (.cells (arr zero8) 22) = W at HL0 ⊢
  refine (cG.out _).mono ?_
  rintro e u1 ⟨rfl, rfl⟩
  go_wp2_with fail
  refine (cA.out _).mono ?_
  rintro e u2 ⟨A, ca, rfl, hCa, hB⟩
  have HL1 := Lib.hid (HL0.out.later hB)
  have HC1 := Lib.hid (show Cells (w.heap.size + 2) u2 A a from hCa.up HL0.out.s)
  clear hCa hB HL0 cG cA
  go_wp2_with fail
  refine (cB.out _).mono ?_
  rintro e u3 ⟨B, cb, rfl, hCb, hB⟩
  have HL := Lib.hid (HL1.out.later hB)
  have HCa := Lib.hid (HC1.out.later hB)
  have HCb := Lib.hid (show Cells (w.heap.size + 2) u3 B b from hCb.up HL1.out.s)
  clear hCb hB HL1 HC1 cB
  obtain ⟨na, hna⟩ : ∃ n, a.length = n := ⟨_, rfl⟩
  obtain ⟨nb, hnb⟩ : ∃ n, b.length = n := ⟨_, rfl⟩
  rw [hna] at hva' ⊢
  rw [hnb] at hvb' ⊢
  have HA := Lib.hid hna
  have HBl := Lib.hid hnb
  have hway : ((oa = false ∨ (oa = true ∧ ob = false) ∨ (oa = true ∧ ob = true ∧ decide ((7 : Int) < (na : Int) + (nb : Int)) = true)) ∧ Hid (x = false ∧ p = zero8)) ∨ (oa = true ∧ ob = true ∧ decide ((7 : Int) < (na : Int) + (nb : Int)) = false ∧ na + nb ≤ 7 ∧ Hid (x = true ∧ p = ints (fill a b))) := by
    have h1 := HN.out
    have h2 := HI.out
    rw [hna, hnb] at h1 h2
    cases oa
    · have h3 : x = false := by simpa using h1
      exact .inl ⟨.inl rfl, Lib.hid ⟨h3, HZ.out h3⟩⟩
    · cases ob
      · have h3 : x = false := by simpa using h1
        exact .inl ⟨.inr (.inl ⟨rfl, rfl⟩), Lib.hid ⟨h3, HZ.out h3⟩⟩
      · by_cases h8 : na + nb < 8
        · exact .inr ⟨rfl, rfl, decide_eq_false (by omega), by omega, Lib.hid ⟨by simpa [h8] using h1, h2 rfl rfl h8⟩⟩
        · have h3 : x = false := by simpa [h8] using h1
          exact .inl ⟨.inr (.inr ⟨rfl, rfl, decide_eq_true (by omega)⟩), Lib.hid ⟨h3, HZ.out h3⟩⟩
  clear hna hnb HN HI HZ
  rcases hway with ⟨hw1, HNo⟩ | ⟨rfl, rfl, e1, hle, HYes⟩
  · rcases hw1 with rfl | ⟨rfl, rfl⟩ | ⟨rfl, rfl, e1⟩
    all_goals
      go_wp2_with (first
        | ((with_reducible refine wp_load22 (o := ⟨some 72, .load 22 (.tmp 4), _, _, _, _⟩) ?_ (.tmp 4) ?_ (w.heap.size + 1) ?_ zero8 ?_ HL.out.p ?_); (· rfl); (· rfl); (· rfl); (· rfl))
        | ((with_reducible refine wp_store22 (o := ⟨none, .store 22 (.tmp 2) (.tmp 72), _, _, _, _⟩) ?_ (.tmp 2) (.tmp 72) ?_ w.heap.size ?_ zero8 ?_ ?_ zero8 ?_ HL.out.r ?_); (· rfl); (· rfl); (· rfl); (· rfl); (· rfl); (· rfl)))
      obtain ⟨rfl, rfl⟩ := HNo.out
      exact bodyPost_ret (results11 _ _ _ zero8 rfl false rfl rfl (HL.out.done zero8).1) rfl ⟨rfl, (HL.out.done zero8).2⟩
  · clear hva' hvb'
    obtain ⟨q, hq⟩ : ∃ q, q + nb = 8 := ⟨8 - nb, by omega⟩
    have eq8 : (8 : Int) - (nb : Int) = (q : Int) := by omega
    have hq8 : q ≤ 8 := by omega
    have hna8 : na ≤ 8 := by omega
    have hnb8 : nb ≤ 8 := by omega
    have HQ := Lib.hid (show q + nb = 8 ∧ na + nb ≤ 8 from ⟨hq, by omega⟩)
    clear hle hq
    go_wp2
    go_loopw [13] (fun i wr => ∃ k : Nat, k ≤ na ∧ i = .int .i64 k ∧ Hid (Lies w (fillA a k) wr) ∧ Hid (Cells (w.heap.size + 2) wr A a) ∧ Hid (Cells (w.heap.size + 2) wr B b)) (fun i _ => na - (intOf i).toNat)
    case atStart => exact ⟨0, Nat.zero_le _, rfl, HL, HCa, HCb⟩
    case round =>
      clear HL HCa HCb
      obtain ⟨j, hj, rfl, HL, HCa, HCb⟩ := hrel
      by_cases hlt : j < na
      · have t1 : (j : Int) < (na : Int) := by omega
        have hja : j < a.length := by have := HA.out; omega
        have hj8 : j < 8 := by omega
        obtain ⟨g, rfl, hg1, hg2, hcell⟩ := HCa.out j hja
        have hkl : j < (fillA a j).length := by rw [fillA_len a j (by omega) (by omega)]; exact hj8
        obtain ⟨y, hy⟩ : ∃ y, (fillA a j)[j]'hkl = y := ⟨_, rfl⟩
        have hc := HL.out.p.cell j hkl
        rw [hy] at hc
        clear hy
        have hf := HL.out.p.frozen j
        have HS := Lib.hid (fillA_set a j hja hj8)
        obtain ⟨z, hz⟩ : ∃ z, a[j] = z := ⟨_, rfl⟩
        rw [hz] at hcell HS
        clear hz hja hkl
        go_wp2
        go_roundw
        case rel =>
          refine ⟨j + 1, by omega, by go_num, Lib.hid ?_, Lib.hid (HCa.out.set _ _ _ (by omega)), Lib.hid (HCb.out.set _ _ _ (by omega))⟩
          rw [← HS.out]
          exact HL.out.set j _
        case measure => simp [intOf]; omega
      · obtain rfl : j = na := by omega
        have hL := HL.out
        have HFb := Lib.hid (fillB_zero a b (by have := HA.out; have := HBl.out; have := HQ.out; omega))
        have e : fillA a j = fillB a b 0 := by rw [HFb.out, HA.out]
        rw [e] at hL
        have HL2 := Lib.hid hL
        clear hL e HL HCa HFb
        go_wp2
        go_loopw [14] (fun i wr => ∃ k : Nat, k ≤ nb ∧ i = .int .i64 k ∧ Hid (Lies w (fillB a b k) wr) ∧ Hid (Cells (w.heap.size + 2) wr B b)) (fun i _ => nb - (intOf i).toNat)
        case atStart => exact ⟨0, Nat.zero_le _, rfl, HL2, HCb⟩
        case round =>
          clear HL2 HCb
          obtain ⟨i, hi, rfl, HL, HCb⟩ := hrel
          by_cases hlt2 : i < nb
          · have t2 : (i : Int) < (nb : Int) := by omega
            have hib : i < b.length := by have := HBl.out; omega
            obtain ⟨f, hf⟩ : ∃ f, q + i = f := ⟨_, rfl⟩
            have esum : (q : Int) + (i : Int) = (f : Int) := by omega
            have hf8 : f < 8 := by have := HQ.out; omega
            obtain ⟨g, rfl, hg1, hg2, hcell⟩ := HCb.out i hib
            have HAB := Lib.hid (show a.length + b.length ≤ 8 by rw [HA.out, HBl.out]; exact HQ.out.2)
            have hkl : f < (fillB a b i).length := by rw [fillB_len a b i HAB.out (by omega)]; exact hf8
            obtain ⟨y, hy⟩ : ∃ y, (fillB a b i)[f]'hkl = y := ⟨_, rfl⟩
            have hc := HL.out.p.cell f hkl
            rw [hy] at hc
            clear hy
            have hfr := HL.out.p.frozen f
            have HS := Lib.hid (fillB_set a b i q HAB.out hib (by rw [HBl.out]; exact HQ.out.1))
            rw [hf] at HS
            obtain ⟨z, hz⟩ : ∃ z, b[i] = z := ⟨_, rfl⟩
            rw [hz] at hcell HS
            clear hz hib hkl HAB hf
            go_wp2
            go_roundw
            case rel =>
              refine ⟨i + 1, by omega, by go_num, Lib.hid ?_, Lib.hid (HCb.out.set _ _ _ (by omega))⟩
              rw [← HS.out]
              exact HL.out.set f _
            case measure => simp [intOf]; omega
          · obtain rfl : i = nb := by omega
            have hL := HL.out
            have e : fillB a b i = ints (fill a b) := by rw [← HBl.out]; exact fillB_all a b
            rw [e] at hL
            have HL2 := Lib.hid hL
            have HI8 := Lib.hid (show (ints (fill a b)).length = 8 by unfold fill; rw [ints_len]; simp; have := HA.out; have := HBl.out; have := HQ.out; omega)
            clear hL e HL HCb
            go_wp2_with (first
              | ((with_reducible refine wp_load22 (o := ⟨some 101, .load 22 (.tmp 4), _, _, _, _⟩) ?_ (.tmp 4) ?_ (w.heap.size + 1) ?_ (ints (fill a b)) HI8.out HL2.out.p ?_); (· rfl); (· rfl); (· rfl))
              | ((with_reducible refine wp_store22 (o := ⟨none, .store 22 (.tmp 2) (.tmp 101), _, _, _, _⟩) ?_ (.tmp 2) (.tmp 101) ?_ w.heap.size ?_ (ints (fill a b)) ?_ HI8.out zero8 ?_ HL2.out.r ?_); (· rfl); (· rfl); (· rfl); (· rfl); (· rfl)))
            obtain ⟨rfl, rfl⟩ := HYes.out
            exact bodyPost_ret (results11 _ _ _ (ints (fill a b)) HI8.out true rfl rfl (HL2.out.done (ints (fill a b))).1) rfl ⟨rfl, (HL2.out.done (ints (fill a b))).2⟩
/-- The document's Parse. -/
theorem refParse_any (s : ByteArray) (hs : s.size ≤ 1000000) (p : List Int) (x : Bool) (hp : parI s.data.toList = p) (hx : parB s.data.toList = x) (w : World) :
    Calls Tryd.prog 11 #[.string s] w fun e W' => e = .returned (.tuple #[.agg (arr p), .bool x]) ∧ Below w.heap.size w W' := by
  rcases cut_index s.data.toList with ⟨h, _⟩ | ⟨k, h, _⟩
  · exact refParse_none s hs h p x hp hx w
  · exact refParse_hit s hs k h p x hp hx w
end Go.Proofs.YtgfhjigalefkmaaDoor.Six

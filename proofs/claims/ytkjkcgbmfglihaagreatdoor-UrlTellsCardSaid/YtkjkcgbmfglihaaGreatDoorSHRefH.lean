/-
  The document's authority.
-/
import Derived.Deep.MidRow
import Derived.Deep.DeepCutAuto
import Derived.Test.YtkjkcgbmfglihaaGreatDoorSHRefF
import Derived.Test.YtkjkcgbmfglihaaGreatDoorSHRefC
import Derived.Test.YtkjkcgbmfglihaaGreatDoorSHSize
namespace Go.Proofs.YtkjkcgbmfglihaaGreatDoor.Url
open Go.RowKit Go.Shelf
set_option linter.unusedSimpArgs false
set_option linter.unusedVariables false
set_option maxRecDepth 100000
open Host (H mayH showH HostAt okH parH none0)
/-! ### a host written into an address -/
def fillV (cs : Array Value) : Nat → List Value → Array Value
  | _, [] => cs
  | o, v :: r => fillV (cs.setIfInBounds o v) (o + 1) r
theorem heap_setCells {g : Nat} {t : TypeId} {fr : Nat × Nat} : ∀ (vs : List Value) (o : Nat) (w : World) (cs : Array Value), w.heap[g]? = some (.cells cs t fr) → (w.setCells g o vs).heap[g]? = some (.cells (fillV cs o vs) t fr)
  | [], _, _, _, h => h
  | v :: r, o, w, cs, h => heap_setCells r (o + 1) _ _ (heap_set h o v)
theorem heap_setCells_other {g k : Nat} (hk : k ≠ g) : ∀ (vs : List Value) (o : Nat) (w : World), (w.setCells g o vs).heap[k]? = w.heap[k]?
  | [], _, _ => rfl
  | v :: r, o, w => (heap_setCells_other hk r (o + 1) _).trans (Below.heap_setCell _ _ _ _ hk)
theorem below_cells {B g : Nat} {a : World} (hg : B ≤ g) : ∀ (vs : List Value) (o : Nat) (w : World), Below B a w → Below B a (w.setCells g o vs)
  | [], _, _, h => h
  | v :: r, o, w, h => below_cells hg r (o + 1) _ (below_set h hg o v)
theorem UrlAt.hst {w : World} {g : Nat} {u : U} {pv : Value} (a : UrlAt w g u pv) (h8 : u.h.p.length = 8) (k : H) (k8 : k.p.length = 8) : UrlAt (w.setCells g 3 k.cells.toList) g { u with h := k } pv := by
  have := heap_setCells k.cells.toList 3 w _ a
  unfold UrlAt
  rw [this]
  obtain ⟨sch, usr, pas, ⟨k1, s, n, p⟩, port, path, opq, qry, frg, hq, hf⟩ := u
  obtain ⟨a, b, c, d, e, f, g, i, rfl⟩ := eight h8
  obtain ⟨k1, s, n, p⟩ := k
  obtain ⟨a, b, c, d, e, f, g, i, rfl⟩ := eight k8
  refine congrArg (fun c => some (Obj.cells c 27 (0, 0))) ?_
  simp [fillV, Host.H.cells, Host.cH, Six.arr, cU]
theorem url_other {w : World} {g b : Nat} {u : U} {pv : Value} (a : UrlAt w g u pv) (h : g ≠ b) (o : Nat) (v : Value) : UrlAt (w.setCell ⟨b, o, none⟩ v) g u pv := by
  unfold UrlAt
  rw [Below.heap_setCell _ _ _ _ h]
  exact a
theorem url_others {w : World} {g b : Nat} {u : U} {pv : Value} (a : UrlAt w g u pv) (h : g ≠ b) (o : Nat) (vs : List Value) : UrlAt (w.setCells b o vs) g u pv := by
  unfold UrlAt
  rw [heap_setCells_other h]
  exact a
theorem wp_store24u {ops : Array Oper} {rest : List Oper} {o : Oper} {a : Act} {w : World} {Q : Exit → Act → World → Prop} (hgd : o.guard = none) (x y : Operand) (ho : o.op = .store 24 x y) (g : Nat) (hx : a.eval x = .pointer (some ⟨g, 3, none⟩))
    (k : H) (hy : a.eval y = .agg k.cells) (k8 : k.p.length = 8) (u : U) (pv : Value) (h8 : u.h.p.length = 8) (hr : UrlAt w g u pv) (hk : wpList Tryz.prog ops Q rest (a.put o.dst undef) (w.setCells g 3 k.cells.toList)) : wpList Tryz.prog ops Q (o :: rest) a w := by
  refine wpList_store_mid hgd 24 x y ho g 3 k.cells hx hy (fun j hj => ⟨?_, hr.free _⟩) (by rw [k.size k8]; exact Host.size24) k.one hk
  rw [hr.cell]
  rw [k.size k8] at hj
  have : (cU u pv).size = 21 := cU_size u pv h8
  rw [Array.getElem?_eq_getElem (by omega)]
  rfl
/-! ### the last at sign -/
def atQ (l : T) : Nat := if (64 : UInt8) ∈ l then (lbef 64 l).length + 1 else 0
theorem atQ_nil : atQ [] = 0 := rfl
theorem atQ_hit (l : T) : atQ (l ++ [64]) = l.length + 1 := by
  unfold atQ
  rw [if_pos (by simp), lbef_at l [] (by simp)]
theorem atQ_miss (l : T) (c : UInt8) (h : c ≠ 64) : atQ (l ++ [c]) = atQ l := by
  unfold atQ
  rcases lparted 64 l with hn | ⟨a, r, rfl, hr⟩
  · rw [if_neg hn, if_neg (by simp [hn, Ne.symm h])]
  · rw [if_pos (by simp), if_pos (by simp), lbef_at a r hr, List.append_assoc, List.cons_append, lbef_at a (r ++ [c]) (by simp [hr, Ne.symm h])]
theorem atQ_ways (l : T) : (atQ l = 0 ∧ (64 : UInt8) ∉ l ∧ place l = l ∧ user l = [] ∧ pass l = []) ∨ (∃ p, atQ l = p + 1 ∧ p < l.length ∧ l.take p = lbef 64 l ∧ p = (lbef 64 l).length ∧ place l = l.drop (p + 1)) := by
  rcases lparted 64 l with hn | ⟨a, r, rfl, hr⟩
  · left
    refine ⟨by unfold atQ; rw [if_neg hn], hn, laft_no l hn, ?_, ?_⟩
    · unfold user; rw [lbef_no l hn]; rfl
    · unfold pass; rw [lbef_no l hn]; rfl
  · right
    have e := lbef_at a r hr
    refine ⟨a.length, by unfold atQ; rw [if_pos (by simp), e], by simp, by rw [e, List.take_left], by rw [e], ?_⟩
    unfold place
    rw [laft_at a r hr]
    simp
theorem take_at (s : ByteArray) (k : Nat) (h : k < s.size) : s.data.toList.take (k + 1) = s.data.toList.take k ++ [s[k]] := by
  rw [List.take_succ_eq_append_getElem (by exact h)]; rfl
theorem ret_auth {tmps : Array Value} {W : World} (g : Nat) (u : U) (pv : Value) (h8 : u.h.p.length = 8) (b : Bool) (hp : tmps.getD 4 undef = .pointer (some ⟨g, 0, none⟩)) (hb : tmps.getD 5 undef = .bool b) (hr : UrlAt W g u pv) :
    (results Tryz.f43 tmps).run Tryz.prog W = .ok (.tuple #[.agg (cU u pv), .bool b]) W := by
  have hp' : tmps[4]?.getD undef = .pointer (some ⟨g, 0, none⟩) := by simpa using hp
  have hb' : tmps[5]?.getD undef = .bool b := by simpa using hb
  simp [results, Tryz.results43, hp', hb', asAddr, hr.load h8]
/-- How the place ahead of the port begins. -/
theorem inside_ways (D : ByteArray) : (decide (0 < D.size) = false ∧ inside D.data.toList = 0) ∨ (∃ h : 0 < D.size, ((D[0].toNat : Int) == 91) = false ∧ inside D.data.toList = 0) ∨
    (∃ h : 0 < D.size, ((D[0].toNat : Int) == 91) = true ∧ (((findN 93 D.data.toList 0 : Nat) : Int) == (D.size : Int)) = true ∧ inside D.data.toList = 0) ∨
    (∃ h : 0 < D.size, ((D[0].toNat : Int) == 91) = true ∧ (((findN 93 D.data.toList 0 : Nat) : Int) == (D.size : Int)) = false ∧ inside D.data.toList = findN 93 D.data.toList 0) := by
  by_cases h0 : 0 < D.size
  · right
    have e := Pct.drop_cons D 0 h0
    rw [List.drop_zero] at e
    by_cases h91 : D[0] = 91
    · right
      have hp : Lib.hasPrefix D.data.toList [91] = true := by rw [Host.pre_iff]; exact ⟨_, by rw [e, h91]⟩
      have hh := find_has 93 D
      cases hc : D.data.toList.contains 93
      · rw [hc] at hh
        exact .inl ⟨h0, by rw [h91]; rfl, hh.symm, by unfold inside; rw [hc, Bool.and_false]; rfl⟩
      · rw [hc] at hh
        exact .inr ⟨h0, by rw [h91]; rfl, hh.symm, by unfold inside; rw [hc, hp, find_bef]; rfl⟩
    · refine .inl ⟨h0, beq_eq_false_iff_ne.2 (fun q => h91 (UInt8.toNat_inj.1 (by simpa using (by omega : D[0].toNat = 91)))), ?_⟩
      unfold inside
      cases hc : Lib.hasPrefix D.data.toList [91]
      · rfl
      · obtain ⟨r, hr⟩ := (Host.pre_iff _).1 hc
        rw [hr] at e
        exact absurd (List.cons.inj e).1.symm h91
  · left
    have : D.data.toList = [] := List.length_eq_zero_iff.1 (by rw [size_list]; omega)
    exact ⟨decide_eq_false h0, by rw [this]; rfl⟩
set_option maxHeartbeats 32000000 in
theorem refAuth_any (u : U) (pv : Value) (h8 : u.h.p.length = 8) (hu1 : u.usr = []) (hu2 : u.pas = []) (s : ByteArray) (hs : s.size ≤ 9000) (b : Bool) (hb : (okH (hname (place s.data.toList)) && portB (digs (place s.data.toList))) = b) (x : U)
    (hx : (if b then { u with usr := Pct.encode 4 (user s.data.toList), pas := Pct.encode 4 (pass s.data.toList), h := parH (hname (place s.data.toList)), port := portI u.sch (digs (place s.data.toList)) } else none1) = x) (w : World) (hst : Path.Strs w pv u.path) :
    Calls Tryz.prog 43 #[.agg (cU u pv), .string s] w fun e w' => e = .returned (.tuple #[.agg (cU x (if b then pv else .slice none 0 0)), .bool b]) ∧ Below w.heap.size w w' := by
  have hs1 : (w.alloc (.cells (cU u pv) 27)).heap.size = w.heap.size + 1 := Array.size_push _
  have hone := strs_one hst
  have HU := Lib.hid ((UrlAt.new w u pv).past (.cells #[.string ⟨#[]⟩, .string ⟨#[]⟩, .string ⟨#[]⟩, .int .i64 0, .string ⟨#[]⟩, .int .i64 0, .int .i64 0, .int .i64 0, .int .i64 0, .int .i64 0, .int .i64 0, .int .i64 0, .int .i64 0, .int .i64 0, .int .i64 0, .slice none 0 0, .string ⟨#[]⟩, .string ⟨#[]⟩, .string ⟨#[]⟩, .bool false, .bool false] 27))
  have hz := new_url (w.alloc (.cells (cU u pv) 27))
  rw [hs1] at hz
  have HZ := Lib.hid hz
  have HB := Lib.hid (((Below.refl w.heap.size w).alloc (Nat.le_refl _) (.cells (cU u pv) 27)).alloc (by omega) (.cells #[.string ⟨#[]⟩, .string ⟨#[]⟩, .string ⟨#[]⟩, .int .i64 0, .string ⟨#[]⟩, .int .i64 0, .int .i64 0, .int .i64 0, .int .i64 0, .int .i64 0, .int .i64 0, .int .i64 0, .int .i64 0, .int .i64 0, .int .i64 0, .slice none 0 0, .string ⟨#[]⟩, .string ⟨#[]⟩, .string ⟨#[]⟩, .bool false, .bool false] 27))
  clear hs1 hz hst
  obtain ⟨D, hD⟩ : ∃ x, tb (place s.data.toList) = x := ⟨_, rfl⟩
  obtain ⟨q, hq⟩ : ∃ x, atQ s.data.toList = x := ⟨_, rfl⟩
  obtain ⟨I, hI⟩ : ∃ x, inside D.data.toList = x := ⟨_, rfl⟩
  obtain ⟨f, hf⟩ : ∃ x, findN 93 D.data.toList 0 = x := ⟨_, rfl⟩
  obtain ⟨k, hk⟩ : ∃ x, findN 58 D.data.toList I = x := ⟨_, rfl⟩
  obtain ⟨Nm, hNm⟩ : ∃ x, tb (hname D.data.toList) = x := ⟨_, rfl⟩
  obtain ⟨G, hG⟩ : ∃ x, tb (digs D.data.toList) = x := ⟨_, rfl⟩
  obtain ⟨h, hh⟩ : ∃ x, parH (hname D.data.toList) = x := ⟨_, rfl⟩
  obtain ⟨b1, hb1⟩ : ∃ x, okH (hname D.data.toList) = x := ⟨_, rfl⟩
  obtain ⟨b2, hb2⟩ : ∃ x, portB (digs D.data.toList) = x := ⟨_, rfl⟩
  obtain ⟨z, hz⟩ : ∃ z, (if b2 then portI u.sch (digs D.data.toList) else 0) = z := ⟨_, rfl⟩
  obtain ⟨S, hS⟩ : ∃ x, tb u.sch = x := ⟨_, rfl⟩
  have hDl := list_tb hD
  have hD1 : D.size ≤ s.size := by rw [size_tb hD]; unfold place; exact laft_len _ _
  have hI1 : I ≤ D.size := by rw [← hI]; exact inside_le D.data.toList
  have hk1 : I ≤ k ∧ k ≤ D.size := by
    rw [← hk]
    exact ⟨Nat.le_add_right _ _, find_le 58 _ I hI1⟩
  have hkb : k = I + (bef 58 (D.data.toList.drop I)).length := hk.symm
  have pn : D.extract 0 k = Nm := by rw [piece_to D _ hk1.2, ← hNm, hname_take, hI, ← hkb]
  have hNs : Nm.size ≤ 9000 := by rw [← pn, piece_to D _ hk1.2, tb_size, List.length_take, size_list]; omega
  have hGk : (k < D.size → D.extract (k + 1) D.size = G) ∧ (k = D.size → (⟨#[]⟩ : ByteArray) = G) := by
    refine ⟨fun hlt => ?_, fun he => ?_⟩
    · rw [piece_from D _ (by omega), ← hG]
      unfold digs
      rw [hI, ← aft_drop, List.drop_drop, hkb]
      congr 2
    · rw [← hG]
      unfold digs
      rw [hI, aft_no _ ((bef_full 58 _).1 (by rw [List.length_drop, size_list]; omega))]; rfl
  have hGs : G.size ≤ 9000 := by
    rw [size_tb hG]
    unfold digs
    have := aft_len 58 (D.data.toList.drop (inside D.data.toList))
    rw [List.length_drop, size_list] at this
    omega
  have CF := Lib.hid (fun y => refFind_any D (by omega) 93 0 (Nat.zero_le _) f hf y)
  have CK := Lib.hid (fun y => refFind_any D (by omega) 58 I hI1 k hk y)
  have CH := Lib.hid (fun y => refHostParse_any Nm (by omega) h b1 (by rw [list_tb hNm]; exact hh) (by rw [list_tb hNm]; exact hb1) y)
  have CP := Lib.hid (fun y => refPort_any G S (by omega) b2 (by rw [list_tb hG]; exact hb2) z (by rw [list_tb hG, list_tb hS]; exact hz) y)
  have H8h := Lib.hid (show h.p.length = 8 by rw [← hh]; exact Host.parH_len _)
  rw [← hDl] at hb hx
  rw [hb1, hb2] at hb
  rw [hh] at hx
  have HX0 := Lib.hid (show b = false → x = none1 from fun e => by rw [← hx, e]; rfl)
  have HX1 := Lib.hid (show b = true → x = { u with usr := Pct.encode 4 (user s.data.toList), pas := Pct.encode 4 (pass s.data.toList), h := h, port := z } from fun e => by
    have e2 : b2 = true := by rw [e] at hb; cases b1 <;> cases b2 <;> first | rfl | cases hb
    rw [← hx, if_pos e, ← hz, if_pos e2])
  have HIW := Lib.hid (inside_ways D)
  rw [hf, hI] at HIW
  have pd : s.extract q s.size = D ∧ q ≤ s.size := by
    rcases atQ_ways s.data.toList with ⟨e, _, e2, _⟩ | ⟨p, e, e1, _, _, e2⟩
    · have : q = 0 := by rw [← hq, e]
      rw [this, piece_from s 0 (Nat.zero_le _), List.drop_zero, ← hD, e2]
      exact ⟨rfl, Nat.zero_le _⟩
    · rw [size_list] at e1
      have : q = p + 1 := by rw [← hq, e]
      rw [this, piece_from s _ (by omega), ← hD, e2]
      exact ⟨rfl, by omega⟩
  have HQW := Lib.hid (atQ_ways s.data.toList)
  rw [hq] at HQW
  have HQ := Lib.hid hq
  have HSs := Lib.hid hS
  have HPD := Lib.hid pd
  have HGK := Lib.hid hGk
  have HPN := Lib.hid pn
  have HHb := Lib.hid hb
  have H1 := Lib.hid hu1
  have H2 := Lib.hid hu2
  have H8 := Lib.hid h8
  clear hD hq hI hf hk hNm hG hh hb1 hb2 hz hS hDl hkb pn hGk hb hx pd hu1 hu2 h8
  go_enter Tryz.func43, Tryz.ntmps43
  go_upto_region 1 with fail
  generalize (w.alloc (.cells (cU u pv) 27)).alloc (.cells #[.string ⟨#[]⟩, .string ⟨#[]⟩, .string ⟨#[]⟩, .int .i64 0, .string ⟨#[]⟩, .int .i64 0, .int .i64 0, .int .i64 0, .int .i64 0, .int .i64 0, .int .i64 0, .int .i64 0, .int .i64 0, .int .i64 0, .int .i64 0, .slice none 0 0, .string ⟨#[]⟩, .string ⟨#[]⟩, .string ⟨#[]⟩, .bool false, .bool false] 27) = V at HU HZ HB ⊢
  go_wp2
  go_loop [6, 7] (fun v i => ∃ (j p : Nat), j ≤ s.size ∧ p ≤ j ∧ v = .int .i64 ((p : Int) - 1) ∧ i = .int .i64 j ∧ Hid (atQ (s.data.toList.take j) = p)) (fun _ i => s.size - (intOf i).toNat)
  case atStart => exact ⟨0, 0, Nat.zero_le _, Nat.le_refl _, rfl, rfl, Lib.hid rfl⟩
  case round =>
    obtain ⟨j, p, hj, hpj, rfl, rfl, HJ⟩ := hrel
    by_cases hlt : j < s.size
    · have e := take_at s j hlt
      by_cases h64 : s[j] = 64
      · have q1 : ((s[j].toNat : Int) == 64) = true := by rw [h64]; rfl
        have HN := Lib.hid (show atQ (s.data.toList.take (j + 1)) = j + 1 from by rw [e, h64, atQ_hit, List.length_take, Nat.min_eq_left (by rw [size_list]; omega)])
        clear e h64 HJ
        go_wp2
        go_round
        case rel => exact ⟨j + 1, j + 1, by omega, Nat.le_refl _, by simp, by go_num, HN⟩
        case measure => simp [intOf]; omega
      · have q1 : ((s[j].toNat : Int) == 64) = false := beq_eq_false_iff_ne.2 (fun q => h64 (UInt8.toNat_inj.1 (by simpa using (by omega : s[j].toNat = 64))))
        have HN := Lib.hid (show atQ (s.data.toList.take (j + 1)) = p from by rw [e, atQ_miss _ _ h64, HJ.out])
        clear e h64 HJ
        go_wp2
        go_round
        case rel => exact ⟨j + 1, p, by omega, by omega, rfl, by go_num, HN⟩
        case measure => simp [intOf]; omega
    · obtain rfl : j = s.size := by omega
      have hpq : p = q := by
        have := HJ.out
        rw [List.take_of_length_le (by rw [size_list]; exact Nat.le_refl _), HQ.out] at this
        exact this.symm
      subst hpq
      clear HJ
      obtain ⟨T29, h29⟩ : ∃ b, decide ((0 : Int) ≤ (p : Int) - 1) = b := ⟨_, rfl⟩
      have h29b : decide ((1 : Int) ≤ (p : Int)) = T29 := by rw [← h29]; exact decide_eq_decide.2 (by omega)
      have h29c : decide (0 < p) = T29 := by rw [← h29]; exact decide_eq_decide.2 (by omega)
      have h29d : decide (1 ≤ p) = T29 := by rw [← h29]; exact decide_eq_decide.2 (by omega)
      have HT := Lib.hid (show (T29 = true → 0 < p) ∧ (T29 = false → p = 0) from by
        rw [← h29]
        exact ⟨fun h => by have := of_decide_eq_true h; omega, fun h => by have := of_decide_eq_false h; omega⟩)
      obtain ⟨EU, hEU⟩ : ∃ x : T, Pct.encode 4 (user s.data.toList) = x := ⟨_, rfl⟩
      obtain ⟨EP, hEP⟩ : ∃ x : T, Pct.encode 4 (pass s.data.toList) = x := ⟨_, rfl⟩
      rw [hEU, hEP] at HX1
      have KEU := Lib.hid hEU
      have KEP := Lib.hid hEP
      clear hEU hEP
      go_upto_if 29 with (fail)
      clear h29 h29b h29c h29d
      go_cut [6] (fun v6 wx => v6 = .int .i64 ((p : Int) - 1) ∧ Hid (UrlAt wx w.heap.size { u with usr := EU, pas := EP } pv) ∧ Hid (UrlAt wx (w.heap.size + 1) none1 (.slice none 0 0)) ∧ Hid (Below w.heap.size w wx))
      case first =>
        cases T29
        · obtain rfl := HT.out.2 rfl
          go_wp2_with fail
          go_meet
          have hu : ({ u with usr := EU, pas := EP } : U) = u := by
            rcases HQW.out with ⟨_, _, _, e1, e2⟩ | ⟨p, e, _⟩
            · rw [← KEU.out, ← KEP.out, e1, e2]
              have a1 := H1.out
              have a2 := H2.out
              cases u
              simp only at a1 a2
              rw [a1, a2]; rfl
            · omega
          rw [hu]
          exact ⟨by first | rfl | simp, HU, HZ, HB⟩
        · have hp0 := HT.out.1 rfl
          obtain ⟨r, rfl⟩ : ∃ r, p = r + 1 := ⟨p - 1, by omega⟩
          obtain ⟨A, hA⟩ : ∃ x, tb (lbef 64 s.data.toList) = x := ⟨_, rfl⟩
          have hway : r < s.size ∧ s.data.toList.take r = lbef 64 s.data.toList ∧ r = (lbef 64 s.data.toList).length := by
            rcases HQW.out with ⟨e, _⟩ | ⟨r', e, e1, e2, e3, _⟩
            · omega
            · obtain rfl : r = r' := by omega
              exact ⟨e1, e2, e3⟩
          obtain ⟨hr1, hr2, hr3⟩ := hway
          have pA : s.extract 0 r = A := by rw [piece_to s _ (by omega), hr2, hA]
          have hAs : A.size = r := by rw [size_tb hA]; exact hr3.symm
          obtain ⟨c, hc⟩ : ∃ x, findN 58 A.data.toList 0 = x := ⟨_, rfl⟩
          have hc2 : c = (bef 58 (lbef 64 s.data.toList)).length := by rw [← hc, find_bef, list_tb hA]
          have hcr : c ≤ r := by rw [hc2]; have := bef_len 58 (lbef 64 s.data.toList); omega
          obtain ⟨X, hX⟩ : ∃ x, tb (user s.data.toList) = x := ⟨_, rfl⟩
          obtain ⟨Y, hY⟩ : ∃ x, tb (pass s.data.toList) = x := ⟨_, rfl⟩
          have hbr : s.data.toList.take c = (lbef 64 s.data.toList).take c := by rw [← hr2, List.take_take, Nat.min_eq_left hcr]
          have pX : s.extract 0 c = X := by
            rw [piece_to s _ (by omega), hbr, ← hX]
            unfold user
            rw [hc2, bef_take]
          have pY : c < r → s.extract (c + 1) r = Y := fun h => by
            rw [piece_mid, hr2, ← hY]
            unfold pass
            rw [← aft_drop, hc2]
          have pN : c = r → EP = [] := fun h => by
            rw [← KEP.out]
            unfold pass
            rw [aft_no _ ((bef_full 58 _).1 (by omega))]; rfl
          have hXs : X.size ≤ 9000 := by rw [← pX, piece_to s _ (by omega), tb_size, List.length_take, size_list]; omega
          have hYs : Y.size ≤ 9000 := by
            rw [size_tb hY]; unfold pass
            have h1 := aft_len 58 (lbef 64 s.data.toList)
            have h2 := lbef_len 64 s.data.toList
            rw [size_list] at h2
            omega
          have CA := Lib.hid (fun y => refFind_any A (by omega) 58 0 (Nat.zero_le _) c hc y)
          have CX := Lib.hid (fun y => show Calls Tryz.prog 41 #[.string X, .int .i64 4] y fun e w' => e = .returned (.string (tb EU)) ∧ Below y.heap.size y w' from by
            have := Pct.refEncode_any X (by omega) 4 y
            rw [list_tb hX, KEU.out] at this
            exact this)
          have CY := Lib.hid (fun y => show Calls Tryz.prog 41 #[.string Y, .int .i64 4] y fun e w' => e = .returned (.string (tb EP)) ∧ Below y.heap.size y w' from by
            have := Pct.refEncode_any Y (by omega) 4 y
            rw [list_tb hY, KEP.out] at this
            exact this)
          have KY := Lib.hid pY
          have KN := Lib.hid pN
          have KX := Lib.hid pX
          have KH2 := Lib.hid (show EP = [] → ({ u with usr := EU, pas := EP } : U) = { u with usr := EU } from fun e => by
            have a2 := H2.out
            cases u
            simp only at a2
            rw [a2, e])
          clear hA hr2 hr3 hc hc2 hX hY hbr pX pY pN hXs hYs hp0 hAs
          have e6 : (((r + 1 : Nat) : Int) - 1) = (r : Int) := by omega
          have E6 := Lib.hid e6
          rw [e6]
          clear e6
          go_wp2_with fail
          refine (CA.out _).mono ?_
          rintro e X1 ⟨rfl, rfl⟩
          have px := KX.out
          clear pA
          go_wp2_with fail
          refine (CX.out _).mono ?_
          rintro e X1 ⟨rfl, hB⟩
          have HU1 := Lib.hid (HU.out.later hB)
          have HZ1 := Lib.hid (HZ.out.later hB)
          have HB1 := Lib.hid (HB.out.trans (hB.mono HB.out.size))
          clear hB px CX CA HU HZ HB
          have f1 := HU1.out.free 1
          have g1 := HU1.out.cell 1
          rw [(cU_at u pv H8.out).2.1] at g1
          have HU2 := Lib.hid (Show.at_usr HU1.out H8.out EU)
          have HZ2 := Lib.hid (url_other HZ1.out (by omega : w.heap.size + 1 ≠ w.heap.size) 1 (.string (tb EU)))
          have HB2 := Lib.hid (below_set HB1.out (Nat.le_refl w.heap.size) 1 (.string (tb EU)))
          clear HU1 HZ1 HB1
          by_cases hlt : c < r
          · have py := KY.out hlt
            have q1 : decide (c < r) = true := decide_eq_true hlt
            go_wp2_with fail
            generalize X1.setCell ⟨w.heap.size, 1, none⟩ (.string (tb EU)) = X2 at HU2 HZ2 HB2 ⊢
            clear f1 g1
            refine (CY.out _).mono ?_
            rintro e X3 ⟨rfl, hB⟩
            have HU3 := Lib.hid (HU2.out.later hB)
            have HZ3 := Lib.hid (HZ2.out.later hB)
            have HB3 := Lib.hid (HB2.out.trans (hB.mono HB2.out.size))
            clear hB HU2 HZ2 HB2 py q1
            have f2 := HU3.out.free 2
            have g2 := HU3.out.cell 2
            rw [(cU_at _ pv (show ({ u with usr := EU } : U).h.p.length = 8 from H8.out)).2.2.1] at g2
            have HU4 := Lib.hid (Show.at_pas HU3.out H8.out EP)
            have HZ4 := Lib.hid (url_other HZ3.out (by omega : w.heap.size + 1 ≠ w.heap.size) 2 (.string (tb EP)))
            have HB4 := Lib.hid (below_set HB3.out (Nat.le_refl w.heap.size) 2 (.string (tb EP)))
            clear HU3 HZ3 HB3
            go_wp2_with fail
            go_meet
            exact ⟨by rw [E6.out], HU4, HZ4, HB4⟩
          · have hcr2 : c = r := by omega
            have q1 : decide (c < r) = false := decide_eq_false hlt
            have hEP := KN.out hcr2
            have hu := KH2.out hEP
            rw [← hu] at HU2
            have HU2 := Lib.hid HU2.out
            clear hlt hcr2 hEP hu
            go_wp2_with fail
            go_meet
            exact ⟨by rw [E6.out], HU2, HZ2, HB2⟩
      case rest =>
        obtain ⟨rfl, HU1, HZ1, HB1⟩ := hcut
        clear HU HZ HB HQW HT HQ
        obtain ⟨W1, hW1⟩ : ∃ W1, W1 = wc := ⟨_, rfl⟩
        subst hW1
        obtain ⟨d51, hd51⟩ := HPD.out
        have e51 : ((p : Int) - 1 + 1) = (p : Int) := by omega
        have HT60 := Lib.hid (show ∃ T60 : Bool, (T60 = false ∧ I = 0 ∧ (decide (0 < D.size) = false ∨ ∃ h : 0 < D.size, ((D[0].toNat : Int) == 91) = false)) ∨ (T60 = true ∧ ∃ h : 0 < D.size, ((D[0].toNat : Int) == 91) = true ∧ ((((f : Int) == (D.size : Int)) = true ∧ I = 0) ∨ (((f : Int) == (D.size : Int)) = false ∧ I = f))) from by
          rcases HIW.out with ⟨a, b⟩ | ⟨a, b, c⟩ | ⟨a, b, c, d⟩ | ⟨a, b, c, d⟩
          · exact ⟨false, .inl ⟨rfl, b, .inl a⟩⟩
          · exact ⟨false, .inl ⟨rfl, c, .inr ⟨a, b⟩⟩⟩
          · exact ⟨true, .inr ⟨rfl, a, b, .inl ⟨c, d⟩⟩⟩
          · exact ⟨true, .inr ⟨rfl, a, b, .inr ⟨c, d⟩⟩⟩)
        obtain ⟨T60, h60⟩ := HT60.out
        have H60 := Lib.hid h60
        clear h60 HT60 HIW HPD
        go_upto_region 14 with fail
        clear d51 e51
        go_cut [60] (fun v wx => v = .bool T60 ∧ wx = W1)
        case first =>
          rcases H60.out with ⟨rfl, _, hd | ⟨h0, h91⟩⟩ | ⟨rfl, h0, h91, _⟩
          all_goals
            clear H60
            go_wp2_with fail
            go_meet
            exact ⟨rfl, rfl⟩
        case rest =>
          obtain ⟨rfl, hw⟩ := hcut
          subst hw
          go_upto_if 60 with (fail)
          go_cut [10] (fun v wx => v = .int .i64 (I : Int) ∧ wx = wc)
          case first =>
            rcases H60.out with ⟨rfl, hI0, _⟩ | ⟨rfl, h0, h91, ⟨hf, hI0⟩ | ⟨hf, hI0⟩⟩
            · clear H60
              go_wp2_with fail
              go_meet
              exact ⟨by rw [hI0]; rfl, rfl⟩
            · clear H60
              have HI0 := Lib.hid hI0
              clear hI0
              go_wp2_with fail
              refine (CF.out _).mono ?_
              rintro e X1 ⟨rfl, rfl⟩
              go_wp2_with fail
              go_meet
              exact ⟨by rw [HI0.out]; rfl, rfl⟩
            · clear H60
              have HI0 := Lib.hid hI0
              clear hI0
              go_wp2_with fail
              refine (CF.out _).mono ?_
              rintro e X1 ⟨rfl, rfl⟩
              go_wp2_with fail
              go_meet
              exact ⟨by rw [HI0.out], rfl⟩
          case rest =>
            obtain ⟨rfl, hw⟩ := hcut
            subst hw
            clear H60 CF
            go_wp2_with fail
            refine (CK.out _).mono ?_
            rintro e X1 ⟨rfl, rfl⟩
            have pn := HPN.out
            obtain ⟨hk1a, hk1b⟩ := hk1
            go_wp2_with fail
            refine (CH.out _).mono ?_
            rintro e X2 ⟨rfl, hB⟩
            have HU2 := HU1.out.later hB
            have HZ2 := HZ1.out.later hB
            have HB2 := HB1.out.trans (hB.mono HB1.out.size)
            have hnew : HostAt (X2.alloc (.cells #[.int .i64 0, .string ⟨#[]⟩, .int .i64 0, .int .i64 0, .int .i64 0, .int .i64 0, .int .i64 0, .int .i64 0, .int .i64 0, .int .i64 0, .int .i64 0] 24)) X2.heap.size none0 := HostAt.new X2 none0
            have hrow := hnew.row h
            have hB3 : Below X2.heap.size X2 ((X2.alloc (.cells #[.int .i64 0, .string ⟨#[]⟩, .int .i64 0, .int .i64 0, .int .i64 0, .int .i64 0, .int .i64 0, .int .i64 0, .int .i64 0, .int .i64 0, .int .i64 0] 24)).setRow X2.heap.size h.cells) := below_row ((Below.refl _ X2).alloc (Nat.le_refl _) _) (Nat.le_refl _) _
            have HU3 := Lib.hid (HU2.later hB3)
            have HZ3 := Lib.hid (HZ2.later hB3)
            have HB3 := Lib.hid (HB2.trans (hB3.mono HB2.size))
            have HN3 := Lib.hid hrow
            have n8 : none0.p.length = 8 := rfl
            clear hB HU2 HZ2 HB2 hrow hB3 HU1 HZ1 HB1 CH CK pn HPN
            have c0' := HU3.out.cell 0
            rw [(cU_at _ pv (show ({ u with usr := EU, pas := EP } : U).h.p.length = 8 from H8.out)).1] at c0'
            have c0 : ((X2.alloc (.cells #[.int .i64 0, .string ⟨#[]⟩, .int .i64 0, .int .i64 0, .int .i64 0, .int .i64 0, .int .i64 0, .int .i64 0, .int .i64 0, .int .i64 0, .int .i64 0] 24)).setRow X2.heap.size h.cells).cell? ⟨w.heap.size, 0, none⟩ = some (.string S) := by rw [c0']; exact congrArg (fun y => some (Value.string y)) HSs.out
            clear c0'
            by_cases hlt : k < D.size
            case' pos =>
              have q1 : decide (k < D.size) = true := decide_eq_true hlt
              have pg := HGK.out.1 hlt
            case' neg =>
              have q1 : decide (k < D.size) = false := decide_eq_false hlt
              have hke : k = D.size := by omega
              obtain rfl := HGK.out.2 hke
              clear hke
            all_goals
              go_wp2_with ((with_reducible refine Host.wp_store24 (o := ⟨none, .store 24 (.tmp 12) (.tmp 75), _, _, _, _⟩) ?_ (.tmp 12) (.tmp 75) ?_ X2.heap.size ?_ h ?_ H8h.out none0 n8 hnew ?_); (· rfl); (· rfl); (· rfl); (· rfl); simp only [Act.put, List.setIfInBounds_toArray, List.set_cons_zero, List.set_cons_succ])
              generalize (X2.alloc (.cells #[.int .i64 0, .string ⟨#[]⟩, .int .i64 0, .int .i64 0, .int .i64 0, .int .i64 0, .int .i64 0, .int .i64 0, .int .i64 0, .int .i64 0, .int .i64 0] 24)).setRow X2.heap.size h.cells = X3 at HU3 HZ3 HB3 HN3 c0 ⊢
              generalize X2.heap.size = gn at HN3 ⊢
              clear hnew
              refine (CP.out _).mono ?_
              rintro e X4 ⟨rfl, hB⟩
              have HU4 := Lib.hid (HU3.out.later hB)
              have HZ4 := Lib.hid (HZ3.out.later hB)
              have HB4 := Lib.hid (HB3.out.trans (hB.mono HB3.out.size))
              have HN4 := Lib.hid (HN3.out.later hB)
              clear hB HU3 HZ3 HB3 HN3 c0 CP q1
              have n81 : none1.h.p.length = 8 := rfl
              have hn1 : (Value.slice none 0 0).oneCell' = true := rfl
              cases b1
              · have eb : b = false := by rw [← HHb.out]; rfl
                obtain rfl := HX0.out eb
                subst eb
                clear HX0 HX1 HHb
                go_wp2_with ((with_reducible refine wp_store27 (o := ⟨none, .store 27 (.tmp 4) (.tmp 98), _, _, _, _⟩) ?_ (.tmp 4) (.tmp 98) ?_ (w.heap.size + 1) ?_ none1 (.slice none 0 0) ?_ n81 hn1 none1 (.slice none 0 0) rfl HZ4.out ?_); (· rfl); (· rfl); (· rfl); (· rfl); simp only [Act.put, List.setIfInBounds_toArray, List.set_cons_zero, List.set_cons_succ])
                exact bodyPost_ret (ret_auth (w.heap.size + 1) none1 (.slice none 0 0) rfl false rfl rfl (HZ4.out.row none1 (.slice none 0 0))) rfl ⟨rfl, below_row HB4.out (Nat.le_succ w.heap.size) _⟩
              cases b2
              · have eb : b = false := by rw [← HHb.out]; rfl
                obtain rfl := HX0.out eb
                subst eb
                clear HX0 HX1 HHb
                go_wp2_with ((with_reducible refine wp_store27 (o := ⟨none, .store 27 (.tmp 4) (.tmp 98), _, _, _, _⟩) ?_ (.tmp 4) (.tmp 98) ?_ (w.heap.size + 1) ?_ none1 (.slice none 0 0) ?_ n81 hn1 none1 (.slice none 0 0) rfl HZ4.out ?_); (· rfl); (· rfl); (· rfl); (· rfl); simp only [Act.put, List.setIfInBounds_toArray, List.set_cons_zero, List.set_cons_succ])
                exact bodyPost_ret (ret_auth (w.heap.size + 1) none1 (.slice none 0 0) rfl false rfl rfl (HZ4.out.row none1 (.slice none 0 0))) rfl ⟨rfl, below_row HB4.out (Nat.le_succ w.heap.size) _⟩
              have eb : b = true := by rw [← HHb.out]; rfl
              obtain rfl := HX1.out eb
              subst eb
              clear HX0 HX1 HHb
              have H8u : ({ u with usr := EU, pas := EP } : U).h.p.length = 8 := H8.out
              have H8x : ({ u with usr := EU, pas := EP, h := h, port := z } : U).h.p.length = 8 := H8h.out
              have hu5 : UrlAt (X4.setCells w.heap.size 3 h.cells.toList) w.heap.size { u with usr := EU, pas := EP, h := h } pv := HU4.out.hst H8u h H8h.out
              have f14 := hu5.free 14
              have g14 := hu5.cell 14
              rw [(cU_at _ pv (show ({ u with usr := EU, pas := EP, h := h } : U).h.p.length = 8 from H8h.out)).2.2.2.2.1] at g14
              have HUx := Lib.hid (show UrlAt ((X4.setCells w.heap.size 3 h.cells.toList).setCell ⟨w.heap.size, 14, none⟩ (.int .i64 z)) w.heap.size { u with usr := EU, pas := EP, h := h, port := z } pv from hu5.prt H8h.out z)
              have HZx := Lib.hid (show UrlAt ((X4.setCells w.heap.size 3 h.cells.toList).setCell ⟨w.heap.size, 14, none⟩ (.int .i64 z)) (w.heap.size + 1) none1 (.slice none 0 0) from url_other (url_others HZ4.out (by omega) 3 h.cells.toList) (by omega) 14 (.int .i64 z))
              have HBx := Lib.hid (below_set (below_cells (Nat.le_refl w.heap.size) h.cells.toList 3 _ HB4.out) (Nat.le_refl w.heap.size) 14 (.int .i64 z))
              clear hu5
              go_wp2_with (first | ((with_reducible refine Host.wp_load24 (o := ⟨some 99, .load 24 (.tmp 12), _, _, _, _⟩) ?_ (.tmp 12) ?_ gn ?_ h H8h.out HN4.out ?_); (· rfl); (· rfl); (· rfl); simp only [Act.put, List.setIfInBounds_toArray, List.set_cons_zero, List.set_cons_succ]) | ((with_reducible refine wp_store24u (o := ⟨none, .store 24 (.tmp 100) (.tmp 99), _, _, _, _⟩) ?_ (.tmp 100) (.tmp 99) ?_ w.heap.size ?_ h ?_ H8h.out { u with usr := EU, pas := EP } pv H8u HU4.out ?_); (· rfl); (· rfl); (· rfl); (· rfl); simp only [Act.put, List.setIfInBounds_toArray, List.set_cons_zero, List.set_cons_succ]) | ((with_reducible refine wp_load27 (o := ⟨some 103, .load 27 (.tmp 2), _, _, _, _⟩) ?_ (.tmp 2) ?_ w.heap.size ?_ { u with usr := EU, pas := EP, h := h, port := z } pv H8x HUx.out ?_); (· rfl); (· rfl); (· rfl); simp only [Act.put, List.setIfInBounds_toArray, List.set_cons_zero, List.set_cons_succ]) | ((with_reducible refine wp_store27 (o := ⟨none, .store 27 (.tmp 4) (.tmp 103), _, _, _, _⟩) ?_ (.tmp 4) (.tmp 103) ?_ (w.heap.size + 1) ?_ { u with usr := EU, pas := EP, h := h, port := z } pv ?_ H8x hone none1 (.slice none 0 0) rfl HZx.out ?_); (· rfl); (· rfl); (· rfl); (· rfl); simp only [Act.put, List.setIfInBounds_toArray, List.set_cons_zero, List.set_cons_succ]))
              exact bodyPost_ret (ret_auth (w.heap.size + 1) { u with usr := EU, pas := EP, h := h, port := z } pv H8x true rfl rfl (HZx.out.row { u with usr := EU, pas := EP, h := h, port := z } pv)) rfl ⟨rfl, below_row HBx.out (Nat.le_succ w.heap.size) _⟩
end Go.Proofs.YtkjkcgbmfglihaaGreatDoor.Url

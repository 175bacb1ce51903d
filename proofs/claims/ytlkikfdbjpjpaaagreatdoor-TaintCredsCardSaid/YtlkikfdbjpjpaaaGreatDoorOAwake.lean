/-
  The chapter's example.
  What the laws of origin want beside: stores of single fields, and what another part makes of an origin.
-/
import Derived.Deep.MidRow
import Derived.Test.YtlkikfdbjpjpaaaGreatDoorOrigin
namespace Go.Proofs.YtlkikfdbjpjpaaaGreatDoor.Origin
set_option linter.unusedSimpArgs false
set_option linter.unusedVariables false
set_option maxRecDepth 100000


open Go.RowKit Go.Shelf

open Url Show

open Host (H HostAt none0 mayH showH localH)

open Six (arr RowAt zero8)

open Path (Strs)

set_option maxRecDepth 100000

def wA : T := [104, 116, 116, 112, 115, 58, 47, 47, 117, 64, 97, 46, 111, 114, 103, 58, 56, 52, 52, 51, 47, 120]

def wD : T := [100, 97, 116, 97, 58, 44]

def uA : U := ⟨https, [117], [], aH, 8443, [[120]], [], [], [], false, false⟩

def uD : U := ⟨data, [], [], none0, -1, [], [44], [], [], false, false⟩

def oA : O := ⟨false, https, aH, 8443⟩

theorem wA_ok : okU wA = true := by decide +kernel

theorem wD_ok : okU wD = true := by decide +kernel

theorem wA_par : parU wA = uA := by
  have h1 : Ascii.clean wA = wA := by decide +kernel
  have h2 : okS wA = true := by decide +kernel
  have h3 : schS wA = https := by decide +kernel
  have h4 : schR wA = [47, 47, 117, 64, 97, 46, 111, 114, 103, 58, 56, 52, 52, 51, 47, 120] := by decide +kernel
  have h5 : tA [47, 47, 117, 64, 97, 46, 111, 114, 103, 58, 56, 52, 52, 51, 47, 120] = [47, 47, 117, 64, 97, 46, 111, 114, 103, 58, 56, 52, 52, 51, 47, 120] := by decide +kernel
  have h6 : hname (place (auth [47, 47, 117, 64, 97, 46, 111, 114, 103, 58, 56, 52, 52, 51, 47, 120])) = aorg := by decide +kernel
  unfold parU
  rw [h1]
  unfold parS aheadU
  rw [h2, if_pos rfl, h3, h4, h5, if_neg (by decide)]
  unfold tailU webU
  rw [h6, aorg_ok.2]
  unfold uA
  rw [U.mk.injEq]
  exact ⟨rfl, by decide +kernel, by decide +kernel, rfl, by decide +kernel, by decide +kernel, rfl, by decide +kernel, by decide +kernel, by decide +kernel, by decide +kernel⟩

theorem wD_par : parU wD = uD := by
  have h1 : Ascii.clean wD = wD := by decide +kernel
  have h2 : okS wD = true := by decide +kernel
  have h3 : schS wD = data := by decide +kernel
  have h4 : schR wD = [44] := by decide +kernel
  have h5 : tA [44] = [44] := by decide +kernel
  unfold parU
  rw [h1]
  unfold parS aheadU
  rw [h2, if_pos rfl, h3, h4, h5, if_pos (by decide)]
  unfold tailU opqU uD
  rw [U.mk.injEq]
  exact ⟨rfl, rfl, rfl, rfl, rfl, rfl, by decide +kernel, by decide +kernel, by decide +kernel, by decide +kernel, by decide +kernel⟩

theorem uA_may : mayU uA = true := by rw [← wA_par]; exact par_may _ wA_ok

theorem uA_of : ofU uA = oA := of_web uA_may (by decide)

theorem uD_of : ofU uD = null0 := of_not fun h => h.2 (by decide)

theorem oA_may : mayO oA = true := by rw [← uA_of]; exact of_may _

theorem p8443 : Deci.showI 8443 = [56, 52, 52, 51] := by decide +kernel

theorem oA_show : tb (showO oA) = ⟨#[104, 116, 116, 112, 115, 58, 47, 47, 97, 46, 111, 114, 103, 58, 56, 52, 52, 51]⟩ := by
  rw [show_begins oA_may rfl, show oA.h = aH from rfl, aorg_show]
  unfold portO
  rw [show oA.port = 8443 from rfl, if_neg (by decide), p8443]
  rfl

theorem null_show : tb (showO null0) = ⟨#[110, 117, 108, 108]⟩ := by rw [show_null rfl]; rfl

theorem oA_same : sameO oA oA = true := (sameO_iff _ _).2 ⟨oA_may, oA_may, rfl, rfl, rfl, rfl, rfl⟩

theorem uA_trust : trustU uA = true := by rw [trust_https rfl]; exact uA_may

theorem uD_trust : trustU uD = false := by
  cases e : trustU uD
  · rfl
  · exact absurd (show webI uD.sch = 0 by decide) (trust_may e).2

theorem uA_both : bothU uA uA = true := by rw [both_self, uA_may]; rfl

theorem uD_both : bothU uD uD = false := by rw [both_self, show decide (webI uD.sch = 0) = true from rfl]; cases mayU uD <;> rfl

theorem uA_fit : Fit uA := ⟨rfl, by decide, by decide, by decide, by decide, by decide, by decide, by decide, by decide, by decide⟩

theorem uD_fit : Fit uD := ⟨rfl, by decide, by decide, by decide, by decide, by decide, by decide, by decide, by decide, by decide⟩



set_option maxRecDepth 100000

theorem OAt.name {w : World} {g : Nat} {o : O} (a : OAt w g o) (h8 : o.h.p.length = 8) : w.cell? ⟨g, 3, none⟩ = some (.string o.h.s) := (a.cell 3).trans (cO_host o h8 1 (by decide))

theorem set_sch {w : World} {g : Nat} {u : U} {pv : Value} (a : UrlAt w g u pv) (h8 : u.h.p.length = 8) (x : T) : UrlAt (w.setCell ⟨g, 0, none⟩ (.string (tb x))) g { u with sch := x } pv := by
  have := heap_set a 0 (.string (tb x))
  unfold UrlAt
  rw [this]
  obtain ⟨sch, usr, pas, ⟨k, s, n, p⟩, port, path, opq, qry, frg, hq, hf⟩ := u
  obtain ⟨a, b, c, d, e, f, g, i, rfl⟩ := eight h8
  rfl

theorem set_usr {w : World} {g : Nat} {u : U} {pv : Value} (a : UrlAt w g u pv) (h8 : u.h.p.length = 8) (x : T) : UrlAt (w.setCell ⟨g, 1, none⟩ (.string (tb x))) g { u with usr := x } pv := by
  have := heap_set a 1 (.string (tb x))
  unfold UrlAt
  rw [this]
  obtain ⟨sch, usr, pas, ⟨k, s, n, p⟩, port, path, opq, qry, frg, hq, hf⟩ := u
  obtain ⟨a, b, c, d, e, f, g, i, rfl⟩ := eight h8
  rfl

def fillO (cs : Array Value) : Nat → List Value → Array Value
  | _, [] => cs
  | o, v :: r => fillO (cs.setIfInBounds o v) (o + 1) r

theorem heap_fill {g : Nat} {t : TypeId} {fr : Nat × Nat} : ∀ (vs : List Value) (o : Nat) (w : World) (cs : Array Value), w.heap[g]? = some (.cells cs t fr) → (w.setCells g o vs).heap[g]? = some (.cells (fillO cs o vs) t fr)
  | [], _, _, _, h => h
  | v :: r, o, w, cs, h => heap_fill r (o + 1) _ _ (heap_set h o v)

theorem heap_fill_other {g k : Nat} (hk : k ≠ g) : ∀ (vs : List Value) (o : Nat) (w : World), (w.setCells g o vs).heap[k]? = w.heap[k]?
  | [], _, _ => rfl
  | v :: r, o, w => (heap_fill_other hk r (o + 1) _).trans (Below.heap_setCell _ _ _ _ hk)

theorem below_fill {B g : Nat} {a : World} (hg : B ≤ g) : ∀ (vs : List Value) (o : Nat) (w : World), Below B a w → Below B a (w.setCells g o vs)
  | [], _, _, h => h
  | v :: r, o, w, h => below_fill hg r (o + 1) _ (below_set h hg o v)

theorem set_hst {w : World} {g : Nat} {u : U} {pv : Value} (a : UrlAt w g u pv) (h8 : u.h.p.length = 8) (k : H) (k8 : k.p.length = 8) : UrlAt (w.setCells g 3 k.cells.toList) g { u with h := k } pv := by
  have := heap_fill k.cells.toList 3 w _ a
  unfold UrlAt
  rw [this]
  obtain ⟨sch, usr, pas, ⟨k1, s, n, p⟩, port, path, opq, qry, frg, hq, hf⟩ := u
  obtain ⟨a, b, c, d, e, f, g, i, rfl⟩ := eight h8
  obtain ⟨k1, s, n, p⟩ := k
  obtain ⟨a, b, c, d, e, f, g, i, rfl⟩ := eight k8
  refine congrArg (fun c => some (Obj.cells c 27 (0, 0))) ?_
  simp [fillO, Host.H.cells, Host.cH, Six.arr, cU]

theorem u_fill {w : World} {g b : Nat} {u : U} {pv : Value} (a : UrlAt w g u pv) (h : g ≠ b) (o : Nat) (vs : List Value) : UrlAt (w.setCells b o vs) g u pv := by
  unfold UrlAt
  rw [heap_fill_other h]
  exact a

theorem wp_store24o {ops : Array Oper} {rest : List Oper} {o : Oper} {a : Act} {w : World} {Q : Exit → Act → World → Prop} (hgd : o.guard = none) (x y : Operand) (ho : o.op = .store 24 x y) (g : Nat) (hx : a.eval x = .pointer (some ⟨g, 3, none⟩))
    (k : H) (hy : a.eval y = .agg k.cells) (k8 : k.p.length = 8) (u : U) (pv : Value) (h8 : u.h.p.length = 8) (hr : UrlAt w g u pv) (hk : wpList Tryz.prog ops Q rest (a.put o.dst undef) (w.setCells g 3 k.cells.toList)) : wpList Tryz.prog ops Q (o :: rest) a w := by
  refine wpList_store_mid hgd 24 x y ho g 3 k.cells hx hy (fun j hj => ⟨?_, hr.free _⟩) (by rw [k.size k8]; exact Host.size24) k.one hk
  rw [hr.cell]
  rw [k.size k8] at hj
  have : (cU u pv).size = 21 := cU_size u pv h8
  rw [Array.getElem?_eq_getElem (by omega)]
  rfl

/-- A new slice of texts, as its block. -/
def TAt (W : World) (g : Nat) (l : List T) : Prop := W.heap[g]? = some (.cells (l.map fun x => Value.string (tb x)).toArray 9 (0, 0))

theorem TAt.lt {w : World} {g : Nat} {l : List T} (a : TAt w g l) : g < w.heap.size := (Array.getElem?_eq_some_iff.1 a).1

theorem TAt.new (w : World) (l : List T) : TAt (w.alloc (.cells (l.map fun x => Value.string (tb x)).toArray 9)) w.heap.size l := heap_alloc_new w _

theorem TAt.later {w v : World} {g : Nat} {l : List T} (a : TAt w g l) (hB : Below w.heap.size w v) : TAt v g l := (hB.block g a.lt).trans a

theorem t_set {w : World} {g k j : Nat} {l : List T} (a : TAt w g l) (h : k ≠ g) (v : Value) : TAt (w.setCell ⟨k, j, none⟩ v) g l := (set_other w k j v h).trans a

theorem t_fill {w : World} {g b : Nat} {l : List T} (a : TAt w g l) (h : g ≠ b) (o : Nat) (vs : List Value) : TAt (w.setCells b o vs) g l := (heap_fill_other h vs o w).trans a

theorem TAt.strs {w : World} {g : Nat} {l : List T} (a : TAt w g l) (n : Nat) (hn : l.length = n) (h : n ≤ maxLen) : Strs w (.slice (some ⟨g, 0, none⟩) n n) l := by
  subst hn
  refine ⟨_, l.length, rfl, Nat.le_refl _, h, (fun e => by cases e), fun _ => ⟨g, 0, rfl, fun j hj => ?_⟩⟩
  rw [Nat.zero_add, cell_of_row w g j _ _ _ a]
  simp [hj, tb]

/-! ## another part, another origin -/

theorem both_web {u : U} (v : U) (h : mayU u = true) (hw : webI u.sch ≠ 0) : bothU u v = true ↔ (mayU v = true ∧ webI v.sch ≠ 0) ∧ u.sch = v.sch ∧ u.h = v.h ∧ u.port = v.port := by
  rw [both_iff]; exact ⟨fun x => x.2, fun x => ⟨⟨h, hw⟩, x⟩⟩

theorem both_prt {u : U} (h : mayU u = true) (hw : webI u.sch ≠ 0) (p : Int) : bothU u { u with port := p } = (p == u.port) := by
  rw [Bool.eq_iff_iff, both_web _ h hw, beq_iff_eq]
  constructor
  · intro x; exact x.2.2.2.symm
  · rintro rfl; exact ⟨⟨h, hw⟩, rfl, rfl, rfl⟩

theorem both_hst {u : U} (h : mayU u = true) (hw : webI u.sch ≠ 0) (k : H) : bothU u { u with h := k } = Host.sameH k u.h := by
  rw [Bool.eq_iff_iff, both_web _ h hw, Host.same_iff]
  constructor
  · intro x; exact x.2.2.1.symm
  · rintro rfl; exact ⟨⟨h, hw⟩, rfl, rfl, rfl⟩

def otherT : T := [111, 116, 104, 101, 114]

theorem both_usr {u : U} (h : mayU u = true) (hw : webI u.sch ≠ 0) : bothU u { u with usr := otherT, path := [[120], [121]] } = true := by
  rw [both_web _ h hw]
  refine ⟨⟨?_, hw⟩, rfl, rfl, rfl⟩
  unfold mayU at h
  rw [if_neg hw, Bool.and_eq_true] at h
  obtain ⟨ht, h⟩ := h
  unfold mayWeb at h
  simp only [Bool.and_eq_true] at h
  obtain ⟨hh, h1, h2, h3, h4, h5⟩ := h
  show (tailB u && (if webI u.sch = 0 then _ else (mayH u.h && (Pct.readyB 4 otherT && (Pct.readyB 4 u.pas && (Path.mayP [[120], [121]] && (u.opq.isEmpty && mayPort u))))))) = true
  rw [if_neg hw, ht, hh, h2, h4, h5, show Pct.readyB 4 otherT = true by decide +kernel, show Path.mayP [[120], [121]] = true by decide +kernel]
  rfl

theorem both_sch {u : U} (s : T) (hs : u.sch ≠ s) : bothU u { u with sch := s } = false := by
  cases e : bothU u { u with sch := s }
  · rfl
  · exact absurd ((both_iff _ _).1 e).2.2.1 hs

theorem may_plain {u : U} (h : mayU u = true) (hw : webI u.sch ≠ 0) (p : List T) (hp : Path.mayP p = true) : mayU { openU u with path := p, qry := [], hq := false } = true := by
  unfold mayU at h
  rw [if_neg hw, Bool.and_eq_true] at h
  obtain ⟨ht, h⟩ := h
  unfold mayWeb at h
  simp only [Bool.and_eq_true] at h
  obtain ⟨hh, h1, h2, h3, h4, h5⟩ := h
  show (((Pct.readyB 2 [] && (false || true)) && (Pct.readyB 1 [] && (false || true))) && (if webI u.sch = 0 then _ else (mayH u.h && (Pct.readyB 4 [] && (Pct.readyB 4 [] && (Path.mayP p && (u.opq.isEmpty && mayPort u))))))) = true
  rw [if_neg hw, hh, h4, h5, hp, show Pct.readyB 2 [] = true by decide +kernel, show Pct.readyB 1 [] = true by decide +kernel, show Pct.readyB 4 [] = true by decide +kernel]
  rfl

theorem of_plain {u : U} (h : mayU u = true) (hw : webI u.sch ≠ 0) (p : List T) (hp : Path.mayP p = true) : ofU { openU u with path := p, qry := [], hq := false } = ofU u := by
  rw [of_web (may_plain h hw p hp) hw, of_web h hw]
  rfl

theorem other_may : Path.mayP [otherT] = true := by decide +kernel

/-- An origin's address, shown and parsed. -/
theorem origin_back {u : U} (h : mayU u = true) (hw : webI u.sch ≠ 0) (h8 : u.h.p.length = 8) :
    okU (showO (ofU u)) = true ∧ parU (showO (ofU u)) = adr (ofU u) ∧ ofU (adr (ofU u)) = ofU u ∧ showU (adr (ofU u)) = showO (ofU u) ++ [47] := by
  obtain ⟨p1, p2⟩ := par_origin h hw h8
  obtain ⟨t1, t2⟩ := text_origin h hw h8
  have e : adr (ofU u) = ⟨u.sch, [], [], u.h, u.port, [[]], [], [], [], false, false⟩ := by rw [of_web h hw]; rfl
  rw [show_of h hw, e]
  exact ⟨p1, p2, by rw [of_web t1 hw, of_web h hw], t2⟩

theorem show_len (u : U) (hf : Fit u) (hs : u.sch.length ≤ 300) : (showO (ofU u)).length ≤ 600 := by
  by_cases h : mayU u = true ∧ webI u.sch ≠ 0
  · rw [show_of h.1 h.2]
    have k := web_ok h.1 h.2
    have h1 := host_len u hf
    have h2 := port_len u (by have := k.p2; omega) (by have := k.p1; omega)
    have : (doorT u).length ≤ 200 := by
      unfold doorT portT
      split
      · rw [List.append_nil]; omega
      · rw [List.length_append, List.length_cons]; omega
    simp only [List.length_append, List.length_cons]
    omega
  · rw [show_not h]; decide

theorem show_eq {u : U} (h : mayU u = true) (hw : webI u.sch ≠ 0) (h8 : u.h.p.length = 8) (v : U) (k8 : v.h.p.length = 8) (S R : ByteArray) (hS : tb (showO (ofU u)) = S) (hR : tb (showO (ofU v)) = R) (b : Bool) (hb : bothU u v = b) : (S.toList == R.toList) = b := by
  rw [Path.tl, Path.tl, list_tb hS, list_tb hR, ← hb, Bool.eq_iff_iff, beq_iff_eq]
  exact show_both h hw h8 v k8

theorem cut_mid (s : ByteArray) (k j : Nat) : s.extract k j = tb ((s.data.toList.take j).drop k) := by
  apply ByteArray.ext
  apply Array.toList_inj.1
  rw [Ascii.extract_list]; rfl

theorem mid_of (A B C : T) : ((A ++ (B ++ C)).take (A.length + B.length)).drop A.length = B := by
  have h1 : (A ++ B ++ C).take (A.length + B.length) = A ++ B := by rw [← List.length_append]; exact List.take_left
  rw [← List.append_assoc, h1]; exact List.drop_left

/-- What may be, not opaque, shown: its scheme, a colon and two slashes, its host, and what follows. -/
theorem show_parts {o : O} (h : mayO o = true) (ho : o.opaq = false) (S N X : ByteArray) (hS : tb (showO o) = S) (hN : tb o.sch = N) (hX : (⟨(showH o.h).toArray⟩ : ByteArray) = X) :
    N.size + 3 + X.size ≤ S.size ∧ S.extract 0 N.size = N ∧ S.extract N.size (N.size + 3) = ⟨#[58, 47, 47]⟩ ∧ S.extract (N.size + 3) (N.size + 3 + X.size) = X := by
  have e : S.data.toList = o.sch ++ ([58, 47, 47] ++ (showH o.h ++ portO o)) := by rw [list_tb hS, show_begins h ho]; rfl
  have n : N.size = o.sch.length := size_tb hN
  have hX' : tb (showH o.h) = X := hX
  have x : X.size = (showH o.h).length := size_tb hX'
  have hl : S.size = N.size + (3 + (X.size + (portO o).length)) := by
    rw [← size_list S, e, n, x]; simp only [List.length_append, List.length_cons, List.length_nil]
  refine ⟨by omega, ?_, ?_, ?_⟩
  · rw [piece_to S _ (by omega), e, n, List.take_left, hN]
  · have e3 := mid_of o.sch [58, 47, 47] (showH o.h ++ portO o)
    rw [cut_mid, e, n]
    exact congrArg tb e3
  · have e3 := mid_of (o.sch ++ [58, 47, 47]) (showH o.h) (portO o)
    rw [cut_mid, e, n, x, ← List.append_assoc]
    rw [show o.sch.length + 3 = (o.sch ++ [58, 47, 47]).length by simp, e3]
    exact hX'

theorem null_list (S : ByteArray) {o : O} (h : (o.opaq || !mayO o) = true) (hS : tb (showO o) = S) : (S.toList == [110, 117, 108, 108]) = true := by
  rw [Path.tl, list_tb hS, show_null h]; rfl

theorem eq_same {a : O} (b : O) (h : mayO a = true) (ho : a.opaq = false) : sameO a b = eqO a b := by
  rw [← same_named, h, ho]; simp

theorem same_self {a : O} (h : mayO a = true) (ho : a.opaq = false) : sameO a a = true := (sameO_iff a a).2 ⟨h, h, ho, ho, rfl, rfl, rfl⟩

end Go.Proofs.YtlkikfdbjpjpaaaGreatDoor.Origin

/-
  Hosts on the heap; host's Parse.
-/
import Derived.Test.YtidmlhefdjpafaaDoorHParse
namespace Go.Proofs.YtidmlhefdjpafaaDoor.Host
open Go.RowKit
open Six (arr RowAt zero8)
set_option linter.unusedSimpArgs false
set_option linter.unusedVariables false
structure H where
  k : Int
  s : ByteArray
  n : Int
  p : List Int
def H.cells (h : H) : Array Value := cH h.k h.s h.n h.p
def none0 : H := ⟨0, ⟨#[]⟩, 0, zero8⟩
theorem H.size (h : H) (h8 : h.p.length = 8) : h.cells.size = 11 := cH_size _ _ _ _ h8
theorem H.one (h : H) : h.cells.all (·.oneCell') = true := by
  rw [Array.all_eq_true_iff_forall_mem]
  intro v hv
  simp [H.cells, cH] at hv
  rcases hv with rfl | rfl | rfl | ⟨z, _, rfl⟩ <;> rfl
/-- Block g is this host. -/
def HostAt (W : World) (g : Nat) (h : H) : Prop := W.heap[g]? = some (.cells h.cells 24 (0, 0))
theorem HostAt.lt {w : World} {g : Nat} {h : H} (a : HostAt w g h) : g < w.heap.size := (Array.getElem?_eq_some_iff.1 a).1
theorem HostAt.new (w : World) (h : H) : HostAt (w.alloc (.cells h.cells 24)) w.heap.size h := heap_alloc_new w _
theorem HostAt.past {w : World} {g : Nat} {h : H} (a : HostAt w g h) (o : Obj) : HostAt (w.alloc o) g h := (heap_alloc_old w o a.lt).trans a
theorem HostAt.row {W : World} {g : Nat} {h : H} (a : HostAt W g h) (k : H) : HostAt (W.setRow g k.cells) g k := setRow_heap W g _ _ 24 (0, 0) a
theorem HostAt.below {w u : World} {B g : Nat} {h : H} (a : HostAt w g h) (hB : Below B w u) (hg : g < B) : HostAt u g h := (hB.block g hg).trans a
theorem HostAt.later {w u : World} {g : Nat} {h : H} (a : HostAt w g h) (hB : Below w.heap.size w u) : HostAt u g h := a.below hB a.lt
theorem HostAt.load {w : World} {g : Nat} {h : H} (a : HostAt w g h) (h8 : h.p.length = 8) : (loadVar 24 ⟨g, 0, none⟩).run Tryd.prog w = .ok (.agg h.cells) w :=
  run_loadVar_row w g 24 24 h.cells (0, 0) _ a Tryd.underlying24 rfl (by rw [h.size h8]; exact size24)
theorem HostAt.cell {w : World} {g : Nat} {h : H} (a : HostAt w g h) (j : Nat) : w.cell? ⟨g, j, none⟩ = h.cells[j]? := cell_of_row w g j h.cells 24 (0, 0) a
theorem wp_load24 {ops : Array Oper} {rest : List Oper} {o : Oper} {a : Act} {w : World} {Q : Exit → Act → World → Prop} (hgd : Region.wanted o (yielded ops a.tmps) = true) (x : Operand) (ho : o.op = .load 24 x) (g : Nat) (hx : a.eval x = .pointer (some ⟨g, 0, none⟩))
    (h : H) (h8 : h.p.length = 8) (hr : HostAt w g h) (hk : wpList Tryd.prog ops Q rest (a.put o.dst (.agg h.cells)) w) : wpList Tryd.prog ops Q (o :: rest) a w :=
  Six.wpList_taken hgd fun _ hK => wp_load_row 24 x ho g hx 24 h.cells (0, 0) _ hr Tryd.underlying24 rfl (by rw [h.size h8]; exact size24) (hK _ _ hk)
theorem wp_store24 {ops : Array Oper} {rest : List Oper} {o : Oper} {a : Act} {w : World} {Q : Exit → Act → World → Prop} (hgd : o.guard = none) (x y : Operand) (ho : o.op = .store 24 x y) (g : Nat) (hx : a.eval x = .pointer (some ⟨g, 0, none⟩))
    (k : H) (hy : a.eval y = .agg k.cells) (k8 : k.p.length = 8) (l : H) (h8 : l.p.length = 8) (hr : HostAt w g l) (h : wpList Tryd.prog ops Q rest (a.put o.dst undef) (w.setRow g k.cells)) : wpList Tryd.prog ops Q (o :: rest) a w :=
  wpList_plain hgd fun _ hK => wp_store_row 24 x y ho g k.cells hx hy 24 l.cells hr (by rw [k.size k8]; exact size24) (by rw [k.size k8, l.size h8]) k.one (hK _ _ h)
theorem ret_parse {tmps : Array Value} {W : World} (g : Nat) (h : H) (h8 : h.p.length = 8) (b : Bool) (hp : tmps.getD 2 undef = .pointer (some ⟨g, 0, none⟩)) (hb : tmps.getD 3 undef = .bool b) (hr : HostAt W g h) :
    (results Tryd.f10 tmps).run Tryd.prog W = .ok (.tuple #[.agg h.cells, .bool b]) W := by
  have hp' : tmps[2]?.getD undef = .pointer (some ⟨g, 0, none⟩) := by simpa using hp
  have hb' : tmps[3]?.getD undef = .bool b := by simpa using hb
  simp [results, Tryd.results10, hp', hb', asAddr, hr.load h8]
theorem below_row {B : Nat} {a w : World} (h : Below B a w) {g : Nat} (hp : B ≤ g) (k : Array Value) : Below B a (w.setRow g k) := Six.below_setRow h hp k
/-- What a text tells. -/
def okH (l : List UInt8) : Bool := if brkB l then Six.parB (inner l) else if Four.lookB l then Four.parB l else domB (Ascii.lower l)
def parH (l : List UInt8) : H := if okH l then (if brkB l then ⟨3, ⟨#[]⟩, 0, Six.parI (inner l)⟩ else if Four.lookB l then ⟨2, ⟨#[]⟩, Four.parI l, zero8⟩ else ⟨1, ⟨(Ascii.lower l).toArray⟩, 0, zero8⟩) else none0
set_option maxRecDepth 100000 in
set_option maxHeartbeats 2000000 in
/-- Parse, read told. -/
theorem parse_in (s : ByteArray) (v : Value) (c : Bool) (h : H) (h8 : h.p.length = 8) (m : Int) (w : World) (hm : Six.At m w)
    (cR : ∀ u, Six.At m u → Calls Tryd.prog 20 #[.string s] u fun e w' => e = .returned (.tuple #[v, .bool c]) ∧ Below u.heap.size u w')
    (cW : ∀ u, Calls Tryd.prog 21 #[v] u fun e w' => e = .returned (.agg h.cells) ∧ Below u.heap.size u w') :
    Calls Tryd.prog 10 #[.string s] w fun e w' => e = .returned (.tuple #[.agg (if c then h else none0).cells, .bool c]) ∧ Below w.heap.size w w' := by
  have HB0 := Lib.hid (show Below w.heap.size w (w.alloc (.cells none0.cells 24)) from (Below.refl _ w).alloc (Nat.le_refl _) _)
  have HR0 := Lib.hid (HostAt.new w none0)
  have HM := Lib.hid hm
  have CR := Lib.hid cR
  have CW := Lib.hid cW
  have H8 := Lib.hid h8
  have hz : (#[.int .i64 0, .string ⟨#[]⟩, .int .i64 0, .int .i64 0, .int .i64 0, .int .i64 0, .int .i64 0, .int .i64 0, .int .i64 0, .int .i64 0, .int .i64 0] : Array Value) = none0.cells := rfl
  have HZ := Lib.hid hz
  clear hm cR cW h8 hz
  go_enter Tryd.func10, Tryd.ntmps10
  go_wp2_with fail
  rw [HZ.out]
  generalize w.alloc (.cells none0.cells 24) = W at HB0 HR0 ⊢
  refine (CR.out _ (HM.out.later HB0.out)).mono ?_
  rintro e u1 ⟨rfl, hB1⟩
  have HB1 := Lib.hid hB1
  have HR1 := Lib.hid (HR0.out.later hB1)
  clear hB1 HR0 CR
  cases c
  · have HRn := Lib.hid (HR1.out.row none0)
    go_wp2_with (refine wp_store24 rfl _ _ rfl w.heap.size rfl none0 rfl rfl none0 rfl HR1.out ?_)
    exact bodyPost_ret (ret_parse w.heap.size none0 rfl false rfl rfl HRn.out) rfl ⟨rfl, below_row (Ascii.below2 HB0.out HB1.out) (Nat.le_refl _) _⟩
  · go_wp2_with fail
    refine (CW.out _).mono ?_
    rintro e u2 ⟨rfl, hB2⟩
    have HB2 := Lib.hid hB2
    have HR2 := Lib.hid (HR1.out.later hB2)
    have HRn := Lib.hid (HR2.out.row h)
    clear hB2 CW
    go_wp2_with (refine wp_store24 rfl _ _ rfl w.heap.size rfl h rfl H8.out none0 rfl HR2.out ?_)
    exact bodyPost_ret (ret_parse w.heap.size h H8.out true rfl rfl HRn.out) rfl ⟨rfl, below_row (Ascii.below3 HB0.out HB1.out HB2.out) (Nat.le_refl _) _⟩
theorem parI_len (l : List UInt8) : (Six.parI l).length = 8 := by
  cases h : Six.parB l
  · unfold Six.parI; rw [h]; rfl
  · exact (Six.par_may l h).1
theorem parH_len (l : List UInt8) : (parH l).p.length = 8 := by
  unfold parH
  split
  · split
    · exact parI_len _
    · split <;> rfl
  · rfl
/-- Parse, of any text. -/
theorem parse_any (s : ByteArray) (hs : s.size ≤ 1000) (h : H) (b : Bool) (hh : parH s.data.toList = h) (hb : okH s.data.toList = b) (m : Int) (w : World) (hm : Six.At m w) :
    Calls Tryd.prog 10 #[.string s] w fun e w' => e = .returned (.tuple #[.agg h.cells, .bool b]) ∧ Below w.heap.size w w' := by
  subst hh; subst hb
  unfold parH okH
  cases h1 : brkB s.data.toList
  · cases h2 : Four.lookB s.data.toList
    · exact parse_in s _ _ ⟨1, _, 0, zero8⟩ rfl m w hm (fun u hu => read_dom s hs h1 h2 _ _ rfl rfl m u hu) (fun u => whole_dom _ u)
    · exact parse_in s _ _ ⟨2, ⟨#[]⟩, _, zero8⟩ rfl m w hm (fun u hu => read_num s hs h1 h2 _ _ rfl rfl m u hu) (fun u => whole_num _ u)
  · exact parse_in s _ _ ⟨3, ⟨#[]⟩, 0, _⟩ (parI_len _) m w hm (fun u hu => read_brk s hs h1 _ _ rfl rfl m u hu) (fun u => whole_six _ (parI_len _) u)
end Go.Proofs.YtidmlhefdjpafaaDoor.Host

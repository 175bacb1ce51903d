/-
  An address beside another one: the steps made one behind the other.
-/
import Derived.Test.YtkhjhiofgoampaaGreatDoorJSeg
namespace Go.Proofs.YtkhjhiofgoampaaGreatDoor.Join
set_option linter.unusedSimpArgs false
set_option linter.unusedVariables false
set_option maxRecDepth 100000


open Go.RowKit Go.Shelf

open Url Show

open Host (none0)

open Path (Strs)

set_option maxRecDepth 100000

theorem bes_steps (b : U) (s : T) : { tailS (bareU b) s with path := pathS b.path (tailS (bareU b) s).path (tA s) } = besU b s := rfl

/-- A block is written that is not the texts' own: they lay there before it was made. -/
theorem strs_aside {U W V : World} {v : Value} {l k : List T} (g : Nat) (h : Strs W v l) (h0 : Strs U v k) (hg : U.heap.size ≤ g) (hV : ∀ j, j ≠ g → V.heap[j]? = W.heap[j]?) : Strs V v l := by
  obtain ⟨a, c, rfl, h1, h2, h3, h4⟩ := h
  obtain ⟨a', c', e, k1, k2, k3, k4⟩ := h0
  injection e with e1 e2 e3
  subst e1
  subst e3
  refine ⟨a, c, rfl, h1, h2, h3, fun hl => ?_⟩
  obtain ⟨b, off, rfl, hc⟩ := h4 hl
  have hk : k ≠ [] := by
    intro hk
    rw [hk] at e2
    exact hl (List.length_eq_zero_iff.1 e2)
  obtain ⟨b', off', e', hc'⟩ := k4 hk
  cases e'
  have hlt : b < U.heap.size := World.block_lt_of_cell? _ _ (hc' 0 (List.length_pos_iff.2 hk))
  refine ⟨b, off, rfl, fun j hj => ?_⟩
  have := hc j hj
  unfold World.cell? at this ⊢
  simp only at this ⊢
  rw [hV b (by omega)]
  exact this

/-- A slice of texts that does not lie at the block g. -/
def Apart (g : Nat) (v : Value) (l : List T) : Prop := l ≠ [] → ∀ b o s n c, v = .slice (some ⟨b, o, s⟩) n c → b ≠ g

theorem strs_apart {W V : World} {v : Value} {l : List T} {g : Nat} (h : Strs W v l) (ha : Apart g v l) (hV : ∀ k, k ≠ g → V.heap[k]? = W.heap[k]?) : Strs V v l := by
  obtain ⟨a, c, rfl, h1, h2, h3, h4⟩ := h
  refine ⟨a, c, rfl, h1, h2, h3, fun hl => ?_⟩
  obtain ⟨b, off, rfl, hc⟩ := h4 hl
  have hb := ha hl b off none _ _ rfl
  refine ⟨b, off, rfl, fun j hj => ?_⟩
  have := hc j hj
  unfold World.cell? at this ⊢
  simp only at this ⊢
  rw [hV b hb]
  exact this

theorem apart_old {U : World} {v : Value} {l : List T} {g : Nat} (h : Strs U v l) (hg : U.heap.size ≤ g) : Apart g v l := by
  obtain ⟨a, c, rfl, h1, h2, h3, h4⟩ := h
  intro hl b o s n c' e
  obtain ⟨b', off, e', hc⟩ := h4 hl
  injection e with e1
  rw [e'] at e1
  injection e1 with e1
  injection e1 with e1
  have hlt : b' < U.heap.size := World.block_lt_of_cell? _ _ (hc 0 (List.length_pos_iff.2 hl))
  omega

theorem apart_new {v : Value} {l : List T} {g : Nat} (h : Path.New (g + 1) v) : Apart g v l := fun _ b o s n c e => by have := h b o s n c e; omega

/-- The steps' functions on the heap. -/
def Funs (W : World) (q f : Nat) : Prop := W.heap[f]? = some (.cells #[.func (.func 67) #[] #[], .func (.func 115) #[] #[.pointer (some ⟨q, 0, none⟩)]] 84 (0, 0))

theorem Funs.lt {W : World} {q f : Nat} (h : Funs W q f) : f < W.heap.size := (Array.getElem?_eq_some_iff.1 h).1

theorem Funs.cells {W : World} {q f : Nat} (h : Funs W q f) : W.cell? ⟨f, 0, none⟩ = some (.func (.func 67) #[] #[]) ∧ W.cell? ⟨f, 1, none⟩ = some (.func (.func 115) #[] #[.pointer (some ⟨q, 0, none⟩)]) :=
  ⟨cell_of_row W f 0 _ _ _ h, cell_of_row W f 1 _ _ _ h⟩

/-- What lies below the step's block stays, what lies above, too, when a step is stored. -/
theorem row_later {W V : World} {g : Nat} {cs : Array Value} (hB : Below W.heap.size W V) {k : Nat} (hk : k ≠ g) (hl : k < W.heap.size) : (V.setRow g cs).heap[k]? = W.heap[k]? :=
  (Url.setRow_other V g cs (Ne.symm hk)).trans (hB.block k hl)

set_option maxHeartbeats 16000000 in
theorem beside_any (u : U) (pv : Value) (hf : Fit u) (hp : u.path.length ≤ 1000) (s : ByteArray) (hs : s.size ≤ 30000) (m : Int) (w : World) (hm : Six.At m w) (hst : Strs w pv u.path) :
    Calls Tryz.prog 31 #[.agg (cU u pv), .string s] w (Got w (besU u s.data.toList)) := by
  have H8 := Lib.hid hf.h8
  have h1 := UrlAt.new w u pv
  have hb1 := (Below.refl w.heap.size w).alloc (Nat.le_refl _) (.cells (cU u pv) 27)
  have hs1 : (w.alloc (.cells (cU u pv) 27)).heap.size = w.heap.size + 1 := Array.size_push _
  have h2 := UrlAt.new (w.alloc (.cells (cU u pv) 27)) none1 (.slice none 0 0)
  rw [hs1] at h2
  have hB0 : Below w.heap.size w ((w.alloc (.cells (cU u pv) 27)).alloc (.cells #[.string ⟨#[]⟩, .string ⟨#[]⟩, .string ⟨#[]⟩, .int .i64 0, .string ⟨#[]⟩, .int .i64 0, .int .i64 0, .int .i64 0, .int .i64 0, .int .i64 0, .int .i64 0, .int .i64 0, .int .i64 0, .int .i64 0, .int .i64 0, .slice none 0 0, .string ⟨#[]⟩, .string ⟨#[]⟩, .string ⟨#[]⟩, .bool false, .bool false] 27)) := hb1.alloc (by omega) (.cells #[.string ⟨#[]⟩, .string ⟨#[]⟩, .string ⟨#[]⟩, .int .i64 0, .string ⟨#[]⟩, .int .i64 0, .int .i64 0, .int .i64 0, .int .i64 0, .int .i64 0, .int .i64 0, .int .i64 0, .int .i64 0, .int .i64 0, .int .i64 0, .slice none 0 0, .string ⟨#[]⟩, .string ⟨#[]⟩, .string ⟨#[]⟩, .bool false, .bool false] 27)
  have hU : UrlAt ((w.alloc (.cells (cU u pv) 27)).alloc (.cells #[.string ⟨#[]⟩, .string ⟨#[]⟩, .string ⟨#[]⟩, .int .i64 0, .string ⟨#[]⟩, .int .i64 0, .int .i64 0, .int .i64 0, .int .i64 0, .int .i64 0, .int .i64 0, .int .i64 0, .int .i64 0, .int .i64 0, .int .i64 0, .slice none 0 0, .string ⟨#[]⟩, .string ⟨#[]⟩, .string ⟨#[]⟩, .bool false, .bool false] 27)) w.heap.size u pv := h1.past (.cells #[.string ⟨#[]⟩, .string ⟨#[]⟩, .string ⟨#[]⟩, .int .i64 0, .string ⟨#[]⟩, .int .i64 0, .int .i64 0, .int .i64 0, .int .i64 0, .int .i64 0, .int .i64 0, .int .i64 0, .int .i64 0, .int .i64 0, .int .i64 0, .slice none 0 0, .string ⟨#[]⟩, .string ⟨#[]⟩, .string ⟨#[]⟩, .bool false, .bool false] 27)
  have HB0 := Lib.hid hB0
  have HU := Lib.hid hU
  have HZ := Lib.hid (show UrlAt ((w.alloc (.cells (cU u pv) 27)).alloc (.cells #[.string ⟨#[]⟩, .string ⟨#[]⟩, .string ⟨#[]⟩, .int .i64 0, .string ⟨#[]⟩, .int .i64 0, .int .i64 0, .int .i64 0, .int .i64 0, .int .i64 0, .int .i64 0, .int .i64 0, .int .i64 0, .int .i64 0, .int .i64 0, .slice none 0 0, .string ⟨#[]⟩, .string ⟨#[]⟩, .string ⟨#[]⟩, .bool false, .bool false] 27)) (w.heap.size + 1) none1 (.slice none 0 0) from h2)
  have HM := Lib.hid (hm.later hB0)
  have HSZ := Lib.hid (show ((w.alloc (.cells (cU u pv) 27)).alloc (.cells #[.string ⟨#[]⟩, .string ⟨#[]⟩, .string ⟨#[]⟩, .int .i64 0, .string ⟨#[]⟩, .int .i64 0, .int .i64 0, .int .i64 0, .int .i64 0, .int .i64 0, .int .i64 0, .int .i64 0, .int .i64 0, .int .i64 0, .int .i64 0, .slice none 0 0, .string ⟨#[]⟩, .string ⟨#[]⟩, .string ⟨#[]⟩, .bool false, .bool false] 27)).heap.size = w.heap.size + 2 by
    rw [show ((w.alloc (.cells (cU u pv) 27)).alloc (.cells #[.string ⟨#[]⟩, .string ⟨#[]⟩, .string ⟨#[]⟩, .int .i64 0, .string ⟨#[]⟩, .int .i64 0, .int .i64 0, .int .i64 0, .int .i64 0, .int .i64 0, .int .i64 0, .int .i64 0, .int .i64 0, .int .i64 0, .int .i64 0, .slice none 0 0, .string ⟨#[]⟩, .string ⟨#[]⟩, .string ⟨#[]⟩, .bool false, .bool false] 27)).heap.size = (w.alloc (.cells (cU u pv) 27)).heap.size + 1 from Array.size_push _, hs1])
  have HS := Lib.hid (hst.later hB0)
  have CB := Lib.hid (fun x hx => Show.bare_any u pv hf x hx)
  have HPT := Lib.hid hf.pt
  have HPL := Lib.hid hp
  have HSS := Lib.hid hs
  have HSl := Lib.hid (show tb s.data.toList = s from tb_of s)
  obtain ⟨a0, c0, rfl, -⟩ := hst
  clear h1 h2 hb1 hs1 hB0 hm hf hp hs
  go_enter Tryz.func31, Tryz.ntmps31
  go_wp2_with ((with_reducible refine wp_load27 (o := ⟨some 8, .load 27 (.tmp 2), _, _, _, _⟩) ?_ (.tmp 2) ?_ w.heap.size ?_ u _ H8.out hU ?_); (· rfl); (· rfl); (· rfl); simp only [Act.put, List.setIfInBounds_toArray, List.set_cons_zero, List.set_cons_succ])
  clear hU
  generalize (w.alloc (.cells (cU u (.slice a0 u.path.length c0)) 27)).alloc (.cells #[.string ⟨#[]⟩, .string ⟨#[]⟩, .string ⟨#[]⟩, .int .i64 0, .string ⟨#[]⟩, .int .i64 0, .int .i64 0, .int .i64 0, .int .i64 0, .int .i64 0, .int .i64 0, .int .i64 0, .int .i64 0, .int .i64 0, .int .i64 0, .slice none 0 0, .string ⟨#[]⟩, .string ⟨#[]⟩, .string ⟨#[]⟩, .bool false, .bool false] 27) = W at HB0 HU HZ HM HS HSZ ⊢
  refine (CB.out _ HS.out).mono ?_
  rintro e u1 ⟨qv, rfl, hst, hn, hB⟩
  rw [HSZ.out] at hn
  have hone := strs_one hst
  have HU1 := Lib.hid (HU.out.later hB)
  have HZ1 := Lib.hid (HZ.out.later hB)
  have HM1 := Lib.hid (HM.out.later hB)
  have HS1 := Lib.hid (HS.out.later hB)
  have HB1 := Lib.hid (Ascii.below2 HB0.out hB)
  have HT1 := Lib.hid hst
  have HN1 := Lib.hid hn
  have HL1 := Lib.hid (show w.heap.size + 2 ≤ u1.heap.size from by rw [← HSZ.out]; exact hB.size)
  clear CB HU HZ HM HS HB0 hst hn hB
  have hnew : StepAt (u1.alloc (.cells #[.string ⟨#[]⟩, .string ⟨#[]⟩, .string ⟨#[]⟩, .int .i64 0, .string ⟨#[]⟩, .int .i64 0, .int .i64 0, .int .i64 0, .int .i64 0, .int .i64 0, .int .i64 0, .int .i64 0, .int .i64 0, .int .i64 0, .int .i64 0, .slice none 0 0, .string ⟨#[]⟩, .string ⟨#[]⟩, .string ⟨#[]⟩, .bool false, .bool false, .string ⟨#[]⟩] 83)) u1.heap.size none1 (.slice none 0 0) ⟨#[]⟩ := StepAt.new u1 none1 (.slice none 0 0) ⟨#[]⟩
  have H8b : (bareU u).h.p.length = 8 := H8.out
  have HC2 := Lib.hid (below_row ((Below.refl u1.heap.size u1).alloc (Nat.le_refl _) (.cells #[.string ⟨#[]⟩, .string ⟨#[]⟩, .string ⟨#[]⟩, .int .i64 0, .string ⟨#[]⟩, .int .i64 0, .int .i64 0, .int .i64 0, .int .i64 0, .int .i64 0, .int .i64 0, .int .i64 0, .int .i64 0, .int .i64 0, .int .i64 0, .slice none 0 0, .string ⟨#[]⟩, .string ⟨#[]⟩, .string ⟨#[]⟩, .bool false, .bool false, .string ⟨#[]⟩] 83)) (Nat.le_refl _) (cS (bareU u) qv s))
  have HG2 := Lib.hid (hnew.row (bareU u) qv s)
  have HS2 := Lib.hid (show ((u1.alloc (.cells #[.string ⟨#[]⟩, .string ⟨#[]⟩, .string ⟨#[]⟩, .int .i64 0, .string ⟨#[]⟩, .int .i64 0, .int .i64 0, .int .i64 0, .int .i64 0, .int .i64 0, .int .i64 0, .int .i64 0, .int .i64 0, .int .i64 0, .int .i64 0, .slice none 0 0, .string ⟨#[]⟩, .string ⟨#[]⟩, .string ⟨#[]⟩, .bool false, .bool false, .string ⟨#[]⟩] 83)).setRow u1.heap.size (cS (bareU u) qv s)).heap.size = u1.heap.size + 1 from (setRow_size _ _ _).trans (Array.size_push _))
  have HU2 := HU1.out.later HC2.out
  have c15 := HU2.cell 15
  rw [(cU_at u (.slice a0 u.path.length c0) H8.out).2.2.2.2.2.1] at c15
  go_wp2_with (first
    | ((with_reducible refine wp_build83 (o := ⟨some 12, .build 83 #[(0, .tmp 9), (1, .tmp 11)], _, _, _, _⟩) ?_ (.tmp 9) (.tmp 11) ?_ (bareU u) qv s ?_ ?_ H8b ?_); (· rfl); (· rfl); (· rfl); (· rfl); simp only [Act.put, List.setIfInBounds_toArray, List.set_cons_zero, List.set_cons_succ])
    | ((with_reducible refine wp_store83 (o := ⟨none, .store 83 (.tmp 5) (.tmp 12), _, _, _, _⟩) ?_ (.tmp 5) (.tmp 12) ?_ u1.heap.size ?_ (bareU u) qv s ?_ H8b hone none1 (.slice none 0 0) ⟨#[]⟩ rfl hnew ?_); (· rfl); (· rfl); (· rfl); (· rfl); simp only [Act.put, List.setIfInBounds_toArray, List.set_cons_zero, List.set_cons_succ]))
  clear c15 HU2
  generalize (u1.alloc (.cells #[.string ⟨#[]⟩, .string ⟨#[]⟩, .string ⟨#[]⟩, .int .i64 0, .string ⟨#[]⟩, .int .i64 0, .int .i64 0, .int .i64 0, .int .i64 0, .int .i64 0, .int .i64 0, .int .i64 0, .int .i64 0, .int .i64 0, .int .i64 0, .slice none 0 0, .string ⟨#[]⟩, .string ⟨#[]⟩, .string ⟨#[]⟩, .bool false, .bool false, .string ⟨#[]⟩] 83)).setRow u1.heap.size (cS (bareU u) qv s) = u2 at HC2 HG2 HS2 ⊢
  refine (segments_any a0 u.path.length c0 u2).mono ?_
  rintro e u3 ⟨rfl, rfl⟩
  go_wp2_with fail
  have hz1 : (u2.alloc (.cells #[(.slice a0 u.path.length c0)] 25)).heap.size = u2.heap.size + 1 := Array.size_push _
  have hg2 := HS2.out
  have HB4 := Lib.hid (show Below u1.heap.size u1 ((u2.alloc (.cells #[(.slice a0 u.path.length c0)] 25)).alloc (.cells #[.func (.func 67) #[] #[], .func (.func 115) #[] #[.pointer (some ⟨u2.heap.size, 0, none⟩)]] 84)) from (HC2.out.alloc (by omega) _).alloc (by omega) _)
  have HG4 := Lib.hid ((HG2.out.past (.cells #[(.slice a0 u.path.length c0)] 25)).past (.cells #[.func (.func 67) #[] #[], .func (.func 115) #[] #[.pointer (some ⟨u2.heap.size, 0, none⟩)]] 84))
  have HQ4 := Lib.hid (show Boxed ((u2.alloc (.cells #[(.slice a0 u.path.length c0)] 25)).alloc (.cells #[.func (.func 67) #[] #[], .func (.func 115) #[] #[.pointer (some ⟨u2.heap.size, 0, none⟩)]] 84)) u2.heap.size 25 (.slice a0 u.path.length c0) from (Boxed.new u2 25 (.slice a0 u.path.length c0)).alloc _)
  have HF4 := Lib.hid (show Funs ((u2.alloc (.cells #[(.slice a0 u.path.length c0)] 25)).alloc (.cells #[.func (.func 67) #[] #[], .func (.func 115) #[] #[.pointer (some ⟨u2.heap.size, 0, none⟩)]] 84)) u2.heap.size (u2.heap.size + 1) from by rw [← hz1]; exact heap_alloc_new _ _)
  generalize (u2.alloc (.cells #[(.slice a0 u.path.length c0)] 25)).alloc (.cells #[.func (.func 67) #[] #[], .func (.func 115) #[] #[.pointer (some ⟨u2.heap.size, 0, none⟩)]] 84) = Z at HB4 HG4 HQ4 HF4 ⊢
  obtain ⟨q, hq⟩ : ∃ q, u2.heap.size = q := ⟨_, rfl⟩
  rw [hq] at HQ4 HF4 hg2 ⊢
  have HQG := Lib.hid (show q ≠ u1.heap.size ∧ q + 1 ≠ u1.heap.size from by omega)
  clear hz1 hg2 HC2 HG2 HS2 hq
  obtain ⟨T1, hT1⟩ : ∃ x, tailS (bareU u) s.data.toList = x := ⟨_, rfl⟩
  obtain ⟨TA, hTA⟩ : ∃ x, tb (tA s.data.toList) = x := ⟨_, rfl⟩
  obtain ⟨T2, hT2⟩ : ∃ x, besU u s.data.toList = x := ⟨_, rfl⟩
  have hTAs : TA.size ≤ 30000 := by rw [size_tb hTA]; exact Nat.le_trans (Nat.le_trans (bef_len _ _) (bef_len _ _)) HSS.out
  have hTAl : TA.data.toList = tA s.data.toList := list_tb hTA
  have hP1 : T1.path = u.path := by rw [← hT1]; rfl
  have hP2 : ({ T1 with path := pathS u.path T1.path TA.data.toList } : U) = T2 := by rw [hTAl, ← hT1, ← hT2]; exact bes_steps u s.data.toList
  have hP3 : pathS u.path T1.path TA.data.toList = T2.path := by rw [← hP2]
  have h81 : T1.h.p.length = 8 := by rw [← hT1]; exact H8.out
  have h82 : T2.h.p.length = 8 := by rw [← hT2]; exact H8.out
  have C1 := Lib.hid (fun x hx => tail_step (bareU u) qv s HSS.out H8b hone m x hx)
  rw [hT1, hTA] at C1
  have C2 := Lib.hid (fun x hx h1 h2 h3 => seg_step T1 qv TA hTAs h81 u.path HPL.out HPT.out (.slice a0 u.path.length c0) q m x hx h1 h2 h3)
  rw [hP2, hP3] at C2
  have HP1 := Lib.hid hP1
  have HT2h := Lib.hid hT2
  have HO := Lib.hid hone
  have H81 := Lib.hid h81
  have H82 := Lib.hid h82
  have H8c := Lib.hid H8b
  clear hT1 hTA hT2 hTAs hTAl hP1 hP2 hP3 h81 h82 H8b hone HPL HPT HSS HSl
  go_loopw [18] (fun i wr => Hid (Below u1.heap.size u1 wr) ∧ Hid (Boxed wr q 25 (.slice a0 u.path.length c0)) ∧ Hid (Funs wr q (q + 1)) ∧ ((i = .int .i64 0 ∧ Hid (StepAt wr u1.heap.size (bareU u) qv s)) ∨ (i = .int .i64 1 ∧ Hid (StepAt wr u1.heap.size T1 qv TA)) ∨
    (i = .int .i64 2 ∧ ∃ rv, Hid (StepAt wr u1.heap.size T2 rv TA) ∧ Hid (Strs wr rv T2.path) ∧ Hid (Path.New (w.heap.size + 2) rv)))) (fun i _ => 2 - (intOf i).toNat)
  case atStart => exact ⟨HB4, HQ4, HF4, .inl ⟨rfl, HG4⟩⟩
  case round =>
    obtain ⟨HB, HQ, HF, ⟨rfl, HG⟩ | ⟨rfl, HG⟩ | ⟨rfl, rv, HG, HT, HN⟩⟩ := hrel
    · have hc := HF.out.cells.1
      have hr := HG.out
      have h8b := H8c.out
      go_wp2_with ((with_reducible refine wp_load83 (o := ⟨some 23, .load 83 (.tmp 5), _, _, _, _⟩) ?_ (.tmp 5) ?_ u1.heap.size ?_ (bareU u) qv s h8b hr ?_); (· rfl); (· rfl); (· rfl); simp only [Act.put, List.setIfInBounds_toArray, List.set_cons_zero, List.set_cons_succ])
      refine (C1.out _ (HM1.out.later HB.out)).mono ?_
      rintro e x ⟨rfl, hB⟩
      clear hc hr
      have hr := HG.out.later hB
      have hone := HO.out
      have h81 := H81.out
      have HB' := Lib.hid (below_row (HB.out.trans (hB.mono HB.out.size)) (Nat.le_refl _) (cS T1 qv TA))
      have HQ' := Lib.hid (show Boxed (x.setRow u1.heap.size (cS T1 qv TA)) q 25 (.slice a0 u.path.length c0) from (row_later hB HQG.out.1 HQ.out.lt).trans HQ.out)
      have HF' := Lib.hid (show Funs (x.setRow u1.heap.size (cS T1 qv TA)) q (q + 1) from (row_later hB HQG.out.2 HF.out.lt).trans HF.out)
      have HG' := Lib.hid (hr.row T1 qv TA)
      clear HB HQ HF hB
      go_wp2_with ((with_reducible refine wp_store83 (o := ⟨none, .store 83 (.tmp 5) (.tmp 24), _, _, _, _⟩) ?_ (.tmp 5) (.tmp 24) ?_ u1.heap.size ?_ T1 qv TA ?_ h81 hone (bareU u) qv s h8b hr ?_); (· rfl); (· rfl); (· rfl); (· rfl); simp only [Act.put, List.setIfInBounds_toArray, List.set_cons_zero, List.set_cons_succ])
      go_roundw
      case rel => exact ⟨HB', HQ', HF', .inr (.inl ⟨by go_num, HG'⟩)⟩
      case measure => simp [intOf]
    · have hc := HF.out.cells.2
      have hr := HG.out
      have h81 := H81.out
      go_wp2_with ((with_reducible refine wp_load83 (o := ⟨some 23, .load 83 (.tmp 5), _, _, _, _⟩) ?_ (.tmp 5) ?_ u1.heap.size ?_ T1 qv TA h81 hr ?_); (· rfl); (· rfl); (· rfl); simp only [Act.put, List.setIfInBounds_toArray, List.set_cons_zero, List.set_cons_succ])
      refine (C2.out _ (HM1.out.later HB.out) (by rw [HP1.out]; exact HT1.out.later HB.out) (HS1.out.later HB.out) HQ.out).mono ?_
      rintro e x ⟨rv, rfl, hst, hnew, hB⟩
      clear hc hr
      have hr := HG.out.later hB
      have hone := strs_one hst
      have h82 := H82.out
      have HB' := Lib.hid (below_row (HB.out.trans (hB.mono HB.out.size)) (Nat.le_refl _) (cS T2 rv TA))
      have HQ' := Lib.hid (show Boxed (x.setRow u1.heap.size (cS T2 rv TA)) q 25 (.slice a0 u.path.length c0) from (row_later hB HQG.out.1 HQ.out.lt).trans HQ.out)
      have HF' := Lib.hid (show Funs (x.setRow u1.heap.size (cS T2 rv TA)) q (q + 1) from (row_later hB HQG.out.2 HF.out.lt).trans HF.out)
      have HG' := Lib.hid (hr.row T2 rv TA)
      have HN' := Lib.hid (show Path.New (w.heap.size + 2) rv from by
        rcases hnew with e | h
        · rw [e]; exact HN1.out
        · exact h.mono (Nat.le_trans HL1.out HB.out.size))
      have HT' := Lib.hid (show Strs (x.setRow u1.heap.size (cS T2 rv TA)) rv T2.path from by
        rcases hnew with e | h
        · exact strs_aside u1.heap.size hst (by rw [e]; exact HT1.out) (Nat.le_refl _) (fun k hk => Url.setRow_other _ _ _ (Ne.symm hk))
        · exact strs_other u1.heap.size hst (h.mono HG.out.lt) (fun k hk => Url.setRow_other _ _ _ (Ne.symm hk)))
      clear HB HQ HF hB hst hnew
      go_wp2_with ((with_reducible refine wp_store83 (o := ⟨none, .store 83 (.tmp 5) (.tmp 24), _, _, _, _⟩) ?_ (.tmp 5) (.tmp 24) ?_ u1.heap.size ?_ T2 rv TA ?_ h82 hone T1 qv TA h81 hr ?_); (· rfl); (· rfl); (· rfl); (· rfl); simp only [Act.put, List.setIfInBounds_toArray, List.set_cons_zero, List.set_cons_succ])
      go_roundw
      case rel => exact ⟨HB', HQ', HF', .inr (.inr ⟨by go_num, rv, HG', HT', HN'⟩)⟩
      case measure => simp [intOf]
    · have hr := HG.out
      have h82 := H82.out
      have hone := strs_one HT.out
      have hz := HZ1.out.later HB.out
      have hBw := Ascii.below2 HB1.out HB.out
      have hst := HT.out
      have hn := HN.out
      clear HQ HF C1 C2
      go_wp2_with (first
        | ((with_reducible refine wp_load27s (o := ⟨some 27, .load 27 (.tmp 26), _, _, _, _⟩) ?_ (.tmp 26) ?_ u1.heap.size ?_ T2 rv TA h82 hr ?_); (· rfl); (· rfl); (· rfl); simp only [Act.put, List.setIfInBounds_toArray, List.set_cons_zero, List.set_cons_succ])
        | ((with_reducible refine wp_store27 (o := ⟨none, .store 27 (.tmp 4) (.tmp 27), _, _, _, _⟩) ?_ (.tmp 4) (.tmp 27) ?_ (w.heap.size + 1) ?_ T2 rv ?_ h82 hone none1 (.slice none 0 0) rfl hz ?_); (· rfl); (· rfl); (· rfl); (· rfl); simp only [Act.put, List.setIfInBounds_toArray, List.set_cons_zero, List.set_cons_succ]))
      exact bodyPost_ret (ret_url rfl (w.heap.size + 1) T2 rv h82 rfl (hz.row T2 rv)) rfl (by rw [HT2h.out]; exact ⟨rv, rfl, strs_other (w.heap.size + 1) hst hn (fun k hk => Url.setRow_other _ _ _ (Ne.symm hk)), hn.mono (by omega), below_row hBw (Nat.le_succ _) _⟩)

end Go.Proofs.YtkhjhiofgoampaaGreatDoor.Join

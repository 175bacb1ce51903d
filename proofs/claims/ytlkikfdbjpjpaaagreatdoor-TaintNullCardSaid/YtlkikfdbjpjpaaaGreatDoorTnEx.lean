/-
  The chapter's example, plain.
-/
import Derived.Test.YtlkikfdbjpjpaaaGreatDoorTnFacts
import Derived.Test.YtlkikfdbjpjpaaaGreatDoorRqFew
namespace Go.Proofs.YtlkikfdbjpjpaaaGreatDoor.Taint
set_option linter.unusedSimpArgs false
set_option linter.unusedVariables false
set_option maxRecDepth 100000


open Url Show Origin Req

open Host (H none0 mayH showH localH okH parH domB)

set_option maxRecDepth 100000

def borg : T := [98, 46, 111, 114, 103]

theorem borg_dom : domB borg = true := by decide +kernel

def bH : H := ⟨1, ⟨borg.toArray⟩, 0, Six.zero8⟩

theorem borg_ok : okH borg = true ∧ parH borg = bH := Host.ok_dom borg borg_dom

def corg : T := [99, 46, 111, 114, 103]

theorem corg_dom : domB corg = true := by decide +kernel

def cH : H := ⟨1, ⟨corg.toArray⟩, 0, Six.zero8⟩

theorem corg_ok : okH corg = true ∧ parH corg = cH := Host.ok_dom corg corg_dom

def sA : T := [104, 116, 116, 112, 115, 58, 47, 47, 97, 46, 111, 114, 103]

def eA : U := ⟨https, [], [], aH, -1, [[]], [], [], [], false, false⟩

theorem sA_ok : okU sA = true := by decide +kernel

theorem sA_par : parU sA = eA := by
  have h1 : Ascii.clean sA = sA := by decide +kernel
  have h2 : okS sA = true := by decide +kernel
  have h3 : schS sA = https := by decide +kernel
  have h4 : schR sA = [47, 47, 97, 46, 111, 114, 103] := by decide +kernel
  have h5 : tA [47, 47, 97, 46, 111, 114, 103] = [47, 47, 97, 46, 111, 114, 103] := by decide +kernel
  have h6 : hname (place (auth [47, 47, 97, 46, 111, 114, 103])) = aorg := by decide +kernel
  unfold parU
  rw [h1]
  unfold parS aheadU
  rw [h2, if_pos rfl, h3, h4, h5, if_neg (by decide)]
  unfold tailU webU
  rw [h6, aorg_ok.2]
  unfold eA
  rw [U.mk.injEq]
  exact ⟨rfl, by decide +kernel, by decide +kernel, rfl, by decide +kernel, by decide +kernel, rfl, by decide +kernel, by decide +kernel, by decide +kernel, by decide +kernel⟩

theorem eA_may : mayU eA = true := by rw [← sA_par]; exact par_may _ sA_ok

theorem eA_fit : Fit eA := ⟨rfl, by decide, by decide, by decide, by decide, by decide, by decide, by decide, by decide, by decide⟩

def oA : O := ⟨false, https, aH, -1⟩

theorem eA_of : ofU eA = oA := of_web eA_may (by decide)

theorem oA_may : mayO oA = true := by rw [← eA_of]; exact of_may _

def sB : T := [104, 116, 116, 112, 115, 58, 47, 47, 98, 46, 111, 114, 103]

def eB : U := ⟨https, [], [], bH, -1, [[]], [], [], [], false, false⟩

theorem sB_ok : okU sB = true := by decide +kernel

theorem sB_par : parU sB = eB := by
  have h1 : Ascii.clean sB = sB := by decide +kernel
  have h2 : okS sB = true := by decide +kernel
  have h3 : schS sB = https := by decide +kernel
  have h4 : schR sB = [47, 47, 98, 46, 111, 114, 103] := by decide +kernel
  have h5 : tA [47, 47, 98, 46, 111, 114, 103] = [47, 47, 98, 46, 111, 114, 103] := by decide +kernel
  have h6 : hname (place (auth [47, 47, 98, 46, 111, 114, 103])) = borg := by decide +kernel
  unfold parU
  rw [h1]
  unfold parS aheadU
  rw [h2, if_pos rfl, h3, h4, h5, if_neg (by decide)]
  unfold tailU webU
  rw [h6, borg_ok.2]
  unfold eB
  rw [U.mk.injEq]
  exact ⟨rfl, by decide +kernel, by decide +kernel, rfl, by decide +kernel, by decide +kernel, rfl, by decide +kernel, by decide +kernel, by decide +kernel, by decide +kernel⟩

theorem eB_may : mayU eB = true := by rw [← sB_par]; exact par_may _ sB_ok

theorem eB_fit : Fit eB := ⟨rfl, by decide, by decide, by decide, by decide, by decide, by decide, by decide, by decide, by decide⟩

def oB : O := ⟨false, https, bH, -1⟩

theorem eB_of : ofU eB = oB := of_web eB_may (by decide)

theorem oB_may : mayO oB = true := by rw [← eB_of]; exact of_may _

def sC : T := [104, 116, 116, 112, 115, 58, 47, 47, 99, 46, 111, 114, 103]

def eC : U := ⟨https, [], [], cH, -1, [[]], [], [], [], false, false⟩

theorem sC_ok : okU sC = true := by decide +kernel

theorem sC_par : parU sC = eC := by
  have h1 : Ascii.clean sC = sC := by decide +kernel
  have h2 : okS sC = true := by decide +kernel
  have h3 : schS sC = https := by decide +kernel
  have h4 : schR sC = [47, 47, 99, 46, 111, 114, 103] := by decide +kernel
  have h5 : tA [47, 47, 99, 46, 111, 114, 103] = [47, 47, 99, 46, 111, 114, 103] := by decide +kernel
  have h6 : hname (place (auth [47, 47, 99, 46, 111, 114, 103])) = corg := by decide +kernel
  unfold parU
  rw [h1]
  unfold parS aheadU
  rw [h2, if_pos rfl, h3, h4, h5, if_neg (by decide)]
  unfold tailU webU
  rw [h6, corg_ok.2]
  unfold eC
  rw [U.mk.injEq]
  exact ⟨rfl, by decide +kernel, by decide +kernel, rfl, by decide +kernel, by decide +kernel, rfl, by decide +kernel, by decide +kernel, by decide +kernel, by decide +kernel⟩

theorem eC_may : mayU eC = true := by rw [← sC_par]; exact par_may _ sC_ok

theorem eC_fit : Fit eC := ⟨rfl, by decide, by decide, by decide, by decide, by decide, by decide, by decide, by decide, by decide⟩

def oC : O := ⟨false, https, cH, -1⟩

theorem eC_of : ofU eC = oC := of_web eC_may (by decide)

theorem oC_may : mayO oC = true := by rw [← eC_of]; exact of_may _

theorem oA_show : showO oA = [104, 116, 116, 112, 115, 58, 47, 47, 97, 46, 111, 114, 103] := by
  rw [show_begins oA_may rfl, show oA.h = aH from rfl, aorg_show]
  rfl

theorem ab_same : sameO oA oB = false := by
  cases e : sameO oA oB
  · rfl
  · exact absurd (congrArg H.s ((sameO_iff _ _).1 e).2.2.2.2.2.1) (by decide +kernel)

theorem bc_same : sameO oB oC = false := by
  cases e : sameO oB oC
  · rfl
  · exact absurd (congrArg H.s ((sameO_iff _ _).1 e).2.2.2.2.2.1) (by decide +kernel)

theorem aa_same : sameO oA oA = true := (sameO_iff _ _).2 ⟨oA_may, oA_may, rfl, rfl, rfl, rfl, rfl⟩

/-- The requests: as first asked, tainted, and then navigated to. -/
def q0 : R := ⟨eB, getT, false, oA, 1, 0, 0, [], false, false, 0⟩

def q1 : R := { q0 with tnt := true }

def q2 : R := { q1 with mode := 0 }

theorem q0_own : ownB q0 = false := by
  show sameO oA (ofU eB) = false
  rw [eB_of]; exact ab_same

theorem q0_sends : sendsB q0 = true ∧ sendsT q0 = [104, 116, 116, 112, 115, 58, 47, 47, 97, 46, 111, 114, 103] := by
  obtain ⟨_, h, _, k⟩ := cors_law q0 0 rfl
  exact ⟨(h q0_own).1, ((k (h q0_own).1).2 rfl).trans oA_show⟩

theorem q1_sends : sendsB q1 = true ∧ sendsT q1 = nullT := by
  obtain ⟨_, h, _, k⟩ := cors_law q1 0 rfl
  exact ⟨(h q0_own).1, (k (h q0_own).1).1 rfl⟩

theorem q2_quiet : quietB q2 = true := by
  unfold quietB
  rw [show asksB q2 = true from rfl, show (q2.mode == 1) = false from rfl]
  rfl

theorem q2_cross : crossB q2 = false := by
  unfold crossB
  rw [show q2.crs = false from rfl, show (q2.mode == 1) = false from rfl]
  rfl

theorem bc_taint : taintB false oA eB eC = true := by
  unfold taintB bothU
  rw [eB_of, eC_of, bc_same, ab_same]
  rfl

theorem ac_taint : taintB false oA eA eC = false := by
  unfold taintB
  rw [eA_of, aa_same]
  simp

def uN : U := { none1 with usr := [117] }

theorem uN_creds : credsB uN = true := by decide

theorem q_fit (q : R) (h1 : q.url = eB) (h2 : q.o = oA) : QFit q :=
  ⟨⟨by rw [h1]; rfl, by rw [h2]; rfl⟩, by rw [h1]; exact eB_fit, by rw [h1]; decide, by rw [h2]; decide, by rw [h2]; decide, by rw [h2]; decide⟩

end Go.Proofs.YtlkikfdbjpjpaaaGreatDoor.Taint

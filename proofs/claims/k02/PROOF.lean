import PyProof.Rows.All
import Wide.All
import OpenK.AllK
import Wide.FinOn
import HandS.ForMost
import HandS.Evl
import HandS.IsInst
import HandS.Codes
import HandS.StrMore
import HandS.Wide
import HandS.EndBits
import HandS.Style
import KE.KDictDisplayH
import KE.KRevSl
import PyProof.Draws
import PyProof.EnumMake
import PyProof.Rows.TupDisplay
import PyProof.StrLawsLast
import HandS.Walk
import HandS.Lambda
import HandS.ExcOwn
import HandS.ExcIs
import HandS.ExcField
import HandS.WordsExc
import HandS.Conv
import KE.KExcIs
import HandS.EndTab
import KE.KNestM
import HandS.ExcInit
import HandS.FStr
import KE.KExcSuper
import PySem.Challenge.RW_helperwire_k02_edits
set_option Elab.async false
set_option linter.all false
set_option maxRecDepth 100000
namespace HW
open PySem PySem.Spec PyProof.Rows L2 Evl SX

/-! ### data as a whole -/
inductive D where
  | non | bl (b : Bool) | int (i : Int) | str (l : List Nat) | tup (ds : List D) | lst (ds : List D)

mutual
def Rp (H : Hp) : D → V → Prop
  | .non, v => v = .non
  | .bl b, v => v = .bl b
  | .int i, v => v = .int i
  | .str l, v => v = .str (S l)
  | .tup ds, v => ∃ p vs, v = .ref p ∧ H p = some (.tup vs) ∧ Rps H ds vs
  | .lst ds, v => ∃ p vs, v = .ref p ∧ H p = some (.lst vs) ∧ Rps H ds vs
def Rps (H : Hp) : List D → List V → Prop
  | [], vs => vs = []
  | d :: ds, vs => ∃ v r, vs = v :: r ∧ Rp H d v ∧ Rps H ds r
end
mutual
theorem Rp.ex {H H' : Hp} (e : Ex H H') : ∀ {d : D} {v : V}, Rp H d v → Rp H' d v
  | .non, _, h => by rw [Rp] at h ⊢; exact h
  | .bl _, _, h => by rw [Rp] at h ⊢; exact h
  | .int _, _, h => by rw [Rp] at h ⊢; exact h
  | .str _, _, h => by rw [Rp] at h ⊢; exact h
  | .tup ds, _, h => by
    rw [Rp] at h ⊢
    obtain ⟨p, vs, h1, h2, h3⟩ := h
    exact ⟨p, vs, h1, e _ _ h2, Rps.ex e h3⟩
  | .lst ds, _, h => by
    rw [Rp] at h ⊢
    obtain ⟨p, vs, h1, h2, h3⟩ := h
    exact ⟨p, vs, h1, e _ _ h2, Rps.ex e h3⟩
theorem Rps.ex {H H' : Hp} (e : Ex H H') : ∀ {ds : List D} {vs : List V}, Rps H ds vs → Rps H' ds vs
  | [], _, h => by rw [Rps] at h ⊢; exact h
  | d :: ds, _, h => by
    rw [Rps] at h ⊢
    obtain ⟨v, r, h1, h2, h3⟩ := h
    exact ⟨v, r, h1, Rp.ex e h2, Rps.ex e h3⟩
end
section
variable {H : Hp} {v : V} {vs : List V}
theorem rp_non : Rp H .non v ↔ v = .non := by rw [Rp]
theorem rp_bl {b : Bool} : Rp H (.bl b) v ↔ v = .bl b := by rw [Rp]
theorem rp_int {i : Int} : Rp H (.int i) v ↔ v = .int i := by rw [Rp]
theorem rp_str {l : List Nat} : Rp H (.str l) v ↔ v = .str (S l) := by rw [Rp]
theorem rp_tup {ds : List D} : Rp H (.tup ds) v ↔ ∃ p vs, v = .ref p ∧ H p = some (.tup vs) ∧ Rps H ds vs := by rw [Rp]
theorem rp_lst {ds : List D} : Rp H (.lst ds) v ↔ ∃ p vs, v = .ref p ∧ H p = some (.lst vs) ∧ Rps H ds vs := by rw [Rp]
theorem rps_nil : Rps H [] vs ↔ vs = [] := by rw [Rps]
theorem rps_cons {d : D} {ds : List D} : Rps H (d :: ds) vs ↔ ∃ v r, vs = v :: r ∧ Rp H d v ∧ Rps H ds r := by rw [Rps]
theorem rps_len : ∀ {ds : List D} {vs : List V}, Rps H ds vs → vs.length = ds.length
  | [], _, h => by rw [rps_nil.mp h]; rfl
  | d :: ds, _, h => by
    obtain ⟨v, r, rfl, _, h3⟩ := rps_cons.mp h
    show r.length + 1 = ds.length + 1
    rw [rps_len h3]
theorem rps_get : ∀ {ds : List D} {vs : List V} {i : Nat} {d : D}, Rps H ds vs → ds[i]? = some d → ∃ v, vs[i]? = some v ∧ Rp H d v
  | [], _, _, _, _, e => by simp at e
  | d :: ds, _, 0, _, h, e => by
    obtain ⟨v, r, rfl, h2, h3⟩ := rps_cons.mp h
    have e : d = _ := Option.some.inj e
    subst e
    exact ⟨v, rfl, h2⟩
  | d :: ds, _, i + 1, d', h, e => by
    obtain ⟨v, r, rfl, h2, h3⟩ := rps_cons.mp h
    exact rps_get (i := i) h3 e
theorem rps_app : ∀ {ds es : List D} {vs ws : List V}, Rps H ds vs → Rps H es ws → Rps H (ds ++ es) (vs ++ ws)
  | [], es, _, _, h, h' => by rw [rps_nil.mp h]; exact h'
  | d :: ds, es, _, _, h, h' => by
    obtain ⟨v, r, rfl, h2, h3⟩ := rps_cons.mp h
    exact rps_cons.mpr ⟨v, _, rfl, h2, rps_app h3 h'⟩
end
mutual
theorem Rp.dp {K : PySem.W.Frag} {H : Hp} : ∀ {d : D} {v : V}, Rp H d v → ∃ e : PyData, Dp K H v e ∧ ∀ H' v', Rp H' d v' → Dp K H' v' e
  | .non, _, h => by
    rw [rp_non.mp h]
    exact ⟨_, .non, fun H' v' h' => by rw [rp_non.mp h']; exact .non⟩
  | .bl b, _, h => by
    rw [rp_bl.mp h]
    exact ⟨_, .bl b, fun H' v' h' => by rw [rp_bl.mp h']; exact .bl b⟩
  | .int b, _, h => by
    rw [rp_int.mp h]
    exact ⟨_, .int b, fun H' v' h' => by rw [rp_int.mp h']; exact .int b⟩
  | .str b, _, h => by
    rw [rp_str.mp h]
    exact ⟨_, .str _, fun H' v' h' => by rw [rp_str.mp h']; exact .str _⟩
  | .tup ds, _, h => by
    obtain ⟨p, vs, rfl, h2, h3⟩ := rp_tup.mp h
    obtain ⟨es, q1, q2⟩ := Rps.dp (K := K) h3
    exact ⟨_, .tup (st_of h2) q1, fun H' v' h' => by
      obtain ⟨p, vs, rfl, h2, h3⟩ := rp_tup.mp h'
      exact .tup (st_of h2) (q2 _ _ h3)⟩
  | .lst ds, _, h => by
    obtain ⟨p, vs, rfl, h2, h3⟩ := rp_lst.mp h
    obtain ⟨es, q1, q2⟩ := Rps.dp (K := K) h3
    exact ⟨_, .lst (sq_of h2) q1, fun H' v' h' => by
      obtain ⟨p, vs, rfl, h2, h3⟩ := rp_lst.mp h'
      exact .lst (sq_of h2) (q2 _ _ h3)⟩
theorem Rps.dp {K : PySem.W.Frag} {H : Hp} : ∀ {ds : List D} {vs : List V}, Rps H ds vs → ∃ es : List PyData, DpAll K H vs es ∧ ∀ H' vs', Rps H' ds vs' → DpAll K H' vs' es
  | [], _, h => by
    rw [rps_nil.mp h]
    exact ⟨[], .nil, fun H' v' h' => by rw [rps_nil.mp h']; exact .nil⟩
  | d :: ds, _, h => by
    obtain ⟨v, r, rfl, h2, h3⟩ := rps_cons.mp h
    obtain ⟨e, q1, q2⟩ := Rp.dp (K := K) h2
    obtain ⟨es, q3, q4⟩ := Rps.dp (K := K) h3
    exact ⟨e :: es, .cons q1 q3, fun H' v' h' => by
      obtain ⟨v, r, rfl, h2, h3⟩ := rps_cons.mp h'
      exact .cons (q2 _ _ h2) (q4 _ _ h3)⟩
end

/-! ### what evaluates to which data -/
def EvD (te : TE) (σ : L2.St) (H : Hp) (d : D) : Prop := ∀ H1, Ex H H1 → ∀ Q : VK, (∀ v H2, Ex H1 H2 → Rp H2 d v → Q v H2) → te σ H1 Q
def EvDA (ta : TA) (σ : L2.St) (H : Hp) (ds : List D) : Prop := ∀ H1, Ex H H1 → ∀ Q : List V → Hp → Prop, (∀ vs H2, Ex H1 H2 → Rps H2 ds vs → Q vs H2) → ta σ H1 Q
section
variable {K : PySem.W.Frag} {σ : L2.St} {H H' : Hp} {ta tb te tx : TE} {t u : TT} {x y z v : V} {r : R2} {d e : D} {ds : List D}
theorem EvD.mono (e : Ex H H') (h : EvD te σ H d) : EvD te σ H' d := fun H1 a Q q => h H1 (e.trans a) Q q
theorem EvDA.mono {ta : TA} (e : Ex H H') (h : EvDA ta σ H ds) : EvDA ta σ H' ds := fun H1 a Q q => h H1 (e.trans a) Q q
theorem ed_var {i : Nat} (h : σ[i]? = some (some v)) (r : Rp H d v) : EvD (tVar i) σ H d := fun H1 e _ q => ⟨v, h, q v H1 (Ex.refl H1) (r.ex e)⟩
theorem ed_of (h : Ev te σ H v) (r : Rp H d v) : EvD te σ H d := fun H1 e Q q => h H1 e Q fun H2 e2 => q v H2 e2 (r.ex (e.trans e2))
theorem ed_i {i : Int} (h : Ev te σ H (.int i)) : EvD te σ H (.int i) := ed_of h (rp_int.mpr rfl)
theorem ed_s {l : List Nat} (h : Ev te σ H (.str (S l))) : EvD te σ H (.str l) := ed_of h (rp_str.mpr rfl)
theorem ed_b {b : Bool} (h : Ev te σ H (.bl b)) : EvD te σ H (.bl b) := ed_of h (rp_bl.mpr rfl)
theorem ed_n (h : Ev te σ H .non) : EvD te σ H .non := ed_of h (rp_non.mpr rfl)
theorem EvD.i {i : Int} (h : EvD te σ H (.int i)) : Ev te σ H (.int i) := fun H1 e Q q => h H1 e Q fun v H2 e2 r => by rw [rp_int.mp r]; exact q H2 e2
theorem EvD.s {l : List Nat} (h : EvD te σ H (.str l)) : Ev te σ H (.str (S l)) := fun H1 e Q q => h H1 e Q fun v H2 e2 r => by rw [rp_str.mp r]; exact q H2 e2
theorem EvD.b {b : Bool} (h : EvD te σ H (.bl b)) : Ev te σ H (.bl b) := fun H1 e Q q => h H1 e Q fun v H2 e2 r => by rw [rp_bl.mp r]; exact q H2 e2
theorem eda_nil : EvDA tNil σ H [] := fun H1 _ _ q => q [] H1 (Ex.refl H1) (rps_nil.mpr rfl)
theorem eda_cons {tr : TA} (h : EvD ta σ H d) (hr : EvDA tr σ H ds) : EvDA (tCons ta tr) σ H (d :: ds) := fun H1 e _ q =>
  h H1 e _ fun v H2 e2 r => hr H2 (e.trans e2) _ fun vs H3 e3 rs => q _ H3 (e2.trans e3) (rps_cons.mpr ⟨v, vs, rfl, r.ex e3, rs⟩)
theorem ed_tup {ta : TA} (h : EvDA ta σ H ds) (hl : ds.length ≤ 100000 := by simp) : EvD (tTup ta) σ H (.tup ds) := fun H1 e _ q =>
  h H1 e _ fun vs H2 e2 rs => ⟨sz_of (by rw [rps_len rs]; exact hl), fun p hp => q _ _ (e2.trans (Ex.new hp)) (rp_tup.mpr ⟨p, vs, rfl, upd_same, rs.ex (Ex.new hp)⟩)⟩
theorem ed_lst {ta : TA} (h : EvDA ta σ H ds) (hl : ds.length ≤ 100000 := by simp) : EvD (tLst ta) σ H (.lst ds) := fun H1 e _ q =>
  h H1 e _ fun vs H2 e2 rs => ⟨sz_of (by rw [rps_len rs]; exact hl), fun p hp => q _ _ (e2.trans (Ex.new hp)) (rp_lst.mpr ⟨p, vs, rfl, upd_same, rs.ex (Ex.new hp)⟩)⟩
theorem ed_if {b : Bool} (h : EvT t σ H b) (h1 : b = true → EvD ta σ H d) (h2 : b = false → EvD tb σ H d) : EvD (tIf t ta tb) σ H d := fun H1 e Q q => h H1 e _ fun H2 e2 => by
  cases b with
  | true =>
    show ta σ H2 Q
    exact h1 rfl H2 (e.trans e2) Q fun v H3 e3 r => q v H3 (e2.trans e3) r
  | false =>
    show tb σ H2 Q
    exact h2 rfl H2 (e.trans e2) Q fun v H3 e3 r => q v H3 (e2.trans e3) r
/-- an item of a tuple, of a list -/
theorem ed_ixT {i : Int} (h : EvD ta σ H (.tup ds)) (hi : Ev tb σ H (.int i)) (hd : atI ds i = some d) : EvD (tOp (rIxT K) ta tb) σ H d := fun H1 e Q q =>
  h H1 e _ fun v H2 e2 r => hi H2 (e.trans e2) _ fun H3 e3 => by
    obtain ⟨p, vs, rfl, h2, h3⟩ := rp_tup.mp (r.ex e3)
    have hl := rps_len h3
    unfold atI at hd
    cases hj : ixN ds.length i with
    | none => rw [hj] at hd; cases hd
    | some j =>
      rw [hj] at hd
      obtain ⟨w, hw, rw'⟩ := rps_get h3 (show ds[j]? = some d from hd)
      refine ⟨p, vs, i, w, rfl, rfl, st_of h2, ?_, q w H3 (e2.trans e3) rw'⟩
      unfold atI
      rw [hl, hj]
      exact hw
theorem ed_ixL {i : Int} (h : EvD ta σ H (.lst ds)) (hi : Ev tb σ H (.int i)) (hd : atI ds i = some d) : EvD (tOp (rIxL K) ta tb) σ H d := fun H1 e Q q =>
  h H1 e _ fun v H2 e2 r => hi H2 (e.trans e2) _ fun H3 e3 => by
    obtain ⟨p, vs, rfl, h2, h3⟩ := rp_lst.mp (r.ex e3)
    have hl := rps_len h3
    unfold atI at hd
    cases hj : ixN ds.length i with
    | none => rw [hj] at hd; cases hd
    | some j =>
      rw [hj] at hd
      obtain ⟨w, hw, rw'⟩ := rps_get h3 (show ds[j]? = some d from hd)
      refine ⟨p, vs, i, w, rfl, rfl, sq_of h2, ?_, q w H3 (e2.trans e3) rw'⟩
      unfold atI
      rw [hl, hj]
      exact hw
/-! ### promises of defs that change nothing -/
/-- n arguments that read as ds: what is told reads as d -/
def SpR (n : Nat) (R : List D → D → Prop) : Sp := fun vs H Q _ => ∃ ds d, ds.length = n ∧ Rps H ds vs ∧ R ds d ∧ ∀ v H', Ex H H' → Rp H' d v → Q v H'
theorem SpR.len {n : Nat} {R : List D → D → Prop} {vs : List V} {H : Hp} {Q : VK} {E : XK} (h : SpR n R vs H Q E) : vs.length = n := by
  obtain ⟨ds, d, h1, h2, _⟩ := h
  rw [rps_len h2, h1]
theorem ed_call {n : Nat} {R : List D → D → Prop} {E : XK} {ta : TA} (h : EvDA ta σ H ds) (hR : R ds d) (hn : ds.length = n := by rfl) : EvD (tCall (SpR n R) [] E ta) σ H d := fun H1 e Q q =>
  h H1 e _ fun vs H2 e2 rs => ⟨ds, d, hn, by rw [List.append_nil]; exact rs, hR, fun v H3 e3 r => q v H3 (e2.trans e3) r⟩
/-! ### statements -/
variable {D' : Ends} {tu tw tz : TS} {g : TG}
theorem sd_ret (h : EvD te σ H d) (k : ∀ v H1, Ex H H1 → Rp H1 d v → D'.rt v H1) : tRet te D' σ H := h H (Ex.refl H) _ k
theorem sd_asg {i : Nat} (h : EvD te σ H d) (k : ∀ v H1, Ex H H1 → Rp H1 d v → D'.nx (σ.set i (some v)) H1) : tAsg te (gName i) D' σ H := h H (Ex.refl H) _ k
theorem qd_asg {i : Nat} (h : EvD te σ H d) (k : ∀ v H1, Ex H H1 → Rp H1 d v → tz D' (σ.set i (some v)) H1) : tSeq (tAsg te (gName i)) tz D' σ H := sd_asg (D' := { D' with nx := tz D' }) h k
theorem qd_drop (h : EvD te σ H d) (k : ∀ H1, Ex H H1 → tz D' σ H1) : tSeq (tDrop te) tz D' σ H := h H (Ex.refl H) _ fun v H1 e _ => k H1 e
theorem sd_un2 {i j : Nat} {d1 d2 : D} (h : EvD te σ H (.tup [d1, d2])) (k : ∀ v1 v2 H1, Ex H H1 → Rp H1 d1 v1 → Rp H1 d2 v2 → D'.nx ((σ.set i (some v1)).set j (some v2)) H1) :
    tAsg te (gTup K 2 (gCons (gName i) (gCons (gName j) gNil))) D' σ H := h H (Ex.refl H) _ fun v H1 e r => by
  obtain ⟨p, vs, rfl, h2, h3⟩ := rp_tup.mp r
  obtain ⟨v1, r1, rfl, a1, h3⟩ := rps_cons.mp h3
  obtain ⟨v2, r2, rfl, a2, h3⟩ := rps_cons.mp h3
  rw [rps_nil.mp h3] at h2
  exact ⟨p, [v1, v2], rfl, st_of h2, rfl, v1, [v2], rfl, v2, [], rfl, rfl, k v1 v2 H1 e a1 a2⟩
theorem qd_un2 {i j : Nat} {d1 d2 : D} (h : EvD te σ H (.tup [d1, d2])) (k : ∀ v1 v2 H1, Ex H H1 → Rp H1 d1 v1 → Rp H1 d2 v2 → tz D' ((σ.set i (some v1)).set j (some v2)) H1) :
    tSeq (tAsg te (gTup K 2 (gCons (gName i) (gCons (gName j) gNil)))) tz D' σ H := sd_un2 (D' := { D' with nx := tz D' }) h k
theorem sd_un3 {i j l : Nat} {d1 d2 d3 : D} (h : EvD te σ H (.tup [d1, d2, d3])) (k : ∀ v1 v2 v3 H1, Ex H H1 → Rp H1 d1 v1 → Rp H1 d2 v2 → Rp H1 d3 v3 → D'.nx (((σ.set i (some v1)).set j (some v2)).set l (some v3)) H1) :
    tAsg te (gTup K 3 (gCons (gName i) (gCons (gName j) (gCons (gName l) gNil)))) D' σ H := h H (Ex.refl H) _ fun v H1 e r => by
  obtain ⟨p, vs, rfl, h2, h3⟩ := rp_tup.mp r
  obtain ⟨v1, r1, rfl, a1, h3⟩ := rps_cons.mp h3
  obtain ⟨v2, r2, rfl, a2, h3⟩ := rps_cons.mp h3
  obtain ⟨v3, r3, rfl, a3, h3⟩ := rps_cons.mp h3
  rw [rps_nil.mp h3] at h2
  exact ⟨p, [v1, v2, v3], rfl, st_of h2, rfl, v1, _, rfl, v2, _, rfl, v3, [], rfl, rfl, k v1 v2 v3 H1 e a1 a2 a3⟩
theorem qd_un3 {i j l : Nat} {d1 d2 d3 : D} (h : EvD te σ H (.tup [d1, d2, d3])) (k : ∀ v1 v2 v3 H1, Ex H H1 → Rp H1 d1 v1 → Rp H1 d2 v2 → Rp H1 d3 v3 → tz D' (((σ.set i (some v1)).set j (some v2)).set l (some v3)) H1) :
    tSeq (tAsg te (gTup K 3 (gCons (gName i) (gCons (gName j) (gCons (gName l) gNil))))) tz D' σ H := sd_un3 (D' := { D' with nx := tz D' }) h k
theorem sd_un4 {i j l m : Nat} {d1 d2 d3 d4 : D} (h : EvD te σ H (.tup [d1, d2, d3, d4])) (k : ∀ v1 v2 v3 v4 H1, Ex H H1 → Rp H1 d1 v1 → Rp H1 d2 v2 → Rp H1 d3 v3 → Rp H1 d4 v4 → D'.nx ((((σ.set i (some v1)).set j (some v2)).set l (some v3)).set m (some v4)) H1) :
    tAsg te (gTup K 4 (gCons (gName i) (gCons (gName j) (gCons (gName l) (gCons (gName m) gNil))))) D' σ H := h H (Ex.refl H) _ fun v H1 e r => by
  obtain ⟨p, vs, rfl, h2, h3⟩ := rp_tup.mp r
  obtain ⟨v1, r1, rfl, a1, h3⟩ := rps_cons.mp h3
  obtain ⟨v2, r2, rfl, a2, h3⟩ := rps_cons.mp h3
  obtain ⟨v3, r3, rfl, a3, h3⟩ := rps_cons.mp h3
  obtain ⟨v4, r4, rfl, a4, h3⟩ := rps_cons.mp h3
  rw [rps_nil.mp h3] at h2
  exact ⟨p, [v1, v2, v3, v4], rfl, st_of h2, rfl, v1, _, rfl, v2, _, rfl, v3, _, rfl, v4, [], rfl, rfl, k v1 v2 v3 v4 H1 e a1 a2 a3 a4⟩
theorem qd_un4 {i j l m : Nat} {d1 d2 d3 d4 : D} (h : EvD te σ H (.tup [d1, d2, d3, d4])) (k : ∀ v1 v2 v3 v4 H1, Ex H H1 → Rp H1 d1 v1 → Rp H1 d2 v2 → Rp H1 d3 v3 → Rp H1 d4 v4 → tz D' ((((σ.set i (some v1)).set j (some v2)).set l (some v3)).set m (some v4)) H1) :
    tSeq (tAsg te (gTup K 4 (gCons (gName i) (gCons (gName j) (gCons (gName l) (gCons (gName m) gNil)))))) tz D' σ H := sd_un4 (D' := { D' with nx := tz D' }) h k
end

/-! ### a def that stands -/
structure Df (P : Program) (w : World) (K : PySem.W.Frag) (mg : Str → Option Value) (base : Heap) (x : Str) (ps : List Str) (k : Nat) (sp : Sp) : Prop where
  ex : ∃ f fd, FnOk P w K mg base CX0 k f fd ps sp ∧ mg x = some (.ref f) ∧ PySem.W.keepIn K (.ref f) = true ∧ Binds K fd ps []
theorem Df.pe {X : Cx} {x : Str} {ps : List Str} {k : Nat} {sp : Sp} {e : Expr} {es : List Expr} {t : TA} {p pos : Pos} (d : Df X.prog X.w X.K X.mg X.base x ps k sp) (hr : Room k X.A) (ha : PA X (e :: es) t) (hg : Gl X x := by rfl)
    (hdb : (x == ("__debug__" : Str)) = false := by decide) (he : starEach (e :: es) X.env = (false, eval e X.env) :: starEach es X.env := by rfl) (hpl : (backTo pos (starEach es X.env)).any (·.1) = false := by rfl) : PE X (.Call (.Name x p) (e :: es) [] pos) (tCall sp [] E0 t) := by
  obtain ⟨f, fd, h1, h2, h3, h4⟩ := d.ex
  exact pe_call h1 hr hg h2 h3 h4 .nil pass0 ha hdb he hpl
end HW

set_option Elab.async false
set_option linter.all false
set_option maxRecDepth 100000
namespace HW
open PySem PySem.Spec PyProof.Rows L2 Evl SX
section
variable {X : Cx}
/-! ### text * int -/
def rMulS : R2 := fun x y H Q => ∃ z n, x = .str z ∧ y = .int n ∧ MulOk z n ∧ Q (.str (Txt.mul z n)) H
theorem op_mulS : OpR X (binaryOp .Mult) rMulS := by
  intro pins s σ H x y v u Q I rx ry h
  obtain ⟨z, n, rfl, rfl, hok, q⟩ := h
  obtain ⟨t, rfl⟩ := rx
  obtain ⟨t', rfl⟩ := ry
  exact SB.mul hok fun t2 k => ⟨.str (Txt.mul z n), H, I.tok _, ⟨_, rfl⟩, q⟩
/-! ### text[::-1] -/
def tRevS (te : TE) : TE := fun σ H Q => te σ H fun x H1 => ∃ z, x = .str z ∧ z.length ≤ sizeLine ∧ Q (.str ⟨z.cps.toList.reverse.toArray⟩) H1
theorem slice_rev_str (z : Str) : (Builtin.Str.strSliceIndices none none (-1) z.length).filterMap (z.cps[·]?) = z.cps.toList.reverse := by
  show (sliceRange ((z.length : Int) - 1) (-1) (-1)).filterMap (z.cps[·]?) = _
  rw [PySem.W.krv_sliceRange, PySem.W.krv_range, List.filterMap_reverse]
  exact congrArg List.reverse (PySem.W.krv_all z.cps)
theorem pe_revS {e : Expr} {te : TE} {k : Nat} {p1 p2 p3 pos : Pos} (he : PE X e te) : PE X (.Subscript e (.Slice none none (some (.UnaryOp .USub (.Constant (.int 1) k p1) p2)) p3) pos) (tRevS te) := by
  refine ⟨fun pins s σ H Q I h => ?_⟩
  refine Subscript_ (thn (he.run pins s σ H _ I h) fun v s1 ⟨x, H1, I1, r1, q1⟩ => ?_)
  obtain ⟨z, ex, hz, q⟩ := q1
  subst ex
  obtain ⟨t, rfl⟩ := r1
  have hst : PO X (some (.UnaryOp .USub (.Constant (.int 1) k p1) p2)) (tPart (tUn (rU fun i => .int (-i)) (tC (.int 1)))) := po_some (pe_un un_neg pe_int)
  refine wpAny_Slice (thn (po_none.run pins s1 σ H1 (fun o H2 => o = none ∧ H2 = H1) I1 ⟨rfl, rfl⟩) fun vl s2 ⟨l, H2, I2, pl, el, e2⟩ => ?_)
  subst el e2
  refine thn (po_none.run pins s2 σ H2 (fun o H3 => o = none ∧ H3 = H2) I2 ⟨rfl, rfl⟩) fun vu s3 ⟨u, H3, I3, pu, eu, e3⟩ => ?_
  subst eu e3
  refine thn (hst.run pins s3 σ H3 (fun o H4 => o = some (-1) ∧ H4 = H3) I3 ⟨1, rfl, -1, rfl, rfl, rfl⟩) fun vs s4 ⟨o, H4, I4, ps, eo, e4⟩ => ?_
  subst eo e4
  have I5 : Inv X pins σ H4 { s4 with heap := s4.heap.push { cls := .type "slice", data := .fields #[vl, vu, vs] } } := I4.kept (t' := s4.toks) fun b ob q => Heap.get?_push_of_some _ q
  obtain ⟨l0, rfl, el0⟩ := IsPart.raw pl
  obtain ⟨u0, rfl, eu0⟩ := IsPart.raw pu
  obtain ⟨st0, rfl, es0⟩ := IsPart.raw ps
  refine tail_any (ops := [.str z t, .ref s4.heap.objs.size]) (typeIs_str _ _ _) F.slot_str_getitem.lookup ?_ (by with_unfolding_all rfl)
  refine wpAny_getItem_str_slice (l := l0) (u := u0) (st := st0) ⟨_, Heap.get?_push_size _ rfl, rfl, rfl⟩ (by rw [es0]; rfl) ?_
  unfold sliceMade slicePicked
  rw [el0, eu0, es0]
  show Made.post (if ((-1 : Int) == 1 && (Builtin.Str.strSliceIndices none none (-1) z.length).length == z.length) = true then _ else Made.str ⟨((Builtin.Str.strSliceIndices none none (-1) z.length).filterMap (z.cps[·]?)).toArray⟩) _ _
  rw [if_neg (by simp), slice_rev_str]
  refine ⟨?_, .str _, H4, I5.tok _, ⟨_, rfl⟩, q⟩
  show (z.cps.toList.reverse.toArray).size ≤ sizeLine
  rw [List.size_toArray, List.length_reverse, Array.length_toList]
  exact hz
/-! ### {(..): v} -/
def tDispT1 (tk tv : TE) : TE := fun σ H Q => ∀ p, H p = none → tk σ (upd H p (.dT [])) fun x H1 => tv σ H1 fun y H2 => ∃ b k, x = .ref b ∧ H2 b = some (.tup (k.map kV)) ∧ H2 p = some (.dT []) ∧ Q (.ref p) (upd H2 p (.dT [(k, y)]))
theorem pe_dispT1 {k v : Expr} {tk tv : TE} {pos : Pos} (hu : X.A.units + 1 < cLine) (hk : PE X k tk) (hv : PE X v tv) : PE X (.Dict [some k] [v] pos) (tDispT1 tk tv) := by
  refine ⟨fun pins s σ H Q I q => ?_⟩
  have hn := I.hok.fresh (Nat.le_refl s.heap.objs.size)
  have I1 := I.laid (a := s.heap.objs.size) (o := .dT []) (h' := s.heap.push { cls := .type "dict", data := .dict #[] }) (t' := s.toks) (fun _ _ q => Heap.get?_push_of_some _ q) (Nat.le_refl _) (dt_empty s.heap I.big)
  refine wpAny_Dict_any rfl rfl (by simp) (by show 1 ≤ 15; decide) ?_
  refine pairTrees_cons_walk (thn (hk.run pins _ σ _ _ I1 (q _ hn)) fun u s1 ⟨x, H1, I2, rx, q1⟩ => thn (hv.run pins s1 σ H1 _ I2 q1) fun w2 s2 ⟨y, H2, I3, ry, q2⟩ => pairTrees_nil_walk ?_)
  obtain ⟨b, ks, ex, hb, hp, q⟩ := q2
  subst ex
  cases (show u = Value.ref b from rx)
  obtain ⟨z, hd, xs, rel, dd⟩ := dt_of I3.hok hp
  cases rel
  unfold storeAll
  rw [List.forIn_cons]
  refine wpAny_bind (wpAny_bind (wpAny_dictSet_heap (hsz := by decide) (show X.A.units < cLine from Nat.lt_of_succ_lt hu) (key_of I3.hok hb) dd fun h' dd' hs => wpAny_pure ?_))
  show wpAny _ _ (forIn [] _ _) _ _ _
  rw [List.forIn_nil]
  refine wpAny_pure ?_
  obtain ⟨qo, es, ep, hq, h2, h3, h4, _, h5⟩ := dd'
  refine ⟨.ref s.heap.objs.size, _, d_write (ob := .dT [(ks, y)]) I3 (by rw [hp]; exact True.intro) hs ⟨qo, hq⟩ ⟨?_, hd, [(ks, b, w2)], .cons ⟨rfl, ?_, ry⟩ .nil, qo, es, ep, hq, h2, h3, h4, h5⟩, rfl, q⟩
  · show 1 ≤ sizeLine
    decide
  · show (upd H2 _ _) b = _
    rw [upd_ne (ne_of hb hp (fun z => nomatch z))]
    exact hb
/-! ### enumerate(text) -/
def Ites (x : Str) : It :=
  ⟨fun i _ => i < x.cps.size, fun i H v H' => ∃ T c, v = .ref T ∧ H T = none ∧ x.cps[i]? = some c ∧ H' = upd H T (.tup [.int (i : Nat), .str ⟨#[c]⟩]), fun i _ => i = x.cps.size⟩
theorem draws_str {P : Program} {w : World} {A : Around} (hh : A.handled = none) (it : Addr) (x : Str) (t : Tok) (ty : String) (hty : ty = "str_ascii_iterator" ∨ ty = "str_iterator") :
    Draws P w A it [it] x.cps.size (fun i v => ∃ c u, x.cps[i]? = some c ∧ v = .str ⟨#[c]⟩ u) (fun i h => h.IsStrIter it ty x t i) := by
  rcases hty with e | e
  · rw [e]; exact Draws.strAscii hh it x t
  · rw [e]; exact Draws.strWide hh it x t
theorem turn_enumS {P : Program} {w : World} {K : PySem.W.Frag} {elts : List Expr} {kk : Nat} {tpos : Pos} (x : Str) (t : Tok) (ty : String) (hty : ty = "str_ascii_iterator" ∨ ty = "str_iterator") (e it : Addr) :
    Turn P w K (.Tuple elts kk tpos) (Ites x) [e, it] e (fun i h => (∃ old, IsEnum h e it ((i : Nat) : Int) old) ∧ h.IsStrIter it ty x t i ∧ e ≠ it) where
  mem := by simp
  obj := fun i h st b hb => by
    obtain ⟨⟨old, he⟩, ⟨o, ho, hc, hd⟩, _⟩ := st
    have e' : b = e ∨ b = it := by simpa using hb
    rcases e' with z | z
    · rw [z]; exact ⟨_, he, fun v q => nomatch q⟩
    · rw [z]; exact ⟨o, ho, fun v q => by rw [hd] at q; cases q⟩
  keep := fun i h h' st k => let ⟨⟨old, he⟩, ⟨o, ho, r⟩, hne⟩ := st; ⟨⟨old, k e (by simp) _ he⟩, ⟨o, k it (by simp) o ho, r⟩, hne⟩
  item := by
    intro X hP hw hK hc i pins s σ H E I hf st hg
    subst hP hw hK
    obtain ⟨⟨old, he⟩, hit, hne⟩ := st
    have hel : e < s.heap.objs.size := Heap.lt_size he
    have hil : it < s.heap.objs.size := by obtain ⟨_, q, _⟩ := hit; exact Heap.lt_size q
    refine wpAny_pyNext_enum_itemD (fp := [it]) (St := fun i h => h.IsStrIter it ty x t i) (draws_str (A := X.A.in1) (I.ok.hd hc) it x t ty hty) he hit hg hne (by simpa using hne) fun u h' tk hu ho hit' hT hsz hk => ?_
    obtain ⟨c, ut, hc2, rfl⟩ := hu
    refine ⟨_, rfl, wpAny_letOwnedTupleGo_enum (s := { s with heap := h', toks := tk + 1 }) ho fun h'' he' sb => ?_⟩
    have hT2 : h''.get? s.heap.objs.size = some { cls := .type "tuple", data := .seq #[.int i tk, .str ⟨#[c]⟩ ut] } := (sb.2 _ (Nat.ne_of_gt hel)).trans hT
    have new : ObjOk X.prog X.w (upd H s.heap.objs.size (.tup [.int (i : Nat), .str ⟨#[c]⟩])) h'' s.heap.objs.size (.tup [.int (i : Nat), .str ⟨#[c]⟩]) :=
      ⟨by show 2 ≤ sizeLine; decide, [.int i tk, .str ⟨#[c]⟩ ut], .cons ⟨_, rfl⟩ (.cons ⟨_, rfl⟩ .nil), ⟨_, hT2, rfl, _, rfl⟩⟩
    have I1 : Inv X pins σ (upd H s.heap.objs.size (.tup [.int (i : Nat), .str ⟨#[c]⟩])) { s with heap := h'', toks := tk + 1 } :=
      I.turnedNew (ch := [e, it]) (fun b ob hb q => (sb.2 b (fun z => hb (by simp [z]))).trans (hk b ob (fun z => hb (by simp [z])) (fun z => hb (by simp [z])) q)) hf (Nat.le_refl _) new
    refine ⟨.ref s.heap.objs.size, _, I1, rfl, ⟨_, c, rfl, I.hok.fresh (Nat.le_refl _), hc2, rfl⟩, ⟨⟨.str ⟨#[c]⟩ ut, ?_⟩, ?_, hne⟩, fun b hb => ?_⟩
    · have e1 : ((i + 1 : Nat) : Int) = (i : Int) + 1 := by omega
      rw [e1]; exact he'
    · obtain ⟨o, ho2, r⟩ := hit'
      exact ⟨o, (sb.2 it (Ne.symm hne)).trans ho2, r⟩
    · have hb' : b < s.heap.objs.size := by
        have e' : b = e ∨ b = it := by simpa using hb
        rcases e' with z | z
        · rw [z]; exact hel
        · rw [z]; exact hil
      rw [upd_ne (Nat.ne_of_lt hb')]
      exact (hf b hb).1
  done := by
    intro X hP hw hK hc i pins s σ H E I hf st hg
    subst hP hw hK
    obtain ⟨⟨old, he⟩, hit, hne⟩ := st
    obtain ⟨f0, f1, f2, f3, f4, f5⟩ := hf it (by simp)
    have hg : i = x.cps.size := hg
    subst hg
    exact wpAny_pyNext_enum_endD (fp := [it]) (St := fun i h => h.IsStrIter it ty x t i) (draws_str (A := X.A.in1) (I.ok.hd hc) it x t ty hty) he hit fun h' eb => ⟨rfl, I.turned (t' := s.toks) (fun b o hb q => eb b o hb q) f0 f1 f3 f4 f5⟩
  self := fun A i s Q E st h => let ⟨⟨_, he⟩, _⟩ := st; wpAny_pyIter_enum he h
def iEnumS (ta : TA) : TI := fun σ H R => ta σ H fun vs H1 => ∃ x, vs = [.str x] ∧ R (Ites x) H1
theorem pi_enumS {e : Expr} {ta : TA} {p pos tpos : Pos} {elts : List Expr} {kk : Nat} (hg : Gl X "enumerate") (hm : X.mg "enumerate" = none) (ha : PA X [e] ta) (hs : starEach [e] X.env = [(false, eval e X.env)] := by rfl) :
    PI X (.Tuple elts kk tpos) (.Call (.Name "enumerate" p) [e] [] pos) (iEnumS ta) := by
  refine ⟨fun pins s σ H R I h => ?_⟩
  refine Call_ (ld_blt I hg hm boot_enumerate (PyProof.Rows.callWith_type1 (thn (ha.run pos pins s σ H _ I h) fun us s1 ⟨vs, H1, I1, r1, q1⟩ => ?_) hs rfl))
  obtain ⟨x, ex, q⟩ := q1
  subst ex
  cases r1 with
  | cons r rr =>
    cases rr
    obtain ⟨t, rfl⟩ := r
    refine call_enumerate_str fun h' he hit hsz hk => wpAny_pyIter_enum he ?_
    have I2 : Inv X pins σ H1 { s1 with heap := h' } := I1.kept (t' := s1.toks) hk
    have hty : strIterType x = "str_ascii_iterator" ∨ strIterType x = "str_iterator" := by
      unfold strIterType
      by_cases c : (x.cps.all (· < 128)) = true
      · rw [if_pos c]; exact .inl rfl
      · rw [if_neg c]; exact .inr rfl
    refine ⟨s1.heap.objs.size + 1, [s1.heap.objs.size + 1, s1.heap.objs.size], _, _, H1, rfl, I2, turn_enumS x t (strIterType x) hty (s1.heap.objs.size + 1) s1.heap.objs.size, ⟨⟨.none, he⟩, hit, Nat.succ_ne_self _⟩, fun b hb => ?_, q⟩
    have e' : b = s1.heap.objs.size + 1 ∨ b = s1.heap.objs.size := by simpa using hb
    have hle : s1.heap.objs.size ≤ b := by
      rcases e' with z | z
      · rw [z]; exact Nat.le_add_right _ _
      · rw [z]; exact Nat.le_refl _
    exact I1.fpOk hle (I1.hok.fresh hle)
end
end HW

set_option Elab.async false
set_option linter.all false
namespace HW
open PySem PySem.Spec PyProof.Rows L2 Evl SX
/-! ### signs, places -/
def sgn (c : Nat) : Bool := (decide (32 ≤ c) && decide (c ≤ 126)) || decide (c = 10)
def stp (p : Nat × Nat) (c : Nat) : Nat × Nat := if c = 10 then (p.1 + 1, 0) else (p.1, p.2 + 1)
def posF (s : List Nat) : Nat × Nat := s.foldl stp (0, 0)
def pos (s : List Nat) (n : Nat) : Nat × Nat := posF (s.take n)
def rwsA (acc : List Nat) : List Nat → List (List Nat)
  | [] => [acc]
  | c :: r => if c = 10 then acc :: rwsA [] r else rwsA (acc ++ [c]) r
def rws (s : List Nat) : List (List Nat) := rwsA [] s
theorem pos_zero (s : List Nat) : pos s 0 = (0, 0) := rfl
theorem pos_succ {s : List Nat} {n c : Nat} (h : s[n]? = some c) : pos s (n + 1) = stp (pos s n) c := by
  unfold pos posF
  rw [List.take_add_one, h, List.foldl_append]
  rfl
theorem spl_rws : ∀ (s acc : List Nat), TL.spl [10] 0 acc s = rwsA acc s
  | [], acc => rfl
  | c :: r, acc => by
    by_cases h : c = 10
    · subst h
      rw [TL.spl_hit (by rfl), rwsA, if_pos rfl]
      exact congrArg (fun z => acc :: z) (spl_rws r [])
    · rw [TL.spl_miss (TL.pre_of_head _ _ h), rwsA, if_neg h]
      exact spl_rws r _
theorem split_rws (s : List Nat) : Txt.split (S s) (S [10]) = (rws s).map S := by
  rw [split_S (by simp) (by decide), spl_rws]
  rfl
theorem fold_shift : ∀ (s : List Nat) (k l : Nat), s.foldl stp (k, l) = (k + (s.foldl stp (0, l)).1, (s.foldl stp (0, l)).2)
  | [], k, l => by simp
  | c :: r, k, l => by
    rw [List.foldl_cons, List.foldl_cons]
    by_cases h : c = 10
    · rw [stp, if_pos h, stp, if_pos h]
      rw [fold_shift r (k + 1) 0, fold_shift r (0 + 1) 0]
      simp only [Prod.mk.injEq, and_true]
      omega
    · rw [stp, if_neg h, stp, if_neg h]
      exact fold_shift r k (l + 1)
theorem rwsA_head : ∀ (s acc : List Nat), ∃ t r, rwsA acc s = (acc ++ t) :: r
  | [], acc => ⟨[], [], by rw [List.append_nil]; rfl⟩
  | c :: r, acc => by
    by_cases h : c = 10
    · rw [rwsA, if_pos h]
      exact ⟨[], _, by rw [List.append_nil]⟩
    · rw [rwsA, if_neg h]
      obtain ⟨t, q, e⟩ := rwsA_head r (acc ++ [c])
      exact ⟨[c] ++ t, q, by rw [e, List.append_assoc]⟩
def before (rs : List (List Nat)) (k : Nat) : Nat := ((rs.take k).map fun r => r.length + 1).sum
theorem rwsA_pos : ∀ (s acc : List Nat) (n : Nat), n ≤ s.length →
    ∃ row, (rwsA acc s)[((s.take n).foldl stp (0, acc.length)).1]? = some row ∧ ((s.take n).foldl stp (0, acc.length)).2 ≤ row.length ∧
      before (rwsA acc s) ((s.take n).foldl stp (0, acc.length)).1 + ((s.take n).foldl stp (0, acc.length)).2 = n + acc.length
  | s, acc, 0, _ => by
    obtain ⟨t, r, e⟩ := rwsA_head s acc
    rw [List.take_zero, List.foldl_nil, e]
    refine ⟨_, rfl, ?_, ?_⟩
    · rw [List.length_append]; exact Nat.le_add_right _ _
    · unfold before
      rw [List.take_zero]
      simp
  | [], acc, n + 1, h => by simp at h
  | c :: r, acc, n + 1, h => by
    have h' : n ≤ r.length := by
      rw [List.length_cons] at h
      omega
    rw [List.take_succ_cons, List.foldl_cons]
    by_cases hc : c = 10
    · rw [stp, if_pos hc, rwsA, if_pos hc, fold_shift]
      obtain ⟨row, h1, h2, h3⟩ := rwsA_pos r [] n h'
      have e0 : (([] : List Nat).length) = 0 := rfl
      rw [e0] at h1 h2 h3
      have ek : 0 + 1 + ((r.take n).foldl stp (0, 0)).1 = ((r.take n).foldl stp (0, 0)).1 + 1 := by omega
      simp only [ek]
      refine ⟨row, ?_, h2, ?_⟩
      · rw [List.getElem?_cons_succ]; exact h1
      · unfold before at h3 ⊢
        rw [List.take_succ_cons, List.map_cons, List.sum_cons]
        omega
    · rw [stp, if_neg hc, rwsA, if_neg hc]
      obtain ⟨row, h1, h2, h3⟩ := rwsA_pos r (acc ++ [c]) n h'
      have e0 : (acc ++ [c]).length = acc.length + 1 := by simp
      rw [e0] at h1 h2 h3
      exact ⟨row, h1, h2, h3.trans (by omega)⟩
theorem rws_pos {s : List Nat} {n : Nat} (h : n ≤ s.length) :
    ∃ row, (rws s)[(pos s n).1]? = some row ∧ (pos s n).2 ≤ row.length ∧ before (rws s) (pos s n).1 + (pos s n).2 = n := rwsA_pos s [] n h
theorem pos_inj {s : List Nat} {n m : Nat} (hn : n ≤ s.length) (hm : m ≤ s.length) (h : pos s n = pos s m) : n = m := by
  obtain ⟨_, _, _, h1⟩ := rws_pos hn
  obtain ⟨_, _, _, h2⟩ := rws_pos hm
  rw [h] at h1
  omega
theorem rwsA_len : ∀ (s acc : List Nat) (row : List Nat), row ∈ rwsA acc s → row.length ≤ acc.length + s.length
  | [], acc, row, h => by
    rw [rwsA, List.mem_singleton] at h
    rw [h]
    omega
  | c :: r, acc, row, h => by
    rw [List.length_cons]
    by_cases hc : c = 10
    · rw [rwsA, if_pos hc] at h
      rcases List.mem_cons.mp h with e | h
      · rw [e]; omega
      · have := rwsA_len r [] row h
        rw [List.length_nil] at this
        omega
    · rw [rwsA, if_neg hc] at h
      have := rwsA_len r _ row h
      rw [List.length_append, List.length_singleton] at this
      omega
theorem rws_len {s row : List Nat} (h : row ∈ rws s) : row.length ≤ s.length := by
  have := rwsA_len s [] row h
  rw [List.length_nil] at this
  omega
theorem rwsA_many : ∀ (s acc : List Nat), (rwsA acc s).length ≤ s.length + 1
  | [], acc => by rw [rwsA]; simp
  | c :: r, acc => by
    rw [List.length_cons]
    by_cases hc : c = 10
    · rw [rwsA, if_pos hc, List.length_cons]
      have := rwsA_many r []
      omega
    · rw [rwsA, if_neg hc]
      have := rwsA_many r (acc ++ [c])
      omega
theorem before_int : ∀ (rs : List (List Nat)), ((rs.map fun r => (r.length : Int) + 1).sum) = (((rs.map fun r => r.length + 1).sum : Nat) : Int)
  | [] => rfl
  | r :: rs => by
    rw [List.map_cons, List.map_cons, List.sum_cons, List.sum_cons, before_int rs]
    omega
theorem fold_cnt : ∀ (s : List Nat) (k l : Nat), (s.foldl stp (k, l)).1 = k + s.count 10
  | [], k, l => by simp
  | c :: r, k, l => by
    rw [List.foldl_cons]
    by_cases h : c = 10
    · rw [stp, if_pos h, fold_cnt r, h, List.count_cons_self]
      omega
    · rw [stp, if_neg h, fold_cnt r, List.count_cons_of_ne h]
theorem fold_no : ∀ (s : List Nat) (k l : Nat), (∀ i : Nat, s[i]? ≠ some 10) → (s.foldl stp (k, l)).2 = l + s.length
  | [], k, l, _ => by simp
  | c :: r, k, l, h => by
    rw [List.foldl_cons]
    have h0 : c ≠ 10 := fun e => h 0 (by rw [e]; rfl)
    rw [stp, if_neg h0, fold_no r _ _ fun i e => h (i + 1) (by rw [List.getElem?_cons_succ]; exact e), List.length_cons]
    omega
theorem fold_last : ∀ (s : List Nat) (k l i : Nat), s[i]? = some 10 → (∀ j, i < j → s[j]? ≠ some 10) → (s.foldl stp (k, l)).2 + i + 1 = s.length
  | [], k, l, i, h, _ => by simp at h
  | c :: r, k, l, 0, h, hn => by
    have e : c = 10 := Option.some.inj h
    rw [List.foldl_cons, stp, if_pos e, fold_no r _ _ fun i e => hn (i + 1) (by omega) (by rw [List.getElem?_cons_succ]; exact e), List.length_cons]
    omega
  | c :: r, k, l, i + 1, h, hn => by
    rw [List.foldl_cons, List.length_cons]
    have ih := fold_last r (stp (k, l) c).1 (stp (k, l) c).2 i (by rw [List.getElem?_cons_succ] at h; exact h) fun j hj e => hn (j + 1) (by omega) (by rw [List.getElem?_cons_succ]; exact e)
    have ih : (List.foldl stp (stp (k, l) c) r).2 + i + 1 = r.length := ih
    omega
theorem cnt_count (s : List Nat) : PyProof.Rows.cnt 10 s = ((s.count 10 : Nat) : Int) := by
  induction s with
  | nil => rfl
  | cons c r ih =>
    rw [PyProof.Rows.cnt_cons, ih]
    by_cases h : c = 10
    · rw [if_pos h, h, List.count_cons_self]
      omega
    · rw [if_neg h, List.count_cons_of_ne h]
      omega
theorem count_S (s : List Nat) : Txt.count (S s) (S [10]) = ((s.count 10 : Nat) : Int) :=
  (show Txt.count (S s) (S [10]) = _ from PyProof.Rows.count_cnt (S s) 10).trans (cnt_count s)
theorem at10 (s : List Nat) (i : Nat) : StrLaws.At (S s) (S [10]) (S s).length i ↔ s[i]? = some 10 := by
  refine (TL.at_iff (x := S s) (y := S [10]) (by simp) i).trans ?_
  show TL.pre [10] (s.drop i) = true ↔ _
  unfold TL.pre
  show ((s.drop i).take 1 == [10]) = true ↔ _
  rw [beq_iff_eq]
  cases h : s.drop i with
  | nil =>
    have hl := List.drop_eq_nil_iff.mp h
    rw [List.getElem?_eq_none hl]
    simp
  | cons c r =>
    have e : s[i]? = some c := by
      have := List.getElem?_drop (xs := s) (i := i) (j := 0)
      rw [h] at this
      simpa using this.symm
    rw [e]
    simp
theorem rfind_S (s : List Nat) : Txt.rfind (S s) (S [10]) = (s.length : Int) - ((posF s).2 : Int) - 1 := by
  have hsp := StrLaws.last_spec (S s) (S [10])
  unfold Txt.rfind
  rcases hsp with ⟨e, h⟩ | ⟨i, e, h1, h2⟩
  · rw [e]
    have hn := fold_no s 0 0 fun i q => h i ((at10 s i).mpr q)
    unfold posF
    rw [hn]
    show (-1 : Int) = _
    omega
  · rw [e]
    have hl := fold_last s 0 0 i ((at10 s i).mp h1) fun j hj q => h2 j hj ((at10 s j).mpr q)
    unfold posF
    show (i : Int) = _
    omega
end HW

set_option Elab.async false
set_option linter.all false
set_option maxRecDepth 100000
namespace HW
open PySem PySem.Spec PyProof.Rows L2 Evl SX
/-! ### flat lists -/
section
variable {H : Hp}
theorem rps_map {α : Type} (f : α → D) (g : α → V) (h : ∀ a v, Rp H (f a) v → v = g a) : ∀ {xs : List α} {vs : List V}, Rps H (xs.map f) vs → vs = xs.map g
  | [], _, r => rps_nil.mp r
  | x :: xs, _, r => by
    obtain ⟨v, q, rfl, h1, h2⟩ := rps_cons.mp r
    rw [h x v h1, rps_map f g h h2]
    rfl
theorem rps_ints {xs : List Int} {vs : List V} (r : Rps H (xs.map D.int) vs) : vs = xs.map V.int := rps_map D.int V.int (fun _ _ q => rp_int.mp q) r
theorem rps_bls {xs : List Bool} {vs : List V} (r : Rps H (xs.map D.bl) vs) : vs = xs.map V.bl := rps_map D.bl V.bl (fun _ _ q => rp_bl.mp q) r
theorem rps_strs {xs : List (List Nat)} {vs : List V} (r : Rps H (xs.map D.str) vs) : vs = xs.map (fun l => V.str (S l)) := rps_map D.str (fun l => V.str (S l)) (fun _ _ q => rp_str.mp q) r
theorem rps_of_map {α : Type} (f : α → D) (g : α → V) (h : ∀ a, Rp H (f a) (g a)) : ∀ (xs : List α), Rps H (xs.map f) (xs.map g)
  | [] => rps_nil.mpr rfl
  | x :: xs => rps_cons.mpr ⟨g x, xs.map g, rfl, h x, rps_of_map f g h xs⟩
theorem rps_take : ∀ {ds : List D} {vs : List V} (n : Nat), Rps H ds vs → Rps H (ds.take n) (vs.take n)
  | _, _, 0, _ => by rw [List.take_zero, List.take_zero]; exact rps_nil.mpr rfl
  | [], _, n + 1, r => by rw [rps_nil.mp r]; exact rps_nil.mpr rfl
  | d :: ds, _, n + 1, r => by
    obtain ⟨v, q, rfl, h1, h2⟩ := rps_cons.mp r
    exact rps_cons.mpr ⟨v, q.take n, rfl, h1, rps_take n h2⟩
end
/-! ### the type of data -/
def tyD : D → String
  | .non => "NoneType" | .bl _ => "bool" | .int _ => "int" | .str _ => "str" | .tup _ => "tuple" | .lst _ => "list"
theorem tyD_of {K : PySem.W.Frag} {H : Hp} {v : V} : ∀ {d : D}, Rp H d v → TyX K H v (.type (tyD d))
  | .non, r => by rw [rp_non.mp r]; exact .base .non
  | .bl b, r => by rw [rp_bl.mp r]; exact .base (.bl b)
  | .int b, r => by rw [rp_int.mp r]; exact .base (.int b)
  | .str b, r => by rw [rp_str.mp r]; exact .base (.str _)
  | .tup b, r => by obtain ⟨p, vs, rfl, h, _⟩ := rp_tup.mp r; exact .base (.tup h)
  | .lst b, r => by obtain ⟨p, vs, rfl, h, _⟩ := rp_lst.mp r; exact .base (.lst h)
/-! ### data without lists: tuples stay, whatever is changed -/
mutual
def nl : D → Bool
  | .tup ds => nls ds
  | .lst _ => false
  | _ => true
def nls : List D → Bool
  | [] => true
  | d :: ds => nl d && nls ds
end
def Tx (H H' : Hp) : Prop := ∀ b xs, H b = some (.tup xs) → H' b = some (.tup xs)
theorem Tx.of {H H' : Hp} (e : Ex H H') : Tx H H' := fun b xs h => e b _ h
theorem Tx.refl (H : Hp) : Tx H H := fun _ _ h => h
theorem Tx.trans {H H1 H2 : Hp} (a : Tx H H1) (b : Tx H1 H2) : Tx H H2 := fun c xs h => b c xs (a c xs h)
theorem Tx.upd {H : Hp} {l : Addr} {o : HO} (h : ∀ xs, H l ≠ some (.tup xs)) : Tx H (upd H l o) := fun b xs e => by
  rw [upd_ne (fun z => h xs (by rw [← z]; exact e))]
  exact e
theorem Tx.lst {H : Hp} {l : Addr} {o : HO} {ys : List V} (h : H l = some (.lst ys)) : Tx H (L2.upd H l o) := Tx.upd fun xs e => by rw [h] at e; cases e
mutual
theorem Rp.tx {H H' : Hp} (e : Tx H H') : ∀ {d : D} {v : V}, nl d = true → Rp H d v → Rp H' d v
  | .non, _, _, r => rp_non.mpr (rp_non.mp r)
  | .bl _, _, _, r => rp_bl.mpr (rp_bl.mp r)
  | .int _, _, _, r => rp_int.mpr (rp_int.mp r)
  | .str _, _, _, r => rp_str.mpr (rp_str.mp r)
  | .tup ds, _, h, r => by
    obtain ⟨p, vs, h1, h2, h3⟩ := rp_tup.mp r
    rw [nl] at h
    exact rp_tup.mpr ⟨p, vs, h1, e _ _ h2, Rps.tx e h h3⟩
  | .lst _, _, h, _ => by rw [nl] at h; cases h
theorem Rps.tx {H H' : Hp} (e : Tx H H') : ∀ {ds : List D} {vs : List V}, nls ds = true → Rps H ds vs → Rps H' ds vs
  | [], _, _, r => rps_nil.mpr (rps_nil.mp r)
  | d :: ds, _, h, r => by
    obtain ⟨v, q, h1, h2, h3⟩ := rps_cons.mp r
    rw [nls, Bool.and_eq_true] at h
    exact rps_cons.mpr ⟨v, q, h1, Rp.tx e h.1 h2, Rps.tx e h.2 h3⟩
end
theorem nls_all : ∀ {ds : List D}, (∀ d ∈ ds, nl d = true) → nls ds = true
  | [], _ => rfl
  | d :: ds, h => by
    rw [nls, h d List.mem_cons_self, nls_all fun x hx => h x (List.mem_cons_of_mem _ hx)]
    rfl
/-! ### data compared with itself -/
mutual
def pd : D → PyData
  | .non => .none | .bl b => .bool b | .int i => .int i | .str l => .str (S l) | .tup ds => .tuple (pds ds) | .lst ds => .list (pds ds)
def pds : List D → List PyData
  | [] => []
  | d :: ds => pd d :: pds ds
end
mutual
theorem Rp.pd {K : PySem.W.Frag} {H : Hp} : ∀ {d : D} {v : V}, Rp H d v → Dp K H v (pd d)
  | .non, _, r => by rw [rp_non.mp r, HW.pd]; exact .non
  | .bl b, _, r => by rw [rp_bl.mp r, HW.pd]; exact .bl b
  | .int b, _, r => by rw [rp_int.mp r, HW.pd]; exact .int b
  | .str b, _, r => by rw [rp_str.mp r, HW.pd]; exact .str _
  | .tup ds, _, r => by
    obtain ⟨p, vs, rfl, h, h2⟩ := rp_tup.mp r
    rw [HW.pd]
    exact .tup (st_of h) (Rps.pd h2)
  | .lst ds, _, r => by
    obtain ⟨p, vs, rfl, h, h2⟩ := rp_lst.mp r
    rw [HW.pd]
    exact .lst (sq_of h) (Rps.pd h2)
theorem Rps.pd {K : PySem.W.Frag} {H : Hp} : ∀ {ds : List D} {vs : List V}, Rps H ds vs → DpAll K H vs (pds ds)
  | [], _, r => by rw [rps_nil.mp r, pds]; exact .nil
  | d :: ds, _, r => by
    obtain ⟨v, q, rfl, h1, h2⟩ := rps_cons.mp r
    rw [pds]
    exact .cons (Rp.pd h1) (Rps.pd h2)
end

section
variable {K : PySem.W.Frag} {σ : L2.St} {H H' : Hp} {ta tb tc te tx : TE} {t u : TT} {x y z v : V} {r r' : R2} {d e : D} {ds : List D}
/-! ### comparisons -/
theorem ev_chain {k k' : Bool} (ha : Ev ta σ H x) (hb : Ev tb σ H y) (hr : RV r x y H (.bl k)) (hc : k = true → Ev tc σ H z) (hr' : k = true → RV r' y z H (.bl k')) : Ev (tChain r r' ta tb tc) σ H (.bl (k && k')) := fun H1 e Q q =>
  ha H1 e _ fun H2 e2 => hb H2 (e.trans e2) _ fun H3 e3 => hr H3 ((e.trans e2).trans e3) _ fun H4 e4 => ⟨k, rfl, by
    cases k with
    | true =>
      show tc σ H4 _
      exact hc rfl H4 (((e.trans e2).trans e3).trans e4) _ fun H5 e5 => hr' rfl H5 ((((e.trans e2).trans e3).trans e4).trans e5) Q fun H6 e6 => q H6 ((((e2.trans e3).trans e4).trans e5).trans e6)
    | false =>
      show Q (.bl false) H4
      exact q H4 ((e2.trans e3).trans e4)⟩
theorem et_chain {k k' : Bool} (ha : Ev ta σ H x) (hb : Ev tb σ H y) (hr : RV r x y H (.bl k)) (hc : k = true → Ev tc σ H z) (hr' : k = true → RV r' y z H (.bl k')) : EvT (tTest (tChain r r' ta tb tc)) σ H (k && k') := et_test (ev_chain ha hb hr hc hr')
theorem rv_leS {a b : List Nat} : RV (fun x y H Q => ∃ i j, x = .str i ∧ y = .str j ∧ Q (.bl (!decide (j.cps.toList < i.cps.toList))) H) (.str (S a)) (.str (S b)) H (.bl (!decide (b < a))) := fun H1 _ _ q => ⟨S a, S b, rfl, rfl, q H1 (Ex.refl H1)⟩
theorem rv_addS {a b : List Nat} (hl : a.length + b.length ≤ 100000) : RV (fun x y H Q => ∃ i j, x = .str i ∧ y = .str j ∧ i.length + j.length ≤ sizeLine ∧ Q (.str (i ++ j)) H) (.str (S a)) (.str (S b)) H (.str (S (a ++ b))) := fun H1 _ _ q =>
  ⟨S a, S b, rfl, rfl, by rw [S_len, S_len]; exact sz_of hl, by rw [S_cat]; exact q H1 (Ex.refl H1)⟩
theorem rv_eqS {a b : List Nat} : RV rEq (.str (S a)) (.str (S b)) H (.bl (decide (a = b))) := fun H1 _ _ q => ⟨rfl, by
  have e : decide (V.str (S a) = V.str (S b)) = decide (a = b) := by
    by_cases h : a = b
    · subst h; simp
    · have h' : ¬ V.str (S a) = V.str (S b) := fun z => h (S_inj (V.str.inj z))
      rw [decide_eq_false h, decide_eq_false h']
  rw [e]
  exact q H1 (Ex.refl H1)⟩
theorem rv_neS {a b : List Nat} : RV rNe (.str (S a)) (.str (S b)) H (.bl (!decide (a = b))) := fun H1 _ _ q => ⟨rfl, by
  have e : decide (V.str (S a) = V.str (S b)) = decide (a = b) := by
    by_cases h : a = b
    · subst h; simp
    · have h' : ¬ V.str (S a) = V.str (S b) := fun z => h (S_inj (V.str.inj z))
      rw [decide_eq_false h, decide_eq_false h']
  rw [e]
  exact q H1 (Ex.refl H1)⟩
theorem rv_eqI {a b : Int} : RV rEq (.int a) (.int b) H (.bl (decide (a = b))) := fun H1 _ _ q => ⟨rfl, by
  have e : decide (V.int a = V.int b) = decide (a = b) := by
    by_cases h : a = b
    · subst h; simp
    · rw [decide_eq_false h, decide_eq_false fun z => h (V.int.inj z)]
  rw [e]
  exact q H1 (Ex.refl H1)⟩
theorem rv_neI {a b : Int} : RV rNe (.int a) (.int b) H (.bl (!decide (a = b))) := fun H1 _ _ q => ⟨rfl, by
  have e : decide (V.int a = V.int b) = decide (a = b) := by
    by_cases h : a = b
    · subst h; simp
    · rw [decide_eq_false h, decide_eq_false fun z => h (V.int.inj z)]
  rw [e]
  exact q H1 (Ex.refl H1)⟩
theorem rv_neB {a b : Bool} : RV rNe (.bl a) (.bl b) H (.bl (!decide (a = b))) := fun H1 _ _ q => ⟨rfl, by
  have e : decide (V.bl a = V.bl b) = decide (a = b) := by
    by_cases h : a = b
    · subst h; simp
    · rw [decide_eq_false h, decide_eq_false fun z => h (V.bl.inj z)]
  rw [e]
  exact q H1 (Ex.refl H1)⟩
theorem rv_isN {x : V} : RV (fun x y H Q => y = .non ∧ Q (.bl (decide (x = .non))) H) x .non H (.bl (decide (x = .non))) := fun H1 _ _ q => ⟨rfl, q H1 (Ex.refl H1)⟩
/-! ### isinstance -/
theorem ed_isi {n : String} {b : Bool} (h : EvD ta σ H d) (hk : kitB (tyD d) n = some b) : Ev (tCB (rIsi K) (tCons ta (tCons (tC (.ty n)) tNil))) σ H (.bl b) := fun H1 e Q q =>
  h H1 e _ fun v H2 e2 r => ⟨v, .ty n, .type (tyD d), .type n, b, rfl, .ty n, tyD_of r, kit_ty hk, q H2 e2⟩
theorem ed_isiT {n m : String} {b : Bool} (h : EvD ta σ H d) (hk : PySem.W.kitAny K (.type (tyD d)) [.type n, .type m] = some b) :
    Ev (tCB (rIsiT K) (tCons ta (tCons (tTup (tCons (tC (.ty n)) (tCons (tC (.ty m)) tNil))) tNil))) σ H (.bl b) := fun H1 e Q q =>
  h H1 e _ fun v H2 e2 r => ⟨by show 2 ≤ sizeLine; decide, fun p hp => ⟨v, p, [.ty n, .ty m], .type (tyD d), [.type n, .type m], b, rfl, upd_same, .cons (.ty n) (.cons (.ty m) .nil), tyD_of (r.ex (Ex.new hp)), hk, q _ (e2.trans (Ex.new hp))⟩⟩
theorem k_ss : kitB "str" "str" = some true := by decide +kernel
theorem k_ii : kitB "int" "int" = some true := by decide +kernel
theorem k_ib : kitB "int" "bool" = some false := by decide +kernel
theorem k_tt : kitB "tuple" "tuple" = some true := by decide +kernel
theorem k_tl : kitB "tuple" "list" = some false := by decide +kernel
theorem k_lt : kitB "list" "tuple" = some false := by decide +kernel
theorem k_ll : kitB "list" "list" = some true := by decide +kernel
theorem k_nt : kitB "NoneType" "tuple" = some false := by decide +kernel
theorem k_nl : kitB "NoneType" "list" = some false := by decide +kernel
theorem k_st : kitB "str" "tuple" = some false := by decide +kernel
theorem k_sl : kitB "str" "list" = some false := by decide +kernel
theorem k_it : kitB "int" "tuple" = some false := by decide +kernel
theorem k_il : kitB "int" "list" = some false := by decide +kernel
theorem k_is : kitB "int" "str" = some false := by decide +kernel
theorem k_bt : kitB "bool" "tuple" = some false := by decide +kernel
theorem k_bl : kitB "bool" "list" = some false := by decide +kernel
theorem k_bs : kitB "bool" "str" = some false := by decide +kernel
theorem k_bb : kitB "bool" "bool" = some true := by decide +kernel
theorem kit2 {t n m : String} {b c : Bool} (h1 : kitB t n = some b) (h2 : kitB t m = some c) : PySem.W.kitAny K (.type t) [.type n, .type m] = some (b || c) :=
  kitAny_cons (kit_ty h1) (fun hb => by rw [hb, Bool.false_or]; exact kitAny_cons (kit_ty h2) (fun hc => by rw [hc]; exact kitAny_nil) fun hc => hc) fun hb => by rw [hb]; rfl
/-! ### len -/
theorem ev_lenS {l : List Nat} (h : Ev ta σ H (.str (S l))) (hl : l.length ≤ 100000) : Ev (tCB (fun xs H Q => ∃ z, xs = [.str z] ∧ z.length ≤ sizeLine ∧ Q (.int z.length) H) (tCons ta tNil)) σ H (.int (l.length : Int)) := fun H1 e Q q =>
  h H1 e _ fun H2 e2 => ⟨S l, rfl, by rw [S_len]; exact sz_of hl, by rw [S_len]; exact q H2 e2⟩
theorem ed_lenL (h : EvD ta σ H (.lst ds)) : Ev (tCB (fun xs H Q => ∃ p ys, xs = [.ref p] ∧ (SqL K H p ys ∨ SqT K H p ys) ∧ Q (.int ys.length) H) (tCons ta tNil)) σ H (.int (ds.length : Int)) := fun H1 e Q q =>
  h H1 e _ fun v H2 e2 r => by
    obtain ⟨p, vs, rfl, h2, h3⟩ := rp_lst.mp r
    exact ⟨p, vs, rfl, .inl (sq_of h2), by rw [rps_len h3]; exact q H2 e2⟩
theorem ed_lenT (h : EvD ta σ H (.tup ds)) : Ev (tCB (fun xs H Q => ∃ p ys, xs = [.ref p] ∧ (SqL K H p ys ∨ SqT K H p ys) ∧ Q (.int ys.length) H) (tCons ta tNil)) σ H (.int (ds.length : Int)) := fun H1 e Q q =>
  h H1 e _ fun v H2 e2 r => by
    obtain ⟨p, vs, rfl, h2, h3⟩ := rp_tup.mp r
    exact ⟨p, vs, rfl, .inr (st_of h2), by rw [rps_len h3]; exact q H2 e2⟩
/-! ### all, sum, max, min -/
theorem ed_all {bs : List Bool} (h : EvD ta σ H (.lst (bs.map D.bl))) : Ev (tCB (rAll K) (tCons ta tNil)) σ H (.bl (bs.all id)) := fun H1 e Q q =>
  h H1 e _ fun v H2 e2 r => by
    obtain ⟨p, vs, rfl, h2, h3⟩ := rp_lst.mp r
    rw [rps_bls h3] at h2
    exact ⟨p, bs, rfl, sq_of h2, q H2 e2⟩
theorem ed_sum {ns : List Int} (h : EvD ta σ H (.lst (ns.map D.int))) : Ev (tCB (rSum K) (tCons ta tNil)) σ H (.int ns.sum) := fun H1 e Q q =>
  h H1 e _ fun v H2 e2 r => by
    obtain ⟨p, vs, rfl, h2, h3⟩ := rp_lst.mp r
    rw [rps_ints h3] at h2
    exact ⟨p, ns, rfl, sq_of h2, q H2 e2⟩
theorem ed_max {ns : List Int} {m : Int} (h : EvD ta σ H (.lst (ns.map D.int))) (h1 : m ∈ ns) (h2 : ∀ y ∈ ns, y ≤ m) : Ev (tCB (rMax K) (tCons ta tNil)) σ H (.int m) := fun H1 e Q q =>
  h H1 e _ fun v H2 e2 r => by
    obtain ⟨p, vs, rfl, h2', h3⟩ := rp_lst.mp r
    rw [rps_ints h3] at h2'
    refine ⟨p, ns, rfl, sq_of h2', List.length_pos_iff.mpr (List.ne_nil_of_mem h1), fun m' hm hle => ?_⟩
    have : m' = m := Int.le_antisymm (h2 m' hm) (hle m h1)
    rw [this]
    exact q H2 e2
theorem ev_min2 {i j : Int} (ha : Ev ta σ H (.int i)) (hb : Ev tb σ H (.int j)) : Ev (tCB (fun xs H Q => ∃ i j, xs = [.int i, .int j] ∧ Q (.int (if j < i then j else i)) H) (tCons ta (tCons tb tNil))) σ H (.int (min i j)) := fun H1 e Q q =>
  ha H1 e _ fun H2 e2 => hb H2 (e.trans e2) _ fun H3 e3 => ⟨i, j, rfl, by
    have em : (if j < i then j else i) = min i j := by
      by_cases h : j < i
      · rw [if_pos h]; omega
      · rw [if_neg h]; omega
    rw [em]
    exact q H3 (e2.trans e3)⟩
/-! ### texts -/
theorem ed_split {l : List Nat} (h : Ev ta σ H (.str (S l))) (hl : l.length ≤ 100000) :
    EvD (tM1 (fun x xs H Q => ∃ a b, x = .str a ∧ xs = [.str b] ∧ (b.length == 0) = false ∧ a.length + 2 ≤ sizeLine ∧ rNewStrs (Txt.split a b) H Q) ta (tC (.str (Str.ofString "\n")))) σ H (.lst ((rws l).map D.str)) := fun H1 e Q q =>
  h H1 e _ fun H2 e2 => ⟨⟨_, rfl⟩, S l, S [10], rfl, rfl, rfl, by rw [S_len]; exact Nat.le_trans (Nat.add_le_add_right hl 2) (by decide), fun p hp => by
    refine q _ _ (e2.trans (Ex.new hp)) (rp_lst.mpr ⟨p, _, rfl, upd_same, ?_⟩)
    rw [split_rws, List.map_map]
    exact rps_of_map D.str (fun l => V.str (S l)) (fun _ => rp_str.mpr rfl) (rws l)⟩
theorem ev_count {l : List Nat} (h : Ev ta σ H (.str (S l))) : Ev (tM1 (fun x xs H Q => ∃ a b, x = .str a ∧ xs = [.str b] ∧ Q (.int (Txt.count a b)) H) ta (tC (.str (Str.ofString "\n")))) σ H (.int ((l.count 10 : Nat) : Int)) := fun H1 e Q q =>
  h H1 e _ fun H2 e2 => ⟨⟨_, rfl⟩, S l, S [10], rfl, rfl, by rw [count_S]; exact q H2 e2⟩
theorem ev_rfind {l : List Nat} (h : Ev ta σ H (.str (S l))) : Ev (tM1 (fun x xs H Q => ∃ a b, x = .str a ∧ xs = [.str b] ∧ Q (.int (Txt.rfind a b)) H) ta (tC (.str (Str.ofString "\n")))) σ H (.int ((l.length : Int) - ((posF l).2 : Int) - 1)) := fun H1 e Q q =>
  h H1 e _ fun H2 e2 => ⟨⟨_, rfl⟩, S l, S [10], rfl, rfl, by rw [rfind_S]; exact q H2 e2⟩
theorem sIx_n {n d : Nat} {i : Nat} : HT.sIx n d (some (i : Int)) = min i n := HT.sIx_nat n d i
theorem cut_to (l : List Nat) (n : Nat) : cutS (S l) none (some (n : Int)) = S (l.take n) := by
  unfold cutS
  rw [HT.sIx_none, sIx_n]
  show S ((l.drop 0).take (min n (S l).length - 0)) = S (l.take n)
  rw [List.drop_zero, S_len, Nat.sub_zero]
  refine congrArg S ?_
  by_cases h : n ≤ l.length
  · rw [Nat.min_eq_left h]
  · rw [Nat.min_eq_right (by omega), List.take_of_length_le (Nat.le_refl _), List.take_of_length_le (by omega)]
theorem cut_from (l : List Nat) (n : Nat) : cutS (S l) (some (n : Int)) none = S (l.drop n) := by
  unfold cutS
  rw [HT.sIx_none, sIx_n]
  show S ((l.drop (min n (S l).length)).take ((S l).length - min n (S l).length)) = S (l.drop n)
  rw [S_len]
  refine congrArg S ?_
  by_cases h : n ≤ l.length
  · rw [Nat.min_eq_left h, List.take_of_length_le (by rw [List.length_drop]; omega)]
  · rw [Nat.min_eq_right (by omega), List.drop_eq_nil_of_le (show l.length ≤ n by omega), List.drop_eq_nil_of_le (Nat.le_refl _), List.take_nil]
theorem cut_mid (l : List Nat) (a b : Nat) (h1 : a ≤ b) (h2 : b ≤ l.length) : cutS (S l) (some (a : Int)) (some (b : Int)) = S ((l.drop a).take (b - a)) := by
  unfold cutS
  rw [sIx_n, sIx_n]
  show S ((l.drop (min a (S l).length)).take (min b (S l).length - min a (S l).length)) = _
  rw [S_len, Nat.min_eq_left h2, Nat.min_eq_left (Nat.le_trans h1 h2)]
theorem ev_slS {lo hi : Option Int} {tl th : TO} {l m : List Nat} (h : Ev ta σ H (.str (S l))) (h1 : EvO tl σ H lo) (h2 : EvO th σ H hi) (hl : l.length ≤ 100000) (hm : cutS (S l) lo hi = S m) : Ev (tSl rSlS ta tl th) σ H (.str (S m)) := fun H1 e Q q =>
  h H1 e _ fun H2 e2 => h1 H2 (e.trans e2) _ fun H3 e3 => h2 H3 ((e.trans e2).trans e3) _ fun H4 e4 => ⟨S l, rfl, by rw [S_len]; exact sz_of hl, by rw [hm]; exact q H4 ((e2.trans e3).trans e4)⟩
theorem ev_to {th : TE} {l : List Nat} {n : Nat} (h : Ev ta σ H (.str (S l))) (h2 : Ev th σ H (.int (n : Int))) (hl : l.length ≤ 100000) : Ev (tSl rSlS ta tNoPart (tPart th)) σ H (.str (S (l.take n))) := ev_slS h eo_none (eo_some h2) hl (cut_to l n)
theorem ev_from {tl : TE} {l : List Nat} {n : Nat} (h : Ev ta σ H (.str (S l))) (h2 : Ev tl σ H (.int (n : Int))) (hl : l.length ≤ 100000) : Ev (tSl rSlS ta (tPart tl) tNoPart) σ H (.str (S (l.drop n))) := ev_slS h (eo_some h2) eo_none hl (cut_from l n)
theorem ev_mid {tl th : TE} {l : List Nat} {a b : Nat} (h : Ev ta σ H (.str (S l))) (h1 : Ev tl σ H (.int (a : Int))) (h2 : Ev th σ H (.int (b : Int))) (hl : l.length ≤ 100000) (hab : a ≤ b) (hb : b ≤ l.length) : Ev (tSl rSlS ta (tPart tl) (tPart th)) σ H (.str (S ((l.drop a).take (b - a)))) :=
  ev_slS h (eo_some h1) (eo_some h2) hl (cut_mid l a b hab hb)
theorem ev_revS {l : List Nat} (h : Ev ta σ H (.str (S l))) (hl : l.length ≤ 100000) : Ev (tRevS ta) σ H (.str (S l.reverse)) := fun H1 e Q q =>
  h H1 e _ fun H2 e2 => ⟨S l, rfl, by rw [S_len]; exact sz_of hl, q H2 e2⟩
theorem ev_ixS {l : List Nat} {i c : Nat} (h : Ev ta σ H (.str (S l))) (hi : Ev tb σ H (.int (i : Int))) (hl : l.length ≤ 100000) (hc : l[i]? = some c) : Ev (tOp rIxS ta tb) σ H (.str (S [c])) :=
  ev_op h hi (rv_ixS (by rw [S_len]; exact hl) (atI_nat hc))
theorem cutV_to (vs : List V) (n : Nat) : cutV vs none (some (n : Int)) = vs.take n := by
  unfold cutV
  rw [HT.sIx_none, sIx_n, List.drop_zero, Nat.sub_zero]
  by_cases h : n ≤ vs.length
  · rw [Nat.min_eq_left h]
  · rw [Nat.min_eq_right (by omega), List.take_of_length_le (Nat.le_refl _), List.take_of_length_le (by omega)]
theorem ed_toL {th : TE} {n : Nat} (h : EvD ta σ H (.lst ds)) (h2 : Ev th σ H (.int (n : Int))) : EvD (tSl (rSlL K) ta tNoPart (tPart th)) σ H (.lst (ds.take n)) := fun H1 e Q q =>
  h H1 e _ fun v H2 e2 r => h2 H2 (e.trans e2) _ fun H3 e3 => ⟨n, rfl, by
    obtain ⟨p, vs, rfl, h4, h5⟩ := rp_lst.mp (r.ex e3)
    refine ⟨p, vs, rfl, sq_of h4, fun p' hp => q _ _ ((e2.trans e3).trans (Ex.new hp)) (rp_lst.mpr ⟨p', _, rfl, upd_same, ?_⟩)⟩
    rw [cutV_to]
    exact rps_take n (h5.ex (Ex.new hp))⟩
/-! ### what is walked -/
/-- n turns, the i-th gives what reads as dy i -/
def EvI (wi : TI) (σ : L2.St) (H : Hp) (n : Nat) (dy : Nat → D) : Prop := ∀ H1, Ex H H1 → ∀ R : It → Hp → Prop, (∀ J H2 G Y, Ex H1 H2 → Walk J n G Y → (∀ H3, Ex H2 H3 → G H3) →
  (∀ i H3 x H4, i < n → Ex H2 H3 → Y i H3 x H4 → Ex H3 H4 ∧ Rp H4 (dy i) x) → R J H2) → wi σ H1 R
theorem ei_list (h : EvD ta σ H (.lst ds)) : EvI (iList K ta) σ H ds.length (fun i => ds.getD i .non) := fun H1 e R q =>
  h H1 e _ fun v H2 e2 r => by
    obtain ⟨p, vs, rfl, h4, h5⟩ := rp_lst.mp r
    refine ⟨p, rfl, ⟨vs, sq_of h4⟩, q _ H2 (fun H => SqL K H p vs) (YAt vs) e2 (by rw [← rps_len h5]; exact walk_list) (fun H3 e3 => sq_of (e3 p _ h4)) fun i H3 x H4 hi e3 hy => ?_⟩
    obtain ⟨rfl, hx⟩ := hy
    have hd : ds[i]? = some ds[i] := List.getElem?_eq_getElem hi
    obtain ⟨v, hv, rv⟩ := rps_get h5 hd
    rw [hv] at hx
    cases hx
    refine ⟨Ex.refl _, ?_⟩
    show Rp H4 (ds.getD i .non) x
    rw [List.getD_eq_getElem?_getD, hd]
    exact rv.ex e3
theorem ei_rev (h : EvD ta σ H (.lst ds)) : EvI (iRev K (tCons ta tNil)) σ H ds.length (fun i => ds.getD (ds.length - 1 - i) .non) := fun H1 e R q =>
  h H1 e _ fun v H2 e2 r => by
    obtain ⟨p, vs, rfl, h4, h5⟩ := rp_lst.mp r
    have hl := rps_len h5
    refine ⟨p, vs, rfl, sq_of h4, q _ H2 (fun H => SqL K H p vs) _ e2 (by rw [← hl]; exact walk_rev) (fun H3 e3 => sq_of (e3 p _ h4)) fun i H3 x H4 hi e3 hy => ?_⟩
    obtain ⟨rfl, hx⟩ := hy
    have hd : ds[ds.length - 1 - i]? = some ds[ds.length - 1 - i] := List.getElem?_eq_getElem (by omega)
    obtain ⟨v, hv, rv⟩ := rps_get h5 hd
    rw [hl, hv] at hx
    cases hx
    refine ⟨Ex.refl _, ?_⟩
    show Rp H4 (ds.getD (ds.length - 1 - i) .non) x
    rw [List.getD_eq_getElem?_getD, hd]
    exact rv.ex e3
theorem ei_str {l : List Nat} (h : Ev ta σ H (.str (S l))) : EvI (iStr ta) σ H l.length (fun i => .str [l.getD i 0]) := fun H1 e R q =>
  h H1 e _ fun H2 e2 => ⟨S l, rfl, q _ H2 (fun _ => True) _ e2 (by have w := walk_str (z := S l); exact w) (fun _ _ => trivial) fun i H3 x H4 hi e3 hy => by
    obtain ⟨rfl, c, hc, rfl⟩ := hy
    refine ⟨Ex.refl _, rp_str.mpr ?_⟩
    have hc : l[i]? = some c := by simpa [S] using hc
    rw [List.getD_eq_getElem?_getD, hc]
    rfl⟩
theorem ei_range {n : Int} (h : Ev ta σ H (.int n)) (hn : -100000 ≤ n ∧ n ≤ 100000) : EvI (iRng1 (tCons ta tNil)) σ H n.toNat (fun i => .int (i : Int)) := fun H1 e R q =>
  h H1 e _ fun H2 e2 => ⟨n, rfl, by omega, by omega, q _ H2 (fun _ => True) _ e2 walk_range (fun _ _ => trivial) fun i H3 x H4 hi e3 hy => by
    obtain ⟨rfl, rfl⟩ := hy
    refine ⟨Ex.refl _, rp_int.mpr ?_⟩
    show V.int (0 + (i : Int)) = V.int (i : Int)
    rw [Int.zero_add]⟩
/-! ### comprehensions -/
def picked (n : Nat) (f : Nat → Bool) (dv : Nat → D) : List D := ((List.range n).filter f).map dv
theorem picked_yes {n : Nat} {f : Nat → Bool} {v : Nat → D} (h : f n = true) : picked (n + 1) f v = picked n f v ++ [v n] := by
  unfold picked
  rw [List.range_succ, List.filter_append, List.map_append, List.filter_cons, if_pos h] <;> rfl
theorem picked_no {n : Nat} {f : Nat → Bool} {v : Nat → D} (h : f n = false) : picked (n + 1) f v = picked n f v := by
  unfold picked
  rw [List.range_succ, List.filter_append, List.map_append, List.filter_cons, if_neg (by rw [h]; decide)]
  show _ ++ [] = _
  rw [List.append_nil]
theorem picked_len (n : Nat) (f : Nat → Bool) (v : Nat → D) : (picked n f v).length ≤ n := by
  unfold picked
  rw [List.length_map]
  have h := List.length_filter_le f (List.range n)
  rw [List.length_range] at h
  exact h
theorem ed_lc {wi : TI} {n j : Nat} {dy : Nat → D} {ws : List Nat} (f : Nat → Bool) (dv : Nat → D) (h : EvI wi σ H n dy) (hz : n ≤ 40000) (hnl : ∀ i, nl (dv i) = true) (hw : ∀ x, wipe ((wipe σ ws).set j (some x)) ws = wipe σ ws)
    (ht : ∀ (i : Nat) (x : V) H1, i < n → Ex H H1 → Rp H1 (dy i) x → EvT t ((wipe σ ws).set j (some x)) H1 (f i)) (he : ∀ (i : Nat) (x : V) H1, i < n → Ex H H1 → Rp H1 (dy i) x → f i = true → EvD te ((wipe σ ws).set j (some x)) H1 (dv i)) :
    EvD (tLc wi (gName j) t te ws) σ H (.lst (picked n f dv)) := fun H0 e Q q => h H0 e _ fun J H1 G Y e1 W hG hY Dl hD =>
  lc_it W (fun i H' => ∃ vs, Ex H1 H' ∧ H' Dl = some (.lst vs) ∧ Rps H' (picked i f dv) vs) ⟨[], Ex.new hD, upd_same, rps_nil.mpr rfl⟩ (fun i H' hi ⟨_, p, _⟩ => hG H' p)
    (fun i x H' H'' hi ⟨vs, p1, p2, p3⟩ hy => by
      obtain ⟨ey, ry⟩ := hY i H' x H'' hi p1 hy
      refine ⟨hw x, ht i x H'' hi ((e.trans e1).trans (p1.trans ey)) ry H'' (Ex.refl _) _ fun H3 e3 => ?_⟩
      have p12 := p1.trans (ey.trans e3)
      cases hf : f i with
      | true =>
        show te _ H3 _
        refine he i x H'' hi ((e.trans e1).trans (p1.trans ey)) ry hf H3 e3 _ fun y H4 e4 ry4 => ⟨vs, e4 Dl _ (e3 Dl _ (ey Dl _ p2)), ?_, vs ++ [y], Ex.mut (p12.trans e4) hD, upd_same, ?_⟩
        · have := picked_len i f dv
          rw [rps_len p3]
          exact sz_lt (by omega)
        · rw [picked_yes hf]
          have tx : Tx H4 (upd H4 Dl (.lst (vs ++ [y]))) := Tx.lst (e4 Dl _ (e3 Dl _ (ey Dl _ p2)))
          refine rps_app (Rps.tx tx (nls_all fun d hd => ?_) (p3.ex (ey.trans (e3.trans e4)))) (rps_cons.mpr ⟨y, [], rfl, Rp.tx tx (hnl i) ry4, rps_nil.mpr rfl⟩)
          unfold picked at hd
          obtain ⟨k, _, rfl⟩ := List.mem_map.mp hd
          exact hnl k
      | false =>
        show ∃ vs, _
        refine ⟨vs, p12, e3 Dl _ (ey Dl _ p2), ?_⟩
        rw [picked_no hf]
        exact p3.ex (ey.trans e3)) fun H' ⟨vs, p1, p2, p3⟩ => q _ H' (e1.trans p1) (rp_lst.mpr ⟨Dl, vs, rfl, p2, p3⟩)
end
end HW

set_option Elab.async false
set_option linter.all false
set_option maxRecDepth 100000
namespace HW
open PySem PySem.Spec PyProof.Rows L2 Evl SX
theorem picked_map {α : Type} {xs : List α} (f : α → D) {dv : Nat → D} (h : ∀ (i : Nat) x, xs[i]? = some x → dv i = f x) : picked xs.length (fun _ => true) dv = xs.map f := by
  unfold picked
  rw [List.filter_eq_self.mpr (fun _ _ => rfl)]
  refine List.ext_getElem? fun i => ?_
  rw [List.getElem?_map, List.getElem?_map]
  by_cases hi : i < xs.length
  · rw [List.getElem?_range hi, List.getElem?_eq_getElem hi]
    show some (dv i) = some (f xs[i])
    rw [h i _ (List.getElem?_eq_getElem hi)]
  · rw [List.getElem?_eq_none (by simpa using hi), List.getElem?_eq_none (by simpa using hi)]
    rfl
section
variable {K : PySem.W.Frag} {σ : L2.St} {H H' : Hp} {ta tb tc te tx : TE} {t u : TT} {x y z v : V} {r r' : R2} {d e : D} {ds : List D} {D' : Ends} {tu tw tz : TS} {g : TG}
theorem rv_le {i j : Int} (h : i ≤ j) : RV (rI0 fun i j => .bl (decide (i ≤ j))) (.int i) (.int j) H (.bl true) := by
  have := rv_I0 (H := H) (g := fun i j => V.bl (decide (i ≤ j))) (i := i) (j := j)
  rw [decide_eq_true h] at this
  exact this
theorem rv_lt {i j : Int} (h : i < j) : RV (rI0 fun i j => .bl (decide (i < j))) (.int i) (.int j) H (.bl true) := by
  have := rv_I0 (H := H) (g := fun i j => V.bl (decide (i < j))) (i := i) (j := j)
  rw [decide_eq_true h] at this
  exact this
theorem et_no (h : EvT t σ H true) : EvT (tNot t) σ H false := et_is (et_not h) rfl
theorem et_yes (h : EvT t σ H false) : EvT (tNot t) σ H true := et_is (et_not h) rfl
theorem et_or0 {b : Bool} (h1 : EvT t σ H false) (h2 : EvT u σ H b) : EvT (tOr t u) σ H b := et_is (et_or h1 fun _ => h2) (Bool.false_or b)
theorem et_and1 {b : Bool} (h1 : EvT t σ H true) (h2 : EvT u σ H b) : EvT (tAnd t u) σ H b := et_is (et_and h1 fun _ => h2) (Bool.true_and b)
theorem et_and0 (h1 : EvT t σ H false) : EvT (tAnd t u) σ H false := fun H1 e Q q => h1 H1 e _ fun H2 e2 => by
  show Q false H2
  exact q H2 e2
theorem q_par {i j : Nat} (ha : Ev ta σ H x) (hb : Ev tb σ H y) (k : ∀ H1, Ex H H1 → tz D' ((σ.set i (some x)).set j (some y)) H1) : tSeq (tPar i j (tCons ta (tCons tb tNil))) tz D' σ H :=
  ha H (Ex.refl _) _ fun H1 e1 => hb H1 e1 _ fun H2 e2 => ⟨x, y, rfl, k H2 (e1.trans e2)⟩
theorem qd_par {i j : Nat} {d e : D} (ha : EvD ta σ H d) (hb : EvD tb σ H e) (k : ∀ x y H1, Ex H H1 → Rp H1 d x → Rp H1 e y → tz D' ((σ.set i (some x)).set j (some y)) H1) : tSeq (tPar i j (tCons ta (tCons tb tNil))) tz D' σ H :=
  ha H (Ex.refl _) _ fun x H1 e1 r1 => hb H1 e1 _ fun y H2 e2 r2 => ⟨x, y, rfl, k x y H2 (e1.trans e2) (r1.ex e2) r2⟩
theorem q_parL {i j : Nat} {xs : List V} (ha : Ev ta σ H x) (hb : EvL tb σ H xs) (k : ∀ p H1, H p = none → Ex H H1 → H1 p = some (.lst xs) → tz D' ((σ.set i (some x)).set j (some (.ref p))) H1) : tSeq (tPar i j (tCons ta (tCons tb tNil))) tz D' σ H :=
  ha H (Ex.refl _) _ fun H1 e1 => hb H1 e1 _ fun p H2 hp e2 h2 => ⟨x, .ref p, rfl, k p H2 (fresh_back e1 hp) (e1.trans e2) h2⟩
theorem qd_app {l : Addr} {xs : List V} (hl : H l = some (.lst xs)) (ha : Ev ta σ H (.ref l)) (h : EvD te σ H d) (hz : xs.length < 100000) (k : ∀ v H1, Ex H H1 → Rp H1 d v → tz D' σ (upd H1 l (.lst (xs ++ [v])))) :
    tSeq (tDrop (tBM K "list" rAppend ta (tCons te tNil))) tz D' σ H := ha H (Ex.refl H) _ fun H1 e1 =>
  ⟨Or.inl ⟨rfl, xs, sq_of (e1 l _ hl)⟩, h H1 e1 _ fun v H2 e2 r => ⟨l, xs, v, rfl, rfl, e2 l _ (e1 l _ hl), sz_lt hz, k v H2 (e1.trans e2) r⟩⟩
theorem sd_app {l : Addr} {xs : List V} (hl : H l = some (.lst xs)) (ha : Ev ta σ H (.ref l)) (h : EvD te σ H d) (hz : xs.length < 100000) (k : ∀ v H1, Ex H H1 → Rp H1 d v → D'.nx σ (upd H1 l (.lst (xs ++ [v])))) :
    tDrop (tBM K "list" rAppend ta (tCons te tNil)) D' σ H := ha H (Ex.refl H) _ fun H1 e1 =>
  ⟨Or.inl ⟨rfl, xs, sq_of (e1 l _ hl)⟩, h H1 e1 _ fun v H2 e2 r => ⟨l, xs, v, rfl, rfl, e2 l _ (e1 l _ hl), sz_lt hz, k v H2 (e1.trans e2) r⟩⟩
theorem q_appG {l : Addr} {xs : List V} {i : Nat} (hl : H l = some (.lst xs)) (hv : σ[i]? = some (some (.ref l))) (h : te σ H fun v H1 => rAppend (.ref l) [v] H1 fun _ H3 => tz D' σ H3) :
    tSeq (tDrop (tBM K "list" rAppend (tVar i) (tCons te tNil))) tz D' σ H := ⟨.ref l, hv, Or.inl ⟨rfl, xs, sq_of hl⟩, h⟩
/-- for i, x in enumerate(list) -/
theorem q_forE {a : Addr} {xs : List V} {p q : Nat} (h : Ev ta σ H (.ref a)) (hx : SqL K H a xs) (Pv : Nat → L2.St → Hp → Prop) (h0 : ∀ H1, Ex H H1 → Pv 0 σ H1) (hl : ∀ i σ' H', i ≤ xs.length → Pv i σ' H' → SqL K H' a xs)
    (hs : ∀ (i : Nat) x σ' H' T, xs[i]? = some x → Pv i σ' H' → H' T = none → tu { D' with nx := Pv (i + 1), ct := Pv (i + 1), bk := tz D' } ((σ'.set p (some (.int (i : Nat)))).set q (some x)) (upd H' T (.tup [.int (i : Nat), x])))
    (hd : ∀ σ' H', Pv xs.length σ' H' → tz D' σ' H') : tSeq (tFor (iEnum K (tCons ta tNil)) (gTup K 2 (gCons (gName p) (gCons (gName q) gNil))) tu) tz D' σ H :=
  h H (Ex.refl H) _ fun H1 e => ⟨a, xs, rfl, ex_l e hx, for_it walk_enum Pv (h0 H1 e) hl (fun i v σ' H' H'' hi p hy => by
    obtain ⟨T, x, y, rfl, hT, rfl, e1, e2⟩ := hy
    cases e1
    exact ⟨T, _, rfl, st_of upd_same, rfl, _, _, rfl, _, _, rfl, rfl, hs i y σ' H' T e2 p hT⟩) hd⟩
/-- for c in text -/
theorem q_forS {l : List Nat} {j : Nat} (h : Ev ta σ H (.str (S l))) (Pv : Nat → L2.St → Hp → Prop) (h0 : ∀ H1, Ex H H1 → Pv 0 σ H1)
    (hs : ∀ (i : Nat) c σ' H', l[i]? = some c → Pv i σ' H' → tu { D' with nx := Pv (i + 1), ct := Pv (i + 1), bk := tz D' } (σ'.set j (some (.str (S [c])))) H')
    (hd : ∀ σ' H', Pv l.length σ' H' → tz D' σ' H') : tSeq (tFor (iStr ta) (gName j) tu) tz D' σ H :=
  h H (Ex.refl H) _ fun H1 e => ⟨S l, rfl, for_it (show Walk (Its (S l)) l.length _ _ from walk_str (z := S l)) Pv (h0 H1 e) (fun _ _ _ _ _ => trivial) (fun i v σ' H' H'' hi p hy => by
    obtain ⟨rfl, c, hc, rfl⟩ := hy
    exact hs i c σ' _ (by simpa [S] using hc) p) hd⟩
theorem walk_enumS {z : Str} : Walk (Ites z) z.cps.size (fun _ => True) (fun i H v H' => ∃ T c, v = .ref T ∧ H T = none ∧ z.cps[i]? = some c ∧ H' = upd H T (.tup [.int (i : Nat), .str ⟨#[c]⟩])) :=
  ⟨fun _ _ hi _ => hi, fun _ _ => rfl, fun _ _ _ _ _ _ y => y⟩
/-- for i, c in enumerate(text) -/
theorem q_forES {l : List Nat} {p q : Nat} (h : Ev ta σ H (.str (S l))) (Pv : Nat → L2.St → Hp → Prop) (h0 : ∀ H1, Ex H H1 → Pv 0 σ H1)
    (hs : ∀ (i : Nat) c σ' H' T, l[i]? = some c → Pv i σ' H' → H' T = none → tu { D' with nx := Pv (i + 1), ct := Pv (i + 1), bk := tz D' } ((σ'.set p (some (.int (i : Nat)))).set q (some (.str (S [c])))) (upd H' T (.tup [.int (i : Nat), .str (S [c])])))
    (hd : ∀ σ' H', Pv l.length σ' H' → tz D' σ' H') : tSeq (tFor (iEnumS (tCons ta tNil)) (gTup K 2 (gCons (gName p) (gCons (gName q) gNil))) tu) tz D' σ H :=
  h H (Ex.refl H) _ fun H1 e => ⟨S l, rfl, for_it (show Walk (Ites (S l)) l.length _ _ from walk_enumS (z := S l)) Pv (h0 H1 e) (fun _ _ _ _ _ => trivial) (fun i v σ' H' H'' hi p hy => by
    obtain ⟨T, c, rfl, hT, hc, rfl⟩ := hy
    exact ⟨T, _, rfl, st_of upd_same, rfl, _, _, rfl, _, _, rfl, rfl, hs i c σ' H' T (by simpa [S] using hc) p hT⟩) hd⟩
theorem ed_ixAT {i : Int} (h : EvD ta σ H (.tup ds)) (hi : Ev tb σ H (.int i)) (hd : atI ds i = some d) : EvD (tOp (rIx K) ta tb) σ H d := fun H1 e Q q =>
  h H1 e _ fun v H2 e2 r => hi H2 (e.trans e2) _ fun H3 e3 => by
    obtain ⟨p, vs, rfl, h2, h3⟩ := rp_tup.mp (r.ex e3)
    have hl := rps_len h3
    unfold atI at hd
    cases hj : ixN ds.length i with
    | none => rw [hj] at hd; cases hd
    | some j =>
      rw [hj] at hd
      obtain ⟨w, hw, rw'⟩ := rps_get h3 (show ds[j]? = some d from hd)
      refine .inr (.inl ⟨p, vs, i, w, rfl, rfl, st_of h2, ?_, q w H3 (e2.trans e3) rw'⟩)
      unfold atI
      rw [hl, hj]
      exact hw
theorem ed_ixAL {i : Int} (h : EvD ta σ H (.lst ds)) (hi : Ev tb σ H (.int i)) (hd : atI ds i = some d) : EvD (tOp (rIx K) ta tb) σ H d := fun H1 e Q q =>
  h H1 e _ fun v H2 e2 r => hi H2 (e.trans e2) _ fun H3 e3 => by
    obtain ⟨p, vs, rfl, h2, h3⟩ := rp_lst.mp (r.ex e3)
    have hl := rps_len h3
    unfold atI at hd
    cases hj : ixN ds.length i with
    | none => rw [hj] at hd; cases hd
    | some j =>
      rw [hj] at hd
      obtain ⟨w, hw, rw'⟩ := rps_get h3 (show ds[j]? = some d from hd)
      refine .inl ⟨p, vs, i, w, rfl, rfl, sq_of h2, ?_, q w H3 (e2.trans e3) rw'⟩
      unfold atI
      rw [hl, hj]
      exact hw
/-- if xs: of a list -/
theorem et_truL (h : EvD ta σ H (.lst ds)) : EvT (fun σ H Q => ta σ H fun x H' => ∃ k, TruV K x H' k ∧ Q k H') σ H (!ds.isEmpty) := fun H1 e Q q =>
  h H1 e _ fun v H2 e2 r => by
    obtain ⟨p, vs, rfl, h4, h5⟩ := rp_lst.mp r
    refine ⟨!ds.isEmpty, .inl ⟨vs, sq_of h4, ?_⟩, q H2 e2⟩
    have hl := rps_len h5
    cases ds with
    | nil => rw [List.length_nil] at hl; rw [List.length_eq_zero_iff.mp hl]; rfl
    | cons a b =>
      cases vs with
      | nil => simp at hl
      | cons _ _ => rfl
theorem ei_enum (h : EvD ta σ H (.lst ds)) : EvI (iEnum K (tCons ta tNil)) σ H ds.length (fun i => .tup [.int (i : Nat), ds.getD i .non]) := fun H1 e R q =>
  h H1 e _ fun v H2 e2 r => by
    obtain ⟨p, vs, rfl, h4, h5⟩ := rp_lst.mp r
    refine ⟨p, vs, rfl, sq_of h4, q _ H2 (fun H => SqL K H p vs) _ e2 (by rw [← rps_len h5]; exact walk_enum) (fun H3 e3 => sq_of (e3 p _ h4)) fun i H3 x H4 hi e3 hy => ?_⟩
    obtain ⟨T, x1, y1, rfl, hT, rfl, e1, e2'⟩ := hy
    cases e1
    have e2' : vs[i]? = some y1 := e2'
    have hd : ds[i]? = some ds[i] := List.getElem?_eq_getElem hi
    obtain ⟨v, hv, rv⟩ := rps_get h5 hd
    rw [hv] at e2'
    cases e2'
    refine ⟨Ex.new hT, rp_tup.mpr ⟨T, _, rfl, upd_same, rps_cons.mpr ⟨_, _, rfl, rp_int.mpr rfl, rps_cons.mpr ⟨_, [], rfl, ?_, rps_nil.mpr rfl⟩⟩⟩⟩
    rw [List.getD_eq_getElem?_getD, hd]
    exact (rv.ex e3).ex (Ex.new hT)
theorem rp_two {d1 d2 : D} (r : Rp H (.tup [d1, d2]) v) : ∃ p x y, v = .ref p ∧ H p = some (.tup [x, y]) ∧ Rp H d1 x ∧ Rp H d2 y := by
  obtain ⟨p, vs, rfl, h2, h3⟩ := rp_tup.mp r
  obtain ⟨v1, r1, rfl, a1, h3⟩ := rps_cons.mp h3
  obtain ⟨v2, r2, rfl, a2, h3⟩ := rps_cons.mp h3
  rw [rps_nil.mp h3] at h2
  exact ⟨p, v1, v2, rfl, h2, a1, a2⟩
/-- [.. for a, b in ..] -/
theorem ed_lc2 {wi : TI} {n p q : Nat} {d1 d2 : Nat → D} {ws : List Nat} (f : Nat → Bool) (dv : Nat → D) (h : EvI wi σ H n fun i => .tup [d1 i, d2 i]) (hz : n ≤ 40000) (hnl : ∀ i, nl (dv i) = true) (hw : ∀ x y, wipe (((wipe σ ws).set p (some x)).set q (some y)) ws = wipe σ ws)
    (ht : ∀ (i : Nat) (x y : V) H1, i < n → Ex H H1 → Rp H1 (d1 i) x → Rp H1 (d2 i) y → EvT t (((wipe σ ws).set p (some x)).set q (some y)) H1 (f i))
    (he : ∀ (i : Nat) (x y : V) H1, i < n → Ex H H1 → Rp H1 (d1 i) x → Rp H1 (d2 i) y → f i = true → EvD te (((wipe σ ws).set p (some x)).set q (some y)) H1 (dv i)) :
    EvD (tLc wi (gTup K 2 (gCons (gName p) (gCons (gName q) gNil))) t te ws) σ H (.lst (picked n f dv)) := fun H0 e Q q => h H0 e _ fun J H1 G Y e1 W hG hY Dl hD =>
  lc_it W (fun i H' => ∃ vs, Ex H1 H' ∧ H' Dl = some (.lst vs) ∧ Rps H' (picked i f dv) vs) ⟨[], Ex.new hD, upd_same, rps_nil.mpr rfl⟩ (fun i H' hi ⟨_, p, _⟩ => hG H' p)
    (fun i x H' H'' hi ⟨vs, p1, p2, p3⟩ hy => by
      obtain ⟨ey, ry⟩ := hY i H' x H'' hi p1 hy
      obtain ⟨T, x1, y1, rfl, hT, rx1, ry1⟩ := rp_two ry
      refine ⟨T, _, rfl, st_of hT, rfl, _, _, rfl, _, _, rfl, rfl, hw x1 y1, ht i x1 y1 H'' hi ((e.trans e1).trans (p1.trans ey)) rx1 ry1 H'' (Ex.refl _) _ fun H3 e3 => ?_⟩
      have p12 := p1.trans (ey.trans e3)
      cases hf : f i with
      | true =>
        show te _ H3 _
        refine he i x1 y1 H'' hi ((e.trans e1).trans (p1.trans ey)) rx1 ry1 hf H3 e3 _ fun y H4 e4 ry4 => ⟨vs, e4 Dl _ (e3 Dl _ (ey Dl _ p2)), ?_, vs ++ [y], Ex.mut (p12.trans e4) hD, upd_same, ?_⟩
        · have := picked_len i f dv
          rw [rps_len p3]
          exact sz_lt (by omega)
        · rw [picked_yes hf]
          have tx : Tx H4 (upd H4 Dl (.lst (vs ++ [y]))) := Tx.lst (e4 Dl _ (e3 Dl _ (ey Dl _ p2)))
          refine rps_app (Rps.tx tx (nls_all fun d hd => ?_) (p3.ex (ey.trans (e3.trans e4)))) (rps_cons.mpr ⟨y, [], rfl, Rp.tx tx (hnl i) ry4, rps_nil.mpr rfl⟩)
          unfold picked at hd
          obtain ⟨k, _, rfl⟩ := List.mem_map.mp hd
          exact hnl k
      | false =>
        show ∃ vs, _
        refine ⟨vs, p12, e3 Dl _ (ey Dl _ p2), ?_⟩
        rw [picked_no hf]
        exact p3.ex (ey.trans e3)) fun H' ⟨vs, p1, p2, p3⟩ => q _ H' (e1.trans p1) (rp_lst.mpr ⟨Dl, vs, rfl, p2, p3⟩)
/-- for a, b in (a list of pairs), nothing changed -/
theorem q_forP {α : Type} {dd : List α} {f1 f2 : α → D} {p q : Nat} (h : EvD ta σ H (.lst (dd.map fun x => .tup [f1 x, f2 x]))) (Pv : Nat → L2.St → Prop) (h0 : Pv 0 σ)
    (hs : ∀ H1, Ex H H1 → ∀ (i : Nat) d x y σ' H', dd[i]? = some d → Pv i σ' → Ex H1 H' → Rp H' (f1 d) x → Rp H' (f2 d) y → tu { D' with nx := fun σ2 H2 => Pv (i + 1) σ2 ∧ Ex H1 H2, ct := fun σ2 H2 => Pv (i + 1) σ2 ∧ Ex H1 H2, bk := tz D' } ((σ'.set p (some x)).set q (some y)) H')
    (hd : ∀ σ' H', Pv dd.length σ' → Ex H H' → tz D' σ' H') : tSeq (tFor (iList K ta) (gTup K 2 (gCons (gName p) (gCons (gName q) gNil))) tu) tz D' σ H :=
  h H (Ex.refl H) _ fun v H1 e r => by
    obtain ⟨a, vs, rfl, h4, h5⟩ := rp_lst.mp r
    have hl := rps_len h5
    rw [List.length_map] at hl
    refine ⟨a, rfl, ⟨vs, sq_of h4⟩, for_list (xs := vs) (fun i σ' H' => Pv i σ' ∧ Ex H1 H') ⟨h0, Ex.refl _⟩ (fun i σ' H' _ q => sq_of (q.2 _ _ h4)) (fun i x σ' H' hx hp => ?_) fun σ' H' hp => hd σ' H' (by rw [← hl]; exact hp.1) (e.trans hp.2)⟩
    have hi : i < dd.length := by
      rw [← hl]
      exact (List.getElem?_eq_some_iff.mp hx).1
    have hdi : dd[i]? = some dd[i] := List.getElem?_eq_getElem hi
    obtain ⟨x', hx', rx⟩ := rps_get (i := i) (d := .tup [f1 dd[i], f2 dd[i]]) h5 (by rw [List.getElem?_map, hdi]; rfl)
    rw [hx] at hx'
    cases hx'
    obtain ⟨T, x1, y1, rfl, hT, rx1, ry1⟩ := rp_two (rx.ex hp.2)
    exact ⟨T, _, rfl, st_of hT, rfl, _, _, rfl, _, _, rfl, rfl, hs H1 e i dd[i] x1 y1 σ' H' hdi hp.1 hp.2 rx1 ry1⟩
end
end HW

set_option Elab.async false
set_option linter.all false
set_option maxRecDepth 100000
namespace HW
open PySem PySem.Spec PyProof.Rows L2 Evl SX
/-! ### a state that is drawn from: a list that changes, all else stays -/
def ExB (a : Addr) (H H' : Hp) : Prop := ∀ b o, b ≠ a → H b = some o → H' b = some o
theorem ExB.refl (a : Addr) (H : Hp) : ExB a H H := fun _ _ _ h => h
theorem ExB.trans {a : Addr} {H H1 H2 : Hp} (x : ExB a H H1) (y : ExB a H1 H2) : ExB a H H2 := fun b o n h => y b o n (x b o n h)
theorem ExB.of {a : Addr} {H H' : Hp} (e : Ex H H') : ExB a H H' := fun b o _ h => e b o h
theorem ExB.upd (a : Addr) (H : Hp) (o : HO) : ExB a H (upd H a o) := fun b u n h => by rw [upd_ne n]; exact h
/-- the script: locked, or written -/
def Scr (K : PySem.W.Frag) (H : Hp) (sc : Addr) (xs : List V) : Prop := (∃ o, H sc = some (.frz o (.lst xs))) ∨
  ∃ (o : Obj) (its : Array Value) (n : Nat), K.lookup sc = some o ∧ o.cls = .type "list" ∧ o.dict = none ∧ o.data = .seq its n ∧ its.size ≤ sizeLine ∧ Vals xs its.toList
theorem Scr.sq {K : PySem.W.Frag} {H : Hp} {sc : Addr} {xs : List V} (h : Scr K H sc xs) : SqL K H sc xs := by
  rcases h with ⟨o, h⟩ | h
  · exact .inl (.inr ⟨o, h⟩)
  · exact .inr h
theorem Scr.of {K : PySem.W.Frag} {H : Hp} {sc : Addr} {xs : List V} (h : SqL K H sc xs) (ho : Only H) : Scr K H sc xs := by
  rcases h with (h | ⟨o, h⟩) | h
  · rcases ho sc with z | ⟨o, ys, z⟩
    · rw [z] at h; cases h
    · rw [z] at h; cases h
  · exact .inl ⟨o, h⟩
  · exact .inr h
theorem Scr.ex {K : PySem.W.Frag} {H H' : Hp} {sc : Addr} {xs : List V} (h : Scr K H sc xs) (e : Ex H H') : Scr K H' sc xs := by
  rcases h with ⟨o, h⟩ | h
  · exact .inl ⟨o, e _ _ h⟩
  · exact .inr h
theorem Scr.upd {K : PySem.W.Frag} {H : Hp} {sc p : Addr} {xs : List V} {o : HO} (h : Scr K H sc xs) (hp : ∀ ob u, H p ≠ some (.frz ob u)) : Scr K (upd H p o) sc xs := by
  rcases h with ⟨ob, h⟩ | h
  · refine .inl ⟨ob, ?_⟩
    rw [upd_ne (fun z => hp _ _ (by rw [← z]; exact h))]
    exact h
  · exact .inr h
theorem ExB.seq {K : PySem.W.Frag} {a sc : Addr} {H H' : Hp} {xs ys : List V} (e : ExB a H H') (ha : H a = some (.lst ys)) (h : Scr K H sc xs) : Scr K H' sc xs := by
  rcases h with ⟨o, h⟩ | h
  · exact .inl ⟨o, e _ _ (fun z => by rw [z, ha] at h; cases h) h⟩
  · exact .inr h
structure StO (K : PySem.W.Frag) (ns : List Int) (a : Addr) (H : Hp) : Prop where
  ex : ∃ (sc : Addr) (i m r : Int), H a = some (.lst [.ref sc, .int i, .int m, .int r]) ∧ Scr K H sc (ns.map V.int) ∧ 0 ≤ i ∧ 0 ≤ m ∧ m < 2147483647 ∧ 0 ≤ r
theorem StO.mono {K : PySem.W.Frag} {ns : List Int} {a : Addr} {H H' : Hp} (s : StO K ns a H) (e : Ex H H') : StO K ns a H' := by
  obtain ⟨sc, i, m, r, h1, h2, h3⟩ := s.ex
  exact ⟨sc, i, m, r, e _ _ h1, h2.ex e, h3⟩
theorem StO.upd {K : PySem.W.Frag} {ns : List Int} {a p : Addr} {H : Hp} {o : HO} {ys : List V} (s : StO K ns a H) (hp : H p = some (.lst ys)) (hpa : p ≠ a) : StO K ns a (upd H p o) := by
  obtain ⟨sc, i, m, r, h1, h2, h3⟩ := s.ex
  exact ⟨sc, i, m, r, by rw [upd_ne hpa.symm]; exact h1, h2.upd (fun _ _ z => by rw [hp] at z; cases z), h3⟩
theorem ExB.tx {K : PySem.W.Frag} {ns : List Int} {a : Addr} {H H' : Hp} (s : StO K ns a H) (e : ExB a H H') : Tx H H' := fun b xs h => by
  obtain ⟨sc, i, m, r, h1, _⟩ := s.ex
  exact e b _ (ne_of h h1 (fun z => nomatch z)) h
theorem StO.ne {K : PySem.W.Frag} {ns : List Int} {a p : Addr} {H : Hp} {ds : List D} {ws : List V} (s : StO K ns a H) (hp : H p = some (.lst ws)) (hr : Rps H ds ws) (hd : ∀ d ∈ ds, ∃ es, d = .tup es) : p ≠ a := fun z => by
  obtain ⟨sc, i, m, r, h1, _⟩ := s.ex
  rw [z, h1] at hp
  have e := HO.lst.inj (Option.some.inj hp)
  have hl := rps_len hr
  rw [← e] at hl
  have h2 : ds[1]? = some (ds[1]'(by rw [← hl]; simp)) := List.getElem?_eq_getElem (by rw [← hl]; simp)
  obtain ⟨v, hv, rv⟩ := rps_get hr h2
  rw [← e] at hv
  cases hv
  obtain ⟨es, he⟩ := hd _ (List.mem_of_getElem? h2)
  rw [he] at rv
  obtain ⟨p, vs, h5, _⟩ := rp_tup.mp rv
  cases h5
theorem StO.keep {K : PySem.W.Frag} {ns : List Int} {a : Addr} {H H' : Hp} {ds : List D} {v : V} (s : StO K ns a H) (x : ExB a H H') (r : Rp H (.lst ds) v) (hd : ∀ d ∈ ds, ∃ es, d = .tup es) (hn : nls ds = true) : Rp H' (.lst ds) v := by
  obtain ⟨p, ws, rfl, h1, h2⟩ := rp_lst.mp r
  exact rp_lst.mpr ⟨p, ws, rfl, x _ _ (s.ne h1 h2 hd) h1, Rps.tx (x.tx s) hn h2⟩
/-- what is told by a te that may draw: any v of which P holds -/
def EvS (K : PySem.W.Frag) (ns : List Int) (a : Addr) (te : TE) (σ : L2.St) (H : Hp) (P : V → Prop) : Prop :=
  ∀ H1, ExB a H H1 → StO K ns a H1 → ∀ Q : VK, (∀ v H2, ExB a H1 H2 → StO K ns a H2 → P v → Q v H2) → te σ H1 Q
def EvSA (K : PySem.W.Frag) (ns : List Int) (a : Addr) (ta : TA) (σ : L2.St) (H : Hp) (P : List V → Prop) : Prop :=
  ∀ H1, ExB a H H1 → StO K ns a H1 → ∀ Q : List V → Hp → Prop, (∀ vs H2, ExB a H1 H2 → StO K ns a H2 → P vs → Q vs H2) → ta σ H1 Q
def EvST (K : PySem.W.Frag) (ns : List Int) (a : Addr) (tt : TT) (σ : L2.St) (H : Hp) : Prop :=
  ∀ H1, ExB a H H1 → StO K ns a H1 → ∀ Q : Bool → Hp → Prop, (∀ b H2, ExB a H1 H2 → StO K ns a H2 → Q b H2) → tt σ H1 Q
def spDrawn (K : PySem.W.Frag) : Sp := fun vs H Q _ => ∃ a m ns, vs = [.ref a, .int m] ∧ StO K ns a H ∧ 1 ≤ m ∧ m ≤ 2 ^ 60 ∧ ∀ k H', 0 ≤ k → k < m → ExB a H H' → StO K ns a H' → Q (.int k) H'
/-- a def that draws from the state, its first argument, and tells some flat value -/
def SpS (K : PySem.W.Frag) (n : Nat) (R : List V → V → Prop) : Sp := fun vs H Q _ => ∃ a ns us, vs = .ref a :: us ∧ us.length + 1 = n ∧ StO K ns a H ∧ (∃ v, R us v) ∧ ∀ v H', R us v → ExB a H H' → StO K ns a H' → Q v H'
theorem SpS.len {K : PySem.W.Frag} {n : Nat} {R : List V → V → Prop} {vs : List V} {H : Hp} {Q : VK} {E : XK} (h : SpS K n R vs H Q E) : vs.length = n := by
  obtain ⟨a, ns, us, rfl, h, _⟩ := h
  exact h
section
variable {K : PySem.W.Frag} {ns : List Int} {a : Addr} {σ : L2.St} {H H' : Hp} {ta tb te : TE} {P P1 P2 : V → Prop} {v : V} {r : R2}
theorem EvS.mono (e : ExB a H H') (h : EvS K ns a te σ H P) : EvS K ns a te σ H' P := fun H1 x s Q q => h H1 (e.trans x) s Q q
theorem EvS.imp (h : EvS K ns a te σ H P1) (hi : ∀ v, P1 v → P2 v) : EvS K ns a te σ H P2 := fun H1 e s Q q => h H1 e s Q fun v H2 e2 s2 p => q v H2 e2 s2 (hi v p)
theorem es_of (h : ∀ H1, ExB a H H1 → Ev te σ H1 v) (p : P v) : EvS K ns a te σ H P := fun H1 e s Q q => h H1 e H1 (Ex.refl _) Q fun H2 e2 => q v H2 (.of e2) (s.mono e2) p
theorem es_op (ha : EvS K ns a ta σ H P1) (hb : EvS K ns a tb σ H P2) (hr : ∀ x y, P1 x → P2 y → ∃ z, (∀ H, RV r x y H z) ∧ P z) : EvS K ns a (tOp r ta tb) σ H P := fun H1 e s Q q =>
  ha H1 e s _ fun x H2 e2 s2 p1 => hb H2 (e.trans e2) s2 _ fun y H3 e3 s3 p2 => by
    obtain ⟨z, hz, pz⟩ := hr x y p1 p2
    exact hz H3 H3 (Ex.refl _) Q fun H4 e4 => q z H4 ((e2.trans e3).trans (.of e4)) (s3.mono e4) pz
theorem esa_nil : EvSA K ns a tNil σ H (fun vs => vs = []) := fun H1 e s Q q => q [] H1 (ExB.refl _ _) s rfl
theorem esa_cons {tr : TA} {PS : List V → Prop} (h : EvS K ns a ta σ H P1) (hr : EvSA K ns a tr σ H PS) : EvSA K ns a (tCons ta tr) σ H (fun vs => ∃ v us, vs = v :: us ∧ P1 v ∧ PS us) := fun H1 e s Q q =>
  h H1 e s _ fun v H2 e2 s2 p => hr H2 (e.trans e2) s2 _ fun us H3 e3 s3 ps => q _ H3 (e2.trans e3) s3 ⟨v, us, rfl, p, ps⟩
theorem es_drawn {i : Nat} {m : Int} {E : XK} (hi : σ[i]? = some (some (.ref a))) (h : EvS K ns a ta σ H fun v => v = .int m) (h1 : 1 ≤ m) (h2 : m ≤ 2 ^ 60) : EvS K ns a (tCall (spDrawn K) [] E (tCons (tVar i) (tCons ta tNil))) σ H (fun v => ∃ k, v = .int k ∧ 0 ≤ k ∧ k < m) := fun H1 e s Q q =>
  ⟨.ref a, hi, h H1 e s _ fun v H2 e2 s2 p => ⟨a, m, ns, by rw [p]; rfl, s2, h1, h2, fun k H3 k0 k1 e3 s3 => q _ H3 (e2.trans e3) s3 ⟨k, rfl, k0, k1⟩⟩⟩
/-- the same where the bound itself is drawn -/
theorem es_drawnP {i : Nat} {E : XK} (hi : σ[i]? = some (some (.ref a))) (h : EvS K ns a ta σ H P1) (hm : ∀ v, P1 v → ∃ m, v = .int m ∧ 1 ≤ m ∧ m ≤ 2 ^ 60) : EvS K ns a (tCall (spDrawn K) [] E (tCons (tVar i) (tCons ta tNil))) σ H (fun v => ∃ k m, v = .int k ∧ 0 ≤ k ∧ k < m ∧ P1 (.int m)) := fun H1 e s Q q =>
  ⟨.ref a, hi, h H1 e s _ fun v H2 e2 s2 p => by
    obtain ⟨m, rfl, h1, h2⟩ := hm v p
    exact ⟨a, m, ns, rfl, s2, h1, h2, fun k H3 k0 k1 e3 s3 => q _ H3 (e2.trans e3) s3 ⟨k, m, rfl, k0, k1, p⟩⟩⟩
theorem es_call {n : Nat} {i : Nat} {R : List V → V → Prop} {E : XK} {tr : TA} {PS : List V → Prop} (hi : σ[i]? = some (some (.ref a))) (h : EvSA K ns a tr σ H PS) (hR : ∀ us, PS us → us.length + 1 = n ∧ ∃ v, R us v) :
    EvS K ns a (tCall (SpS K n R) [] E (tCons (tVar i) tr)) σ H (fun v => ∃ us, PS us ∧ R us v) := fun H1 e s Q q =>
  ⟨.ref a, hi, h H1 e s _ fun us H2 e2 s2 p => ⟨a, ns, us, by rw [List.append_nil], (hR us p).1, s2, (hR us p).2, fun v H3 hv e3 s3 => q v H3 (e2.trans e3) s3 ⟨us, p, hv⟩⟩⟩
/-- [e, ..][i] -/
theorem es_pick {tr : TA} {n : Nat} {PS : List V → Prop} (h : EvSA K ns a tr σ H PS) (hn : ∀ us, PS us → us.length = n ∧ ∀ v ∈ us, P v) (hz : n ≤ 1000) (hi : EvS K ns a tb σ H fun v => ∃ k, v = .int k ∧ 0 ≤ k ∧ k < (n : Int)) :
    EvS K ns a (tOp (rIxL K) (tLst tr) tb) σ H P := fun H1 e s Q q =>
  h H1 e s _ fun us H2 e2 s2 p => ⟨by rw [(hn us p).1]; exact sz_of (by omega), fun l hl => by
    have ela : Ex H2 (upd H2 l (.lst us)) := Ex.new hl
    refine hi _ ((e.trans e2).trans (.of ela)) (s2.mono ela) _ fun k H3 e3 s3 pk => ?_
    obtain ⟨k, rfl, k0, k1⟩ := pk
    have hla : l ≠ a := fun z => by
      obtain ⟨_, _, _, _, h1, _⟩ := s2.ex
      rw [z, h1] at hl
      cases hl
    have hlen := (hn us p).1
    have hk : k.toNat < us.length := by omega
    refine ⟨l, us, k, us[k.toNat], rfl, rfl, sq_of (e3 l _ hla upd_same), ?_, q _ H3 (e2.trans ((ExB.of ela).trans e3)) s3 ((hn us p).2 _ (List.getElem_mem hk))⟩
    have := atI_nat (xs := us) (j := k.toNat) (List.getElem?_eq_getElem hk)
    rw [Int.toNat_of_nonneg k0] at this
    exact this⟩
/-- xs[i], xs a list that stands -/
theorem es_ixL {l : Addr} {xs : List V} (hl : H l = some (.lst xs)) (hla : l ≠ a) (h : ∀ H1, ExB a H H1 → Ev ta σ H1 (.ref l)) (hP : ∀ v ∈ xs, P v) (hi : EvS K ns a tb σ H fun v => ∃ k, v = .int k ∧ 0 ≤ k ∧ k < (xs.length : Int)) :
    EvS K ns a (tOp (rIxL K) ta tb) σ H P := fun H1 e s Q q =>
  h H1 e H1 (Ex.refl _) _ fun H2 e2 => hi H2 (e.trans (.of e2)) (s.mono e2) _ fun k H3 e3 s3 pk => by
    obtain ⟨k, rfl, k0, k1⟩ := pk
    have hk : k.toNat < xs.length := by omega
    refine ⟨l, xs, k, xs[k.toNat], rfl, rfl, sq_of (e3 l _ hla (e2 _ _ (e l _ hla hl))), ?_, q _ H3 ((ExB.of e2).trans e3) s3 (hP _ (List.getElem_mem hk))⟩
    have := atI_nat (xs := xs) (j := k.toNat) (List.getElem?_eq_getElem hk)
    rw [Int.toNat_of_nonneg k0] at this
    exact this
/-- a text at a drawn place -/
theorem es_ixS {l : List Nat} (h : ∀ H1, ExB a H H1 → Ev ta σ H1 (.str (S l))) (hz : l.length ≤ 1000) (hi : EvS K ns a tb σ H fun v => ∃ k, v = .int k ∧ 0 ≤ k ∧ k < (l.length : Int)) :
    EvS K ns a (tOp rIxS ta tb) σ H (fun v => ∃ c ∈ l, v = .str (S [c])) := fun H1 e s Q q =>
  h H1 e H1 (Ex.refl _) _ fun H2 e2 => hi H2 (e.trans (.of e2)) (s.mono e2) _ fun k H3 e3 s3 pk => by
    obtain ⟨k, rfl, k0, k1⟩ := pk
    have hk : k.toNat < l.length := by omega
    refine ⟨S l, k, l[k.toNat], rfl, rfl, by rw [S_len]; exact sz_of (by omega), ?_, q _ H3 ((ExB.of e2).trans e3) s3 ⟨_, List.getElem_mem hk, rfl⟩⟩
    have := atI_nat (xs := l) (j := k.toNat) (List.getElem?_eq_getElem hk)
    rw [Int.toNat_of_nonneg k0] at this
    exact this
/-- e[:n], both drawn -/
theorem es_to (ha : EvS K ns a ta σ H P1) (hb : EvS K ns a tb σ H P2) (hP : ∀ x y, P1 x → P2 y → ∃ (l : List Nat) (n : Nat), x = .str (S l) ∧ y = .int (n : Int) ∧ l.length ≤ 100000 ∧ P (.str (S (l.take n)))) : EvS K ns a (tSl rSlS ta tNoPart (tPart tb)) σ H P := fun H1 e s Q q =>
  ha H1 e s _ fun x H2 e2 s2 p1 => hb H2 (e.trans e2) s2 _ fun y H3 e3 s3 p2 => by
    obtain ⟨l, n, rfl, rfl, hl, hp⟩ := hP x y p1 p2
    exact ⟨n, rfl, S l, rfl, by rw [S_len]; exact sz_of hl, by rw [cut_to]; exact q _ H3 (e2.trans e3) s3 hp⟩
/-- a built-in of two values -/
theorem es_cb2 {r : List V → Hp → VK → Prop} (ha : EvS K ns a ta σ H P1) (hb : EvS K ns a tb σ H P2) (hr : ∀ x y, P1 x → P2 y → ∃ z, P z ∧ ∀ H (Q : VK), Q z H → r [x, y] H Q) : EvS K ns a (tCB r (tCons ta (tCons tb tNil))) σ H P := fun H1 e s Q q =>
  ha H1 e s _ fun x H2 e2 s2 p1 => hb H2 (e.trans e2) s2 _ fun y H3 e3 s3 p2 => by
    obtain ⟨z, hz, hr⟩ := hr x y p1 p2
    exact hr H3 Q (q z H3 (e2.trans e3) s3 hz)
/-! ### statements -/
variable {D' : Ends} {tz tu tw : TS}
theorem qs_if {t : TE} (h : EvS K ns a t σ H fun v => ∃ b, v = .bl b) (s : StO K ns a H) (h1 : ∀ H1, ExB a H H1 → StO K ns a H1 → tu { D' with nx := tz D' } σ H1) (h2 : ∀ H1, ExB a H H1 → StO K ns a H1 → tw { D' with nx := tz D' } σ H1) :
    tSeq (tIfS (tTest t) tu tw) tz D' σ H := h H (ExB.refl _ _) s _ fun v H1 e1 s1 p => by
  obtain ⟨b, rfl⟩ := p
  refine ⟨b, rfl, ?_⟩
  cases b with
  | true =>
    show tu _ σ H1
    exact h1 H1 e1 s1
  | false =>
    show tw _ σ H1
    exact h2 H1 e1 s1
theorem ss_if {t : TE} (h : EvS K ns a t σ H fun v => ∃ b, v = .bl b) (s : StO K ns a H) (h1 : ∀ H1, ExB a H H1 → StO K ns a H1 → tu D' σ H1) (h2 : ∀ H1, ExB a H H1 → StO K ns a H1 → tw D' σ H1) :
    tIfS (tTest t) tu tw D' σ H := h H (ExB.refl _ _) s _ fun v H1 e1 s1 p => by
  obtain ⟨b, rfl⟩ := p
  refine ⟨b, rfl, ?_⟩
  cases b with
  | true =>
    show tu _ σ H1
    exact h1 H1 e1 s1
  | false =>
    show tw _ σ H1
    exact h2 H1 e1 s1
theorem ss_setL {p : Addr} {xs : List V} {j : Nat} {ti : TE} (hp : H p = some (.lst xs)) (hpa : p ≠ a) (h : EvS K ns a te σ H P) (ho : ∀ H1, ExB a H H1 → Ev ta σ H1 (.ref p)) (hi : ∀ H1, ExB a H H1 → Ev ti σ H1 (.int (j : Int))) (hj : j < xs.length) (s : StO K ns a H)
    (k : ∀ v H1, ExB a H H1 → StO K ns a H1 → P v → H1 p = some (.lst xs) → D'.nx σ (upd H1 p (.lst (xs.set j v)))) : tAsg te (gSub ta ti rSetL) D' σ H := h H (ExB.refl _ _) s _ fun v H1 e1 s1 pv =>
  ho H1 e1 H1 (Ex.refl _) _ fun H2 e2 => hi H2 (e1.trans (.of e2)) H2 (Ex.refl _) _ fun H3 e3 => by
    have hp3 := (e2.trans e3) _ _ (e1 p _ hpa hp)
    exact ⟨p, xs, (j : Int), j, rfl, rfl, hp3, ixN_nat hj, k v H3 (e1.trans (.of (e2.trans e3))) (s1.mono (e2.trans e3)) pv hp3⟩
/-- x = sorted([d, e]) -/
theorem qs_sort2 {i : Nat} {m : Int} (hd : EvS K ns a ta σ H fun v => ∃ k, v = .int k ∧ 0 ≤ k ∧ k < m) (he : EvS K ns a tb σ H fun v => ∃ k, v = .int k ∧ 0 ≤ k ∧ k < m) (s : StO K ns a H)
    (k : ∀ u v p H1, 0 ≤ u → u ≤ v → v < m → H p = none → p ≠ a → ExB a H H1 → StO K ns a H1 → H1 p = some (.lst [.int u, .int v]) → tz D' (σ.set i (some (.ref p))) H1) :
    tSeq (tAsg (tCB (rSorted K) (tCons (tLst (tCons ta (tCons tb tNil))) tNil)) (gName i)) tz D' σ H :=
  hd H (ExB.refl _ _) s _ fun x H1 x1 s1 p1 => he H1 x1 s1 _ fun y H2 x2 s2 p2 => by
    obtain ⟨k1, rfl, k10, k11⟩ := p1
    obtain ⟨k2, rfl, k20, k21⟩ := p2
    refine ⟨by show 2 ≤ sizeLine; decide, fun l0 hl0 => ⟨l0, [k1, k2], rfl, sq_of upd_same, by show 2 < 64; decide, fun ms p hperm hpair hp => ?_⟩⟩
    have hl := hperm.length_eq
    match ms, hl with
    | [u, v], _ =>
      have h1 : u ∈ [k1, k2] := hperm.mem_iff.mp List.mem_cons_self
      have h2 : v ∈ [k1, k2] := hperm.mem_iff.mp (List.mem_cons_of_mem _ List.mem_cons_self)
      have h3 : u ≤ v := (List.pairwise_cons.mp hpair).1 v List.mem_cons_self
      have h1 : u = k1 ∨ u = k2 := by simpa using h1
      have h2 : v = k1 ∨ v = k2 := by simpa using h2
      have e1 : Ex H2 (L2.upd H2 l0 (.lst [V.int k1, V.int k2])) := Ex.new hl0
      have s3 := s2.mono e1
      have hpa : p ≠ a := fun z => by
        obtain ⟨_, _, _, _, h1, _⟩ := s3.ex
        rw [z, h1] at hp
        cases hp
      have hpn : H p = none := by
        cases hH : H p with
        | none => rfl
        | some o =>
          have := e1 _ _ (x2 p o hpa (x1 p o hpa hH))
          rw [hp] at this
          cases this
      exact k u v p _ (by omega) h3 (by omega) hpn hpa ((x1.trans x2).trans (.of (e1.trans (Ex.new hp)))) (s3.mono (Ex.new hp)) upd_same
theorem qs_asg {i : Nat} (h : EvS K ns a te σ H P) (s : StO K ns a H) (k : ∀ v H1, ExB a H H1 → StO K ns a H1 → P v → tz D' (σ.set i (some v)) H1) : tSeq (tAsg te (gName i)) tz D' σ H := h H (ExB.refl _ _) s _ k
theorem ss_asg {i : Nat} (h : EvS K ns a te σ H P) (s : StO K ns a H) (k : ∀ v H1, ExB a H H1 → StO K ns a H1 → P v → D'.nx (σ.set i (some v)) H1) : tAsg te (gName i) D' σ H := h H (ExB.refl _ _) s _ k
theorem ss_ret (h : EvS K ns a te σ H P) (s : StO K ns a H) (k : ∀ v H1, ExB a H H1 → StO K ns a H1 → P v → D'.rt v H1) : tRet te D' σ H := h H (ExB.refl _ _) s _ k
/-- for i in range(e), e drawn, at most B -/
theorem qs_forR {j B : Nat} (hB : B ≤ 1000) (h : EvS K ns a te σ H fun v => ∃ k, v = .int k ∧ 0 ≤ k ∧ k ≤ (B : Int)) (s : StO K ns a H) (Pv : Nat → L2.St → Hp → Prop) (h0 : ∀ H1, ExB a H H1 → StO K ns a H1 → Pv 0 σ H1)
    (hs : ∀ (i : Nat) σ' H', i < B → Pv i σ' H' → tu { D' with nx := Pv (i + 1), ct := Pv (i + 1), bk := tz D' } (σ'.set j (some (.int (i : Int)))) H')
    (hd : ∀ n σ' H', n ≤ B → Pv n σ' H' → tz D' σ' H') : tSeq (tFor (iRng1 (tCons te tNil)) (gName j) tu) tz D' σ H :=
  h H (ExB.refl _ _) s _ fun v H1 e s1 p => by
    obtain ⟨k, rfl, k0, k1⟩ := p
    exact ⟨k, rfl, by omega, by omega, for_range (lo := 0) (n := k.toNat) Pv (h0 H1 e s1) (fun i σ' H' hi p => by
      have e0 : (0 : Int) + (i : Int) = (i : Int) := Int.zero_add _
      show tu _ (σ'.set j (some (.int ((0 : Int) + (i : Int))))) H'
      rw [e0]
      exact hs i σ' H' (by omega) p) fun σ' H' p => hd _ σ' H' (by omega) p⟩
/-! ### tests that draw -/
def EvB (K : PySem.W.Frag) (ns : List Int) (a : Addr) (tt : TT) (σ : L2.St) (H : Hp) (PB : Bool → Prop) : Prop :=
  ∀ H1, ExB a H H1 → StO K ns a H1 → ∀ Q : Bool → Hp → Prop, (∀ b H2, ExB a H1 H2 → StO K ns a H2 → PB b → Q b H2) → tt σ H1 Q
theorem eb_test {t : TE} {PB : Bool → Prop} (h : EvS K ns a t σ H fun v => ∃ b, v = .bl b ∧ PB b) : EvB K ns a (tTest t) σ H PB := fun H1 e s Q q =>
  h H1 e s _ fun v H2 e2 s2 ⟨b, hv, pb⟩ => ⟨b, hv, q b H2 e2 s2 pb⟩
theorem eb_of {t : TT} {b : Bool} (h : ∀ H1, ExB a H H1 → EvT t σ H1 b) : EvB K ns a t σ H (fun c => c = b) := fun H1 e s Q q =>
  h H1 e H1 (Ex.refl _) _ fun H2 e2 => q b H2 (.of e2) (s.mono e2) rfl
theorem eb_and {t u : TT} {P1 P2 : Bool → Prop} (h1 : EvB K ns a t σ H P1) (h2 : EvB K ns a u σ H P2) : EvB K ns a (tAnd t u) σ H (fun b => b = true → P1 true ∧ P2 true) := fun H1 e s Q q =>
  h1 H1 e s _ fun b H2 e2 s2 pb => by
    cases b with
    | true =>
      show u σ H2 Q
      exact h2 H2 (e.trans e2) s2 Q fun c H3 e3 s3 pc => q c H3 (e2.trans e3) s3 fun hc => ⟨pb, by rw [← hc]; exact pc⟩
    | false =>
      show Q false H2
      exact q false H2 e2 s2 fun z => by cases z
theorem eb_or {t u : TT} {P1 P2 : Bool → Prop} (h1 : EvB K ns a t σ H P1) (h2 : EvB K ns a u σ H P2) : EvB K ns a (tOr t u) σ H (fun _ => True) := fun H1 e s Q q =>
  h1 H1 e s _ fun b H2 e2 s2 pb => by
    cases b with
    | true =>
      show Q true H2
      exact q true H2 e2 s2 trivial
    | false =>
      show u σ H2 Q
      exact h2 H2 (e.trans e2) s2 Q fun c H3 e3 s3 pc => q c H3 (e2.trans e3) s3 trivial
theorem sb_if {t : TT} {PB : Bool → Prop} (h : EvB K ns a t σ H PB) (s : StO K ns a H) (h1 : PB true → ∀ H1, ExB a H H1 → StO K ns a H1 → tu D' σ H1) (h2 : PB false → ∀ H1, ExB a H H1 → StO K ns a H1 → tw D' σ H1) :
    tIfS t tu tw D' σ H := h H (ExB.refl _ _) s _ fun b H1 e1 s1 pb => by
  cases b with
  | true =>
    show tu _ σ H1
    exact h1 pb H1 e1 s1
  | false =>
    show tw _ σ H1
    exact h2 pb H1 e1 s1
/-! ### a list made by draws -/
theorem es_lcJoin {j B : Nat} {ws : List Nat} {PN : Int → Prop} {Pc : Nat → Prop} {tn : TE} (hB : B ≤ 1000) (hn : EvS K ns a tn σ H fun v => ∃ k, v = .int k ∧ 0 ≤ k ∧ k ≤ (B : Int) ∧ PN k) (hw : ∀ x, wipe ((wipe σ ws).set j (some x)) ws = wipe σ ws)
    (he : ∀ x, EvS K ns a te ((wipe σ ws).set j (some x)) H fun v => ∃ c, Pc c ∧ v = .str (S [c])) :
    EvS K ns a (tM1 (fun x xs H Q => ∃ a p, ∃ ys : List Str, x = .str a ∧ xs = [.ref p] ∧ (SqL K H p (ys.map V.str) ∨ SqT K H p (ys.map V.str)) ∧ (ys.map (·.length)).sum + ys.length * a.length ≤ 16777216 ∧ Q (.str (Txt.join a ys)) H) (tC (.str (Str.ofString ""))) (tLc (iRng1 (tCons tn tNil)) (gName j) tYes te ws)) σ H
      (fun v => ∃ l : List Nat, v = .str (S l) ∧ (∀ c ∈ l, Pc c) ∧ PN (l.length : Int)) := fun H1 e s Q q =>
  ⟨⟨_, rfl⟩, hn H1 e s _ fun v H2 e2 s2 pv => by
    obtain ⟨k, rfl, k0, k1, pk⟩ := pv
    refine ⟨k, rfl, by omega, by omega, fun Dl hD => ?_⟩
    have hDa : Dl ≠ a := fun z => by
      obtain ⟨_, _, _, _, h1, _⟩ := s2.ex
      rw [z, h1] at hD
      cases hD
    have mutD : ∀ {H3 : Hp} {o : HO}, ExB a H2 H3 → ExB a H2 (L2.upd H3 Dl o) := fun x b o n hb => by
      rw [upd_ne (ne_of_none hb hD)]
      exact x b o n hb
    refine lc_range (lo := 0) (n := k.toNat) (fun i H' => ∃ l : List Nat, l.length = i ∧ (∀ c ∈ l, Pc c) ∧ ExB a H2 H' ∧ StO K ns a H' ∧ H' Dl = some (.lst (l.map fun c => V.str (S [c])))) ⟨[], rfl, (fun c hc => by cases hc), .of (Ex.new hD), s2.mono (Ex.new hD), upd_same⟩ ?_ ?_
    · rintro i H' hi ⟨l, hl, hp, x, s', hd⟩
      refine ⟨hw _, ?_⟩
      show te _ H' _
      refine he _ H' ((e.trans e2).trans x) s' _ fun y H4 e4 s4 py => ?_
      obtain ⟨c, hc, rfl⟩ := py
      have hd4 := e4 _ _ hDa hd
      refine ⟨_, hd4, ?_, l ++ [c], by rw [List.length_append, hl]; rfl, ?_, mutD (x.trans e4), s4.upd hd4 hDa, ?_⟩
      · rw [List.length_map]
        exact sz_lt (by omega)
      · intro c' hc'
        rcases List.mem_append.mp hc' with h | h
        · exact hp c' h
        · rw [List.mem_singleton.mp h]; exact hc
      · rw [List.map_append]
        exact upd_same
    · rintro H' ⟨l, hl, hp, x, s', hd⟩
      have hflat : ∀ l : List Nat, Txt.join (S []) ((l.map fun c => [c]).map S) = S l := fun l => by
        rw [join_S]
        refine congrArg S ?_
        induction l with
        | nil => rfl
        | cons c r ih =>
          cases r with
          | nil => rfl
          | cons d r =>
            show [c] ++ ([] ++ TL.joinL [] ((d :: r).map fun c => [c])) = c :: d :: r
            rw [ih]
            rfl
      have hsum : ∀ l : List Nat, (((l.map fun c => [c]).map S).map (·.length)).sum = l.length := fun l => by
        rw [lens]
        induction l with
        | nil => rfl
        | cons c r ih =>
          rw [List.map_cons, List.map_cons, List.sum_cons, ih, List.length_cons]
          show 1 + r.length = r.length + 1
          omega
      refine ⟨S [], Dl, (l.map fun c => [c]).map S, rfl, rfl, .inl (sq_of ?_), ?_, ?_⟩
      · rw [hd, List.map_map, List.map_map]
        rfl
      · rw [hsum, S_len]
        show l.length + _ * 0 ≤ _
        omega
      · rw [hflat]
        exact q _ H' (e2.trans x) s' ⟨l, rfl, hp, by rw [hl, Int.toNat_of_nonneg k0]; exact pk⟩⟩
/-! ### a plain def called with drawn values; a drawn item of a list -/
theorem qs_callR {i n : Nat} {R : List D → D → Prop} {E : XK} {tr : TA} {PS : List V → Prop} {Pd : D → Prop} (h : EvSA K ns a tr σ H PS) (hR : ∀ us, PS us → ∃ ds d, ds.length = n ∧ (∀ H, Rps H ds us) ∧ R ds d ∧ Pd d) (s : StO K ns a H)
    (k : ∀ d v H1, Pd d → ExB a H H1 → StO K ns a H1 → Rp H1 d v → tz D' (σ.set i (some v)) H1) : tSeq (tAsg (tCall (SpR n R) [] E tr) (gName i)) tz D' σ H := h H (ExB.refl _ _) s _ fun us H1 e1 s1 ps => by
  obtain ⟨ds, d, h1, h2, h3, h4⟩ := hR us ps
  exact ⟨ds, d, h1, by rw [List.append_nil]; exact h2 H1, h3, fun v H2 e2 r2 => k d v H2 h4 (e1.trans (.of e2)) (s1.mono e2) r2⟩
theorem ss_retPick {tr : TA} {ds : List D} (h : EvDA tr σ H ds) (hn : nls ds = true) (hl : ds.length ≤ 1000) (hi : EvS K ns a tb σ H fun v => ∃ k, v = .int k ∧ 0 ≤ k ∧ k < (ds.length : Int)) (s : StO K ns a H)
    (k : ∀ d ∈ ds, ∀ v H1, ExB a H H1 → StO K ns a H1 → Rp H1 d v → D'.rt v H1) : tRet (tOp (rIxL K) (tLst tr) tb) D' σ H := h H (Ex.refl _) _ fun vs H1 e1 rs => by
  have hvl := rps_len rs
  refine ⟨by rw [hvl]; exact sz_of (by omega), fun l hl0 => ?_⟩
  have ela : Ex H1 (L2.upd H1 l (.lst vs)) := Ex.new hl0
  have s2 := (s.mono e1).mono ela
  have hla : l ≠ a := fun z => by
    obtain ⟨_, _, _, _, h1, _⟩ := (s.mono e1).ex
    rw [z, h1] at hl0
    cases hl0
  refine hi _ ((ExB.of e1).trans (.of ela)) s2 _ fun v H3 e3 s3 pk => ?_
  obtain ⟨j, rfl, k0, k1⟩ := pk
  have hk : j.toNat < ds.length := by omega
  have hk2 : j.toNat < vs.length := by omega
  obtain ⟨w, hw, rw'⟩ := rps_get rs (List.getElem?_eq_getElem hk)
  refine ⟨l, vs, j, w, rfl, rfl, sq_of (e3 l _ hla upd_same), ?_, k _ (List.getElem_mem hk) w H3 ((ExB.of e1).trans ((ExB.of ela).trans e3)) s3 ?_⟩
  · have := atI_nat (xs := vs) (j := j.toNat) hw
    rw [Int.toNat_of_nonneg k0] at this
    exact this
  · have hnl : nl ds[j.toNat] = true := by
      have : ∀ {ds : List D}, nls ds = true → ∀ d ∈ ds, nl d = true := by
        intro ds
        induction ds with
        | nil => intro _ d hd; cases hd
        | cons x xs ih =>
          intro h d hd
          rw [nls, Bool.and_eq_true] at h
          rcases List.mem_cons.mp hd with rfl | hd
          · exact h.1
          · exact ih h.2 d hd
      exact this hn _ (List.getElem_mem hk)
    exact Rp.tx (e3.tx s2) hnl (rw'.ex ela)
/-- p, q = xs[i], the list one of pairs of numbers -/
theorem qs_ix2 {i p q : Nat} {w2 : V} {xs : List (Nat × Nat)} (hr : Rp H (.lst (xs.map fun x => .tup [.int x.1, .int x.2])) w2) (hv : σ[i]? = some (some w2)) (hi : EvS K ns a tb σ H fun v => ∃ k, v = .int k ∧ 0 ≤ k ∧ k < (xs.length : Int)) (s : StO K ns a H)
    (k : ∀ x ∈ xs, ∀ H1, ExB a H H1 → StO K ns a H1 → tz D' ((σ.set p (some (.int (x.1 : Nat)))).set q (some (.int (x.2 : Nat)))) H1) :
    tSeq (tAsg (tOp (rIxL K) (tVar i) tb) (gTup K 2 (gCons (gName p) (gCons (gName q) gNil)))) tz D' σ H := ⟨w2, hv, hi H (ExB.refl _ _) s _ fun v H1 e1 s1 pk => by
  obtain ⟨j, rfl, k0, k1⟩ := pk
  have hk : j.toNat < xs.length := by omega
  have hr1 := s.keep e1 hr (fun d hd => by obtain ⟨y, _, rfl⟩ := List.mem_map.mp hd; exact ⟨_, rfl⟩) (nls_all fun d hd => by obtain ⟨y, _, rfl⟩ := List.mem_map.mp hd; rfl)
  obtain ⟨l, vs, rfl, h1, h2⟩ := rp_lst.mp hr1
  obtain ⟨w, hw, rw'⟩ := rps_get (i := j.toNat) (d := .tup [.int xs[j.toNat].1, .int xs[j.toNat].2]) h2 (by rw [List.getElem?_map, List.getElem?_eq_getElem hk]; rfl)
  obtain ⟨T, x1, y1, rfl, hT, rx, ry⟩ := rp_two rw'
  obtain rfl := rp_int.mp rx
  obtain rfl := rp_int.mp ry
  refine ⟨l, vs, j, .ref T, rfl, rfl, sq_of h1, ?_, T, _, rfl, st_of hT, rfl, _, _, rfl, _, _, rfl, rfl, k _ (List.getElem_mem hk) H1 e1 s1⟩
  have := atI_nat (xs := vs) (j := j.toNat) hw
  rw [Int.toNat_of_nonneg k0] at this
  exact this⟩
end
/-! ### lists that are new -/
def Fr (H : Hp) (d : D) (v : V) : Prop := ∀ ds, d = .lst ds → ∃ p, v = .ref p ∧ H p = none
theorem Fr.back {H H' : Hp} {d : D} {v : V} (e : Ex H H') (h : Fr H' d v) : Fr H d v := fun ds hd => by
  obtain ⟨p, hv, hp⟩ := h ds hd
  exact ⟨p, hv, fresh_back e hp⟩
theorem Fr.non {H : Hp} {v : V} : Fr H .non v := fun ds hd => by cases hd
theorem Fr.tup {H : Hp} {v : V} {ds : List D} : Fr H (.tup ds) v := fun ds hd => by cases hd
def EvF (te : TE) (σ : L2.St) (H : Hp) (d : D) : Prop := ∀ H1, Ex H H1 → ∀ Q : VK, (∀ v H2, Ex H1 H2 → Rp H2 d v → Fr H1 d v → Q v H2) → te σ H1 Q
def SpF (n : Nat) (R : List D → D → Prop) : Sp := fun vs H Q _ => ∃ ds d, ds.length = n ∧ Rps H ds vs ∧ R ds d ∧ ∀ v H', Ex H H' → Rp H' d v → Fr H d v → Q v H'
theorem SpF.len {n : Nat} {R : List D → D → Prop} {vs : List V} {H : Hp} {Q : VK} {E : XK} (h : SpF n R vs H Q E) : vs.length = n := by
  obtain ⟨ds, d, h1, h2, _⟩ := h
  rw [rps_len h2, h1]
section
variable {K : PySem.W.Frag} {σ : L2.St} {H H' : Hp} {ta tb te tx : TE} {t u : TT} {d e : D} {ds : List D} {D' : Ends} {tz : TS}
theorem EvF.ed (h : EvF te σ H d) : EvD te σ H d := fun H1 e Q q => h H1 e Q fun v H2 e2 r _ => q v H2 e2 r
theorem ef_n (h : EvD te σ H .non) : EvF te σ H .non := fun H1 e Q q => h H1 e Q fun v H2 e2 r => q v H2 e2 r .non
theorem ef_t {ds : List D} (h : EvD te σ H (.tup ds)) : EvF te σ H (.tup ds) := fun H1 e Q q => h H1 e Q fun v H2 e2 r => q v H2 e2 r .tup
theorem ef_call {n : Nat} {R : List D → D → Prop} {E : XK} {ta : TA} (h : EvDA ta σ H ds) (hR : R ds d) (hn : ds.length = n := by rfl) : EvF (tCall (SpF n R) [] E ta) σ H d := fun H1 e Q q =>
  h H1 e _ fun vs H2 e2 rs => ⟨ds, d, hn, by rw [List.append_nil]; exact rs, hR, fun v H3 e3 r f => q v H3 (e2.trans e3) r (f.back e2)⟩
theorem sf_ret (h : EvF te σ H d) (k : ∀ v H1, Ex H H1 → Rp H1 d v → Fr H d v → D'.rt v H1) : tRet te D' σ H := h H (Ex.refl H) _ k
theorem qf_asg {i : Nat} (h : EvF te σ H d) (k : ∀ v H1, Ex H H1 → Rp H1 d v → Fr H d v → tz D' (σ.set i (some v)) H1) : tSeq (tAsg te (gName i)) tz D' σ H := h H (Ex.refl H) _ k
theorem ef_lst {ta : TA} (h : EvDA ta σ H ds) (hl : ds.length ≤ 100000 := by simp) : EvF (tLst ta) σ H (.lst ds) := fun H1 e _ q =>
  h H1 e _ fun vs H2 e2 rs => ⟨sz_of (by rw [rps_len rs]; exact hl), fun p hp => q _ _ (e2.trans (Ex.new hp)) (rp_lst.mpr ⟨p, vs, rfl, upd_same, rs.ex (Ex.new hp)⟩) fun _ _ => ⟨p, rfl, fresh_back e2 hp⟩⟩
theorem ef_lc {wi : TI} {n j : Nat} {dy : Nat → D} {ws : List Nat} (f : Nat → Bool) (dv : Nat → D) (h : EvI wi σ H n dy) (hz : n ≤ 40000) (hnl : ∀ i, nl (dv i) = true) (hw : ∀ x, wipe ((wipe σ ws).set j (some x)) ws = wipe σ ws)
    (ht : ∀ (i : Nat) (x : V) H1, i < n → Ex H H1 → Rp H1 (dy i) x → EvT t ((wipe σ ws).set j (some x)) H1 (f i)) (he : ∀ (i : Nat) (x : V) H1, i < n → Ex H H1 → Rp H1 (dy i) x → f i = true → EvD te ((wipe σ ws).set j (some x)) H1 (dv i)) :
    EvF (tLc wi (gName j) t te ws) σ H (.lst (picked n f dv)) := fun H0 e Q q => h H0 e _ fun J H1 G Y e1 W hG hY Dl hD =>
  lc_it W (fun i H' => ∃ vs, Ex H1 H' ∧ H' Dl = some (.lst vs) ∧ Rps H' (picked i f dv) vs) ⟨[], Ex.new hD, upd_same, rps_nil.mpr rfl⟩ (fun i H' hi ⟨_, p, _⟩ => hG H' p)
    (fun i x H' H'' hi ⟨vs, p1, p2, p3⟩ hy => by
      obtain ⟨ey, ry⟩ := hY i H' x H'' hi p1 hy
      refine ⟨hw x, ht i x H'' hi ((e.trans e1).trans (p1.trans ey)) ry H'' (Ex.refl _) _ fun H3 e3 => ?_⟩
      have p12 := p1.trans (ey.trans e3)
      cases hf : f i with
      | true =>
        show te _ H3 _
        refine he i x H'' hi ((e.trans e1).trans (p1.trans ey)) ry hf H3 e3 _ fun y H4 e4 ry4 => ⟨vs, e4 Dl _ (e3 Dl _ (ey Dl _ p2)), ?_, vs ++ [y], Ex.mut (p12.trans e4) hD, upd_same, ?_⟩
        · have := picked_len i f dv
          rw [rps_len p3]
          exact sz_lt (by omega)
        · rw [picked_yes hf]
          have tx : Tx H4 (upd H4 Dl (.lst (vs ++ [y]))) := Tx.lst (e4 Dl _ (e3 Dl _ (ey Dl _ p2)))
          refine rps_app (Rps.tx tx (nls_all fun d hd => ?_) (p3.ex (ey.trans (e3.trans e4)))) (rps_cons.mpr ⟨y, [], rfl, Rp.tx tx (hnl i) ry4, rps_nil.mpr rfl⟩)
          unfold picked at hd
          obtain ⟨k, _, rfl⟩ := List.mem_map.mp hd
          exact hnl k
      | false =>
        show ∃ vs, _
        refine ⟨vs, p12, e3 Dl _ (ey Dl _ p2), ?_⟩
        rw [picked_no hf]
        exact p3.ex (ey.trans e3)) fun H' ⟨vs, p1, p2, p3⟩ => q _ H' (e1.trans p1) (rp_lst.mpr ⟨Dl, vs, rfl, p2, p3⟩) fun _ _ => ⟨Dl, rfl, fresh_back e1 hD⟩
theorem ef_lc2 {wi : TI} {n p q : Nat} {d1 d2 : Nat → D} {ws : List Nat} (f : Nat → Bool) (dv : Nat → D) (h : EvI wi σ H n fun i => .tup [d1 i, d2 i]) (hz : n ≤ 40000) (hnl : ∀ i, nl (dv i) = true) (hw : ∀ x y, wipe (((wipe σ ws).set p (some x)).set q (some y)) ws = wipe σ ws)
    (ht : ∀ (i : Nat) (x y : V) H1, i < n → Ex H H1 → Rp H1 (d1 i) x → Rp H1 (d2 i) y → EvT t (((wipe σ ws).set p (some x)).set q (some y)) H1 (f i))
    (he : ∀ (i : Nat) (x y : V) H1, i < n → Ex H H1 → Rp H1 (d1 i) x → Rp H1 (d2 i) y → f i = true → EvD te (((wipe σ ws).set p (some x)).set q (some y)) H1 (dv i)) :
    EvF (tLc wi (gTup K 2 (gCons (gName p) (gCons (gName q) gNil))) t te ws) σ H (.lst (picked n f dv)) := fun H0 e Q q => h H0 e _ fun J H1 G Y e1 W hG hY Dl hD =>
  lc_it W (fun i H' => ∃ vs, Ex H1 H' ∧ H' Dl = some (.lst vs) ∧ Rps H' (picked i f dv) vs) ⟨[], Ex.new hD, upd_same, rps_nil.mpr rfl⟩ (fun i H' hi ⟨_, p, _⟩ => hG H' p)
    (fun i x H' H'' hi ⟨vs, p1, p2, p3⟩ hy => by
      obtain ⟨ey, ry⟩ := hY i H' x H'' hi p1 hy
      obtain ⟨T, x1, y1, rfl, hT, rx1, ry1⟩ := rp_two ry
      refine ⟨T, _, rfl, st_of hT, rfl, _, _, rfl, _, _, rfl, rfl, hw x1 y1, ht i x1 y1 H'' hi ((e.trans e1).trans (p1.trans ey)) rx1 ry1 H'' (Ex.refl _) _ fun H3 e3 => ?_⟩
      have p12 := p1.trans (ey.trans e3)
      cases hf : f i with
      | true =>
        show te _ H3 _
        refine he i x1 y1 H'' hi ((e.trans e1).trans (p1.trans ey)) rx1 ry1 hf H3 e3 _ fun y H4 e4 ry4 => ⟨vs, e4 Dl _ (e3 Dl _ (ey Dl _ p2)), ?_, vs ++ [y], Ex.mut (p12.trans e4) hD, upd_same, ?_⟩
        · have := picked_len i f dv
          rw [rps_len p3]
          exact sz_lt (by omega)
        · rw [picked_yes hf]
          have tx : Tx H4 (upd H4 Dl (.lst (vs ++ [y]))) := Tx.lst (e4 Dl _ (e3 Dl _ (ey Dl _ p2)))
          refine rps_app (Rps.tx tx (nls_all fun d hd => ?_) (p3.ex (ey.trans (e3.trans e4)))) (rps_cons.mpr ⟨y, [], rfl, Rp.tx tx (hnl i) ry4, rps_nil.mpr rfl⟩)
          unfold picked at hd
          obtain ⟨k, _, rfl⟩ := List.mem_map.mp hd
          exact hnl k
      | false =>
        show ∃ vs, _
        refine ⟨vs, p12, e3 Dl _ (ey Dl _ p2), ?_⟩
        rw [picked_no hf]
        exact p3.ex (ey.trans e3)) fun H' ⟨vs, p1, p2, p3⟩ => q _ H' (e1.trans p1) (rp_lst.mpr ⟨Dl, vs, rfl, p2, p3⟩) fun _ _ => ⟨Dl, rfl, fresh_back e1 hD⟩
end
end HW

set_option Elab.async false
set_option linter.all false
set_option maxRecDepth 100000
set_option maxHeartbeats 1000000
namespace HW
open PySem PySem.Spec PyProof.Rows L2 Evl SX
/-! ### things known by their very object -/
def ObjO (c : Addr) (o : Obj) : HO := .ext fun h => h.get? c = some o
abbrev Cl := List (Addr × Obj)
def lay (H : Hp) (cs : Cl) : Hp := fun b => match cs.lookup b with
  | some o => some (ObjO b o)
  | none => H b
def bar (H : Hp) (cs : Cl) : Hp := fun b => match cs.lookup b with
  | some _ => none
  | none => H b
def FreeOf (H : Hp) (cs : Cl) : Prop := ∀ c o, cs.lookup c = some o → H c = none
def LaidIn (H : Hp) (cs : Cl) : Prop := ∀ c o, cs.lookup c = some o → H c = some (ObjO c o)
section
variable {P : Program} {w : World} {H H' : Hp} {h : Heap} {cs : Cl} {b c : Addr} {o : Obj}
theorem objO_ok (e : h.get? c = some o) : ObjOk P w H h c (ObjO c o) := ⟨e, ⟨o, e⟩, fun _ _ p st => st o p⟩
theorem objO_at (ok : HOk P w H h) (e : H c = some (ObjO c o)) : h.get? c = some o := (ok c _ e).1
theorem lay_in (e : cs.lookup b = some o) : lay H cs b = some (ObjO b o) := by unfold lay; rw [e]
theorem lay_out (e : cs.lookup b = none) : lay H cs b = H b := by unfold lay; rw [e]
theorem bar_in (e : cs.lookup b = some o) : bar H cs b = none := by unfold bar; rw [e]
theorem bar_out (e : cs.lookup b = none) : bar H cs b = H b := by unfold bar; rw [e]
theorem bar_lay (l : LaidIn H cs) : lay (bar H cs) cs = H := by
  funext b
  cases q : cs.lookup b with
  | some o => rw [lay_in q, l b o q]
  | none => rw [lay_out q, bar_out q]
theorem lay_bar (l : ∀ c o, cs.lookup c = some o → H c = none) : bar (lay H cs) cs = H := by
  funext b
  cases q : cs.lookup b with
  | some o => rw [bar_in q, l b o q]
  | none => rw [bar_out q, lay_out q]
theorem laid_lay : LaidIn (lay H cs) cs := fun _ _ q => lay_in q
theorem LaidIn.ex (l : LaidIn H cs) (e : Ex H H') : LaidIn H' cs := fun c o q => e _ _ (l c o q)
/-- not among cs: it is tracked otherwise -/
theorem out_of {u : HO} (l : ∀ c o, cs.lookup c = some o → H c = none) (e : H b = some u) : cs.lookup b = none := by
  cases q : cs.lookup b with
  | none => rfl
  | some o => rw [l b o q] at e; cases e
theorem out_of' {u : HO} (l : LaidIn H cs) (e : H b = some u) (hu : ∀ o, u ≠ ObjO b o) : cs.lookup b = none := by
  cases q : cs.lookup b with
  | none => rfl
  | some o => rw [l b o q] at e; exact absurd (Option.some.inj e).symm (hu o)
theorem out_none (l : LaidIn H cs) (e : H b = none) : cs.lookup b = none := by
  cases q : cs.lookup b with
  | none => rfl
  | some o => rw [l b o q] at e; cases e
theorem ne_tup {xs : List V} {c : Addr} (o : Obj) : HO.tup xs ≠ ObjO c o := fun z => by unfold ObjO at z; cases z
theorem ne_own {x c : Addr} (o : Obj) : HO.own x ≠ ObjO c o := fun z => by unfold ObjO at z; cases z
theorem ne_frz {ob : Obj} {u : HO} {c : Addr} (o : Obj) : HO.frz ob u ≠ ObjO c o := fun z => by unfold ObjO at z; cases z
theorem ne_tbl {ps : Array Value} {c : Addr} (o : Obj) : HO.tbl ps ≠ ObjO c o := fun z => by unfold ObjO at z; cases z
theorem hok_lay (ok : HOk P w H h) (l : ∀ c o, cs.lookup c = some o → H c = none ∧ h.get? c = some o) : HOk P w (lay H cs) h := fun b u e => by
  cases q : cs.lookup b with
  | some o =>
    rw [lay_in q] at e
    cases e
    exact objO_ok (l b o q).2
  | none =>
    rw [lay_out q] at e
    refine (ok b u e).stay (fun _ _ _ z => z) (fun c z => ?_) fun c xs z => ?_
    · rw [lay_out (out_of (fun c o q => (l c o q).1) z)]; exact z
    · rw [lay_out (out_of (fun c o q => (l c o q).1) z)]; exact z
theorem hok_bar (ok : HOk P w H h) (l : LaidIn H cs) : HOk P w (bar H cs) h := fun b u e => by
  cases q : cs.lookup b with
  | some o => rw [bar_in q] at e; cases e
  | none =>
    rw [bar_out q] at e
    refine (ok b u e).stay (fun _ _ _ z => z) (fun c z => ?_) fun c xs z => ?_
    · rw [bar_out (out_of' l z ne_own)]; exact z
    · rw [bar_out (out_of' l z ne_tup)]; exact z
end
section
variable {P : Program} {w : World} {K : PySem.W.Frag} {mg : Str → Option Value} {base : Heap} {A : Around} {outer : List Env} {s s' : Shared} {H : Hp} {cs : Cl} {Q : VK} {E : XK} {u : Value}
theorem env0_bar (e : Env0 P w K mg base A outer s H) (l : LaidIn H cs) : Env0 P w K mg base A outer s (bar H cs) :=
  ⟨e.frames, e.mod, fun b o q => ⟨(e.bs b o q).1, by rw [bar_out (out_none l (e.bs b o q).2)]; exact (e.bs b o q).2⟩, e.bsz, e.funs, fun b hb => by rw [bar_out (out_none l (e.frf b hb))]; exact e.frf b hb, hok_bar e.hok l, e.bare⟩
theorem env0_lay (e : Env0 P w K mg base A outer s H) (l : ∀ c o, cs.lookup c = some o → H c = none ∧ s.heap.get? c = some o) (nf : ∀ b ∈ frs outer, cs.lookup b = none) (nb : ∀ b o, base.get? b = some o → cs.lookup b = none) : Env0 P w K mg base A outer s (lay H cs) :=
  ⟨e.frames, e.mod, fun b o q => ⟨(e.bs b o q).1, by rw [lay_out (nb b o q)]; exact (e.bs b o q).2⟩, e.bsz, e.funs, fun b hb => by rw [lay_out (nf b hb)]; exact e.frf b hb, hok_lay e.hok l, e.bare⟩
/-- behind a run in which cs were not tracked: they are as they were -/
theorem ce_lay (ok : HOk P w H s.heap) (l : LaidIn H cs) (hf : ∀ b ∈ frs outer, H b = none) (h : CE outer P w (bar H cs) s (fun v H' => FreeOf H' cs → Q v (lay H' cs)) u s') : CE outer P w H s Q u s' := by
  obtain ⟨v, H', os, ba, un, hok, r, q⟩ := h
  have nf : ∀ c o, cs.lookup c = some o → c ∉ frs outer := fun c o e z => by
    have := hf c z
    rw [l c o e] at this
    cases this
  have kc : ∀ c o, cs.lookup c = some o → H' c = none ∧ s'.heap.get? c = some o := fun c o e =>
    ⟨un.free c o (objO_at ok (l c o e)) (bar_in e) (by simp), un.keep c o (objO_at ok (l c o e)) (bar_in e) (nf c o e) (by simp)⟩
  refine ⟨v, lay H' cs, os, ba, ⟨fun b o e n hb hx => ?_, fun b o e n hb hx => ?_, fun b o e n hx => ?_, un.there, fun b xs e => ?_, fun b o x e => ?_, fun b ps e => ?_⟩, hok_lay hok kc, r, q fun c o e => (kc c o e).1⟩
  · exact un.keep b o e (by rw [bar_out (out_none l n)]; exact n) hb hx
  · exact un.slot b o e (by rw [bar_out (out_none l n)]; exact n) hb hx
  · rw [lay_out (out_none l n)]
    exact un.free b o e (by rw [bar_out (out_none l n)]; exact n) hx
  · have no := out_of' l e ne_tup
    rw [lay_out no]
    exact un.tups b xs (by rw [bar_out no]; exact e)
  · have no := out_of' l e ne_frz
    rw [lay_out no]
    exact un.frzs b o x (by rw [bar_out no]; exact e)
  · have no := out_of' l e ne_tbl
    rw [lay_out no]
    exact un.tbls b ps (by rw [bar_out no]; exact e)
theorem cx_lay (ok : HOk P w H s.heap) (l : LaidIn H cs) (hf : ∀ b ∈ frs outer, H b = none) (h : L2.CX P w outer (bar H cs) s (fun cls d H' => FreeOf H' cs → E cls d (lay H' cs)) u s') : L2.CX P w outer H s E u s' := by
  obtain ⟨a, B, H', cls, d, eu, fl, hok, ub, ha, os, ba, q⟩ := h
  have nf : ∀ c o, cs.lookup c = some o → c ∉ frs outer := fun c o e z => by
    have := hf c z
    rw [l c o e] at this
    cases this
  have kc : ∀ c o, cs.lookup c = some o → H' c = none ∧ B.get? c = some o := fun c o e =>
    ⟨ub.free c o (objO_at ok (l c o e)) (bar_in e), ub.keep c o (objO_at ok (l c o e)) (bar_in e) (nf c o e)⟩
  have na : cs.lookup a = none := by
    cases e : cs.lookup a with
    | none => rfl
    | some o =>
      have := (kc a o e).2
      rw [fl.2.1] at this
      cases this
  refine ⟨a, B, lay H' cs, cls, d, eu, fl, hok_lay hok kc, ⟨fun b o e n hb => ?_, ub.slot, fun b o e n => ?_, ub.there, fun b xs e => ?_, fun b o x e => ?_, fun b ps e => ?_⟩, by rw [lay_out na]; exact ha, os, ba, q fun c o e => (kc c o e).1⟩
  · exact ub.keep b o e (by rw [bar_out (out_none l n)]; exact n) hb
  · rw [lay_out (out_none l n)]
    exact ub.free b o e (by rw [bar_out (out_none l n)]; exact n)
  · have no := out_of' l e ne_tup
    rw [lay_out no]
    exact ub.tups b xs (by rw [bar_out no]; exact e)
  · have no := out_of' l e ne_frz
    rw [lay_out no]
    exact ub.frzs b o x (by rw [bar_out no]; exact e)
  · have no := out_of' l e ne_tbl
    rw [lay_out no]
    exact ub.tbls b ps (by rw [bar_out no]; exact e)
/-- behind a call in which cs were tracked: they are untracked again -/
theorem ce_bar (l : ∀ c o, cs.lookup c = some o → H c = none ∧ s.heap.get? c = some o) (h : CE outer P w (lay H cs) s (fun v H' => LaidIn H' cs ∧ Q v (bar H' cs)) u s') : CE outer P w H s Q u s' := by
  obtain ⟨v, H', os, ba, un, hok, r, lq, q⟩ := h
  have at' : ∀ b o o', cs.lookup b = some o' → s.heap.get? b = some o → s'.heap.get? b = some o := fun b o o' e z => by
    have h1 := (l b o' e).2
    rw [z] at h1
    cases h1
    exact objO_at hok (lq b o e)
  have l1 : ∀ c o, cs.lookup c = some o → H c = none := fun c o e => (l c o e).1
  refine ⟨v, bar H' cs, os, ba, ⟨fun b o e n hb hx => ?_, fun b o e n hb hx => ?_, fun b o e n hx => ?_, un.there, fun b xs e => ?_, fun b o x e => ?_, fun b ps e => ?_⟩, hok_bar hok lq, r, q⟩
  · cases z : cs.lookup b with
    | some o' => exact at' b o o' z e
    | none => exact un.keep b o e (by rw [lay_out z]; exact n) hb hx
  · cases z : cs.lookup b with
    | some o' => exact ⟨o.slots, at' b o o' z e⟩
    | none => exact un.slot b o e (by rw [lay_out z]; exact n) hb hx
  · cases z : cs.lookup b with
    | some o' => exact bar_in z
    | none =>
      rw [bar_out z]
      exact un.free b o e (by rw [lay_out z]; exact n) hx
  · have no := out_of l1 e
    rw [bar_out no]
    exact un.tups b xs (by rw [lay_out no]; exact e)
  · have no := out_of l1 e
    rw [bar_out no]
    exact un.frzs b o x (by rw [lay_out no]; exact e)
  · have no := out_of l1 e
    rw [bar_out no]
    exact un.tbls b ps (by rw [lay_out no]; exact e)
end
/-! ### a function of no arguments, known by its object -/
/-- what the object o, called with nothing, does -/
def LamRun (P : Program) (w : World) (K : PySem.W.Frag) (mg : Str → Option Value) (base : Heap) (k : Nat) (o : Obj) (sp : Hp → VK → XK → Prop) : Prop :=
  ∀ (A : Around) (outer : List Env) (s : Shared) (H : Hp) (f : Addr) (Q : VK) (E : XK), Room k A → Env0 P w K mg base A outer s H → s.heap.get? f = some o → sp H Q E →
    codeAny (model P w) A (.call (.ref f) ⟨[], []⟩) (CR (L2.CX P w) outer P w H s Q E) s
def FnO (o : Obj) : Prop := ∃ oc od fd sl, o = (⟨oc, od, .func fd, sl⟩ : Obj)
def Act (P : Program) (w : World) (K : PySem.W.Frag) (mg : Str → Option Value) (base : Heap) (k : Nat) (H : Hp) (f : Addr) (Q : VK) (E : XK) : Prop :=
  ∃ (o : Obj) (sp : Hp → VK → XK → Prop), H f = some (ObjO f o) ∧ FnO o ∧ LamRun P w K mg base k o sp ∧ sp H Q E
/-- work(), work a name that holds such a function -/
def tWork (P : Program) (w : World) (K : PySem.W.Frag) (mg : Str → Option Value) (base : Heap) (k i : Nat) (W : WX) : TE := fun σ H Q => ∃ f, σ[i]? = some (some (.ref f)) ∧ Act P w K mg base k H f Q fun cls d H' => W cls d σ H'
theorem pe_work {X : Cx} {W : WX} {k i : Nat} {a : Str} {p1 p2 : Pos} (tk : Takes X W) (hr : Room k X.A) (hN : X.N[i]? = some a) (hv : Vis X.env.scope a) (hd : (a == ("__debug__" : Str)) = false := by decide) (hcd : (a == ("__classdict__" : Str)) = false := by decide) :
    PE X (.Call (.Name a p1) [] [] p2) (tWork X.prog X.w X.K X.mg X.base k i W) := by
  refine ⟨fun pins s σ H Q I h => ?_⟩
  obtain ⟨f, hs, o, sp, hf, ⟨oc, od, fd, sl, ho⟩, run, hsp⟩ := h
  refine wpAny_Call_Name_kw (thn ((pe_var (pos := p1) hN hv hd hcd).run pins s σ H (fun v H1 => v = .ref f ∧ H1 = H) I ⟨.ref f, hs, rfl, rfl⟩) fun u s1 hh => ?_)
  obtain ⟨v, H1, I1, r1, ev, eH⟩ := hh
  subst ev
  subst eH
  obtain rfl : u = Value.ref f := r1
  have hg := objO_at I1.hok hf
  refine PySem.W.callWith_F0 ⟨oc, od, fd, sl, by rw [hg, ho]⟩ (wpAny_call (codeAny_mono (run X.A X.stack s1 H1 f Q _ hr I1.env0 hg hsp) fun r s' hq => ?_))
  cases r with
  | error e => exact tk e s' (XE.of_call I1 (fun _ _ _ q => q) hq)
  | ok fl =>
    cases fl with
    | ret u => exact I1.after hq
    | next => exact False.elim hq
    | brk => exact False.elim hq
    | cont => exact False.elim hq
/-! ### the body of a lambda -/
structure LmS (N : List Str) (sc scope : Scope) : Prop where
  kind : scope.kind = .function
  co : scope.isCoroutine = false
  gen : scope.isGenerator = false
  own : ∀ y ∈ scope.names, y.2 ≠ .cell ∧ (y.2 = .local → y.1 ∉ N)
  free : ∀ y ∈ scope.names, y.2 = .free → sc.names.lookup y.1 = some .cell ∨ sc.names.lookup y.1 = some .free
def lmSB (N : List Str) (sc scope : Scope) : Bool :=
  decide (scope.kind = .function) && !scope.isCoroutine && !scope.isGenerator && scope.names.all fun y => !decide (y.2 = .cell) && (!decide (y.2 = .local) || !decide (y.1 ∈ N)) && (!decide (y.2 = .free) || (decide (sc.names.lookup y.1 = some .cell) || decide (sc.names.lookup y.1 = some .free)))
theorem lmS_by {N : List Str} {sc scope : Scope} (h : lmSB N sc scope = true) : LmS N sc scope := by
  unfold lmSB at h
  simp only [Bool.and_eq_true, Bool.or_eq_true, Bool.not_eq_true', decide_eq_true_eq, decide_eq_false_iff_not, List.all_eq_true] at h
  obtain ⟨⟨⟨h1, h2⟩, h3⟩, h4⟩ := h
  exact ⟨h1, h2, h3, fun y hy => ⟨(h4 y hy).1.1, fun e => (h4 y hy).1.2.resolve_left fun z => z e⟩, fun y hy e => (h4 y hy).2.resolve_left fun z => z e⟩
/-- the cells of X, by their objects: what the slots say stands in them -/
structure CelOk (X : Cx) (σ : L2.St) (cs : Cl) : Prop where
  val : ∀ x c, (X.env.kindOf x = some .cell ∨ X.env.kindOf x = some .free) → X.env.cells.lookup x = some c → ∃ o u, cs.lookup c = some o ∧ o.data = .cell u ∧ ∀ (i : Nat) (v : V), X.N[i]? = some x → σ[i]? = some (some v) → ∃ u', u = some u' ∧ RelV v u'
  inj : ∀ x y c, X.env.cells.lookup x = some c → X.env.cells.lookup y = some c → x = y
  has : ∀ x, (X.env.kindOf x = some .cell ∨ X.env.kindOf x = some .free) → ∃ c, X.env.cells.lookup x = some c
  len : σ.length = X.N.length
abbrev lamFn (q : Str) (params : Arguments) (body : Expr) (scope : Scope) (cl : List (Str × Addr)) (pm cdv ct dV : Value) : FuncData := { PySem.W.kla_fn "<lambda>" q params body scope cl pm cdv ct with defaults := dV }
abbrev lamObj (q : Str) (params : Arguments) (body : Expr) (scope : Scope) (cl : List (Str × Addr)) (pm cdv ct dV : Value) : Obj := { cls := .type "function", data := .func (lamFn q params body scope cl pm cdv ct dV) }
/-- how its arguments are bound where nothing is given: ds are the objects on which it leans -/
def DefOk (P : Program) (w : World) (fd : FuncData) (scope : Scope) (ds : Cl) (binds : List (Str × Value)) : Prop :=
  (∀ y ∈ binds, scope.names.lookup y.1 = some .local) ∧ ∀ (A : Around) (s : Shared) (Q : List (Str × Value) → Shared → Prop) (E : Value → Shared → Prop), (∀ c o, ds.lookup c = some o → s.heap.get? c = some o) → Q binds s → wpAny (model P w) A (bindArgs fd ⟨[], []⟩) Q E s
theorem lam_run {X : Cx} {σ : L2.St} {cs ds : Cl} {k : Nat} {params : Arguments} {body : Expr} {scope : Scope} {pm ctv dV : Value} {c' : Addr} {binds : List (Str × Value)} {t : XK → TE} (C : CelOk X σ cs) (L : LmS X.N X.env.scope scope)
    (hk : ∀ x, X.env.kindOf x = X.env.scope.names.lookup x)
    (B : DefOk X.prog X.w (lamFn (X.env.qual ++ "<lambda>") params body scope (cloFrom X.env.cells scope.names []) pm (.ref c') ctv dV) scope ds binds)
    (hbody : ∀ (A : Around) (outer : List Env) (s : Shared) (H : Hp) (E : XK) (f : Addr), Room k (A.deeper (LamX.lamEnv X scope s.heap.objs.size f c')) → PE (LamX.lamCx X A outer s H E scope f c') body (t E)) :
    LamRun X.prog X.w X.K X.mg X.base (k + 1) (lamObj (X.env.qual ++ "<lambda>") params body scope (cloFrom X.env.cells scope.names []) pm (.ref c') ctv dV)
      (fun H Q E => H c' = some (LamX.CodeO c' (X.env.qual ++ "<lambda>")) ∧ LaidIn H ds ∧ LaidIn H cs ∧ t (fun cls d H' => FreeOf H' cs → E cls d (lay H' cs)) σ (bar H cs) fun v H' => FreeOf H' cs → Q v (lay H' cs)) := by
  intro A outer s H f Q E hr e0 hf hsp
  obtain ⟨hc, hds, hcs, ht⟩ := hsp
  have e1 := env0_bar e0 hcs
  obtain ⟨⟨oc, vs, tq, hoc, hdc, hvc⟩, _, _⟩ := e0.hok c' _ hc
  have cm : ∀ {y c}, (cloFrom X.env.cells scope.names []).lookup y = some c → X.env.cells.lookup y = some c := fun {y c} e => by
    rcases cloFrom_mem (PySem.mem_of_lookup e) with hm | ⟨h1, h2⟩
    · cases hm
    · obtain ⟨c1, hc1⟩ := C.has y (by rw [hk]; exact L.free _ h1 rfl)
      have : c = c1 := by rw [h2, hc1]; rfl
      rw [this]
      exact hc1
  have kf : ∀ {y c}, (cloFrom X.env.cells scope.names []).lookup y = some c → X.env.kindOf y = some .cell ∨ X.env.kindOf y = some .free := fun {y c} e => by
    rcases cloFrom_mem (PySem.mem_of_lookup e) with hm | ⟨h1, _⟩
    · cases hm
    · rw [hk]; exact L.free _ h1 rfl
  have look : ∀ {y}, scope.names.lookup y = some .free → ∃ c, (cloFrom X.env.cells scope.names []).lookup y = some c := fun {y} hl => mem_lookup (cloFrom_has (cells := X.env.cells) (acc := []) (PySem.mem_of_lookup hl))
  have cellK : ∀ {h₁ : Heap}, (∀ b o, s.heap.get? b = some o → h₁.get? b = some o) → ∀ y c, (cloFrom X.env.cells scope.names []).lookup y = some c → ∃ o u, cs.lookup c = some o ∧ h₁.get? c = some o ∧ o.data = .cell u ∧ ∀ (i : Nat) (v : V), X.N[i]? = some y → σ[i]? = some (some v) → ∃ u', u = some u' ∧ RelV v u' := fun {h₁} kp y c e => by
    obtain ⟨o, u, q1, q2, q3⟩ := C.val y c (kf e) (cm e)
    exact ⟨o, u, q1, kp _ _ (objO_at e0.hok (hcs c o q1)), q2, q3⟩
  refine codeAny_mono (R := CR (L2.CX X.prog X.w) outer X.prog X.w (bar H cs) s (fun v H' => FreeOf H' cs → Q v (lay H' cs)) (fun cls d H' => FreeOf H' cs → E cls d (lay H' cs))) ?_ fun r s' hq => ?_
  · refine PySem.W.kla_callFunE hr.depth hf rfl L.co L.gen rfl ⟨c', oc, vs, tq, rfl, hoc, hdc, hvc⟩ (B.2 _ s _ _ (fun c o q => objO_at e0.hok (hds c o q)) ?_)
    refine wpAny_newFunctionEnv (fun y hy => (L.own y hy).1) B.1 (fun h₁ hns hsb => ⟨?_, ?_⟩) L.kind
    · exact (e0.mod.nolimit.keeps fun b o e => (e0.bs b o e).1).fresh _ hsb
    · show codeAny _ _ (.expr body (LamX.lamEnv X scope s.heap.objs.size f c')) _ _
      have kp : ∀ b o, s.heap.get? b = some o → h₁.get? b = some o := fun b o e => hsb.extBut b o (Nat.ne_of_lt (Heap.lt_size e)) (Heap.get?_push_of_some _ e)
      have noA : ∀ b : Addr, b ∉ ([] : List Addr) := fun b z => by cases z
      have J : Inv (LamX.lamCx X A outer s (bar H cs) (fun cls d H' => FreeOf H' cs → E cls d (lay H' cs)) scope f c') [] σ (bar H cs) { s with heap := h₁, toks := s.toks + binds.length } := by
        refine ⟨⟨e1.mod, L.kind, rfl, rfl, Nat.le_refl _, fun y z c a1 a2 => C.inj y z c (cm a1) (cm a2), fun y hy => ?_, fun y c z _ => ?_, fun _ => hr.hd, Around.frames_deeper e1.frames, .inr ⟨rfl, rfl⟩, fun b z => absurd z (noA b), e1.bs, e1.bsz, fun b _ _ => noA b, fun b z => absurd z (noA b), e1.funs, e1.frf⟩,
          rfl, e1.bare, Un.kept kp, ⟨_, hns, fun i y v a1 a2 a3 => ?_⟩, fun y c e => ?_, e1.hok.fresh (Nat.le_refl _), fun y c e => ?_, fun q hq => absurd (show q ∈ ([] : List (Addr × Obj)) ++ [] from hq) (by simp), e1.hok.kept kp, C.len⟩
        · have hy : scope.names.lookup y = some .cell ∨ scope.names.lookup y = some .free := hy
          rcases hy with hy | hy
          · exact absurd rfl (L.own _ (PySem.mem_of_lookup hy)).1
          · exact look hy
        · have z : false = true := z
          cases z
        · have a1 : X.N[i]? = some y := a1
          have a3 : Vis scope y := a3
          rcases a3 with k1 | k1 | k1
          · exact absurd (List.mem_of_getElem? a1) ((L.own _ (PySem.mem_of_lookup k1)).2 rfl)
          · exact absurd rfl (L.own _ (PySem.mem_of_lookup k1)).1
          · obtain ⟨c2, h2⟩ := look k1
            obtain ⟨o, u, q1, q2, q3, q4⟩ := cellK kp y c2 h2
            obtain ⟨u', hu, ru⟩ := q4 i v a1 a2
            exact ⟨u', ru, .inr ⟨.inr k1, c2, h2, o, q2, by rw [q3, hu]⟩⟩
        · obtain ⟨o, u, q1, q2, q3, _⟩ := cellK kp y c e
          exact ⟨u, o, q2, q3⟩
        · obtain ⟨o, u, q1, _⟩ := cellK kp y c e
          exact bar_in q1
      refine PySem.W.kla_codeExpr (wpAny_mono ((hbody A outer s (bar H cs) _ f (hr.deeper _)).run [] _ _ (bar H cs) _ J ht) (fun v s' hq => ?_) fun e s' hq => hq)
      obtain ⟨w', H', J', rv, q⟩ := hq
      exact ⟨w', H', J'.os, J'.bare, J'.base, J'.hok, rv, q⟩
  · cases r with
    | error e => exact cx_lay e0.hok hcs e0.frf hq
    | ok fl =>
      cases fl with
      | ret u => exact ce_lay e0.hok hcs e0.frf hq
      | next => exact False.elim hq
      | brk => exact False.elim hq
      | cont => exact False.elim hq
end HW

set_option Elab.async false
set_option linter.all false
set_option maxRecDepth 100000
set_option maxHeartbeats 1000000
namespace HW
open PySem PySem.Spec PyProof.Rows L2 Evl SX
/-! ### a lambda is made -/
section
variable {M : Model} {A : Around} {E : Value → Shared → Prop} {s : Shared} {q : Str} {params : Arguments} {body : Expr} {scope : Scope} {env : Env} {c P : Addr} {ps : Array Value} {pos : Pos} {ln : Nat} {mg : Str → Option Value} {cl : List (Str × Addr)} {Q : Value → Shared → Prop} {dV : Value}
theorem mk_new (h1 : closureFor scope env = pure cl) (h2 : env.globals = mainGlobals) (h3 : s.heap.Ns mainGlobals mg) (h4 : env.code = .ref c) (C : PySem.W.CodeHd s.heap c P) (h5 : s.heap.get? P = some (PySem.W.tabObj ps)) (h6 : TriplesOk ps.toList) (h7 : codeAmong pos ps.toList = none) (h8 : mainGlobals ≠ P) (h9 : s.heap.BuiltinsAt mg P)
    (k : ∀ c' ctv h' tk, Heap.ExtBut P s.heap h' → s.heap.objs.size ≤ c' → c' < h'.objs.size → h'.CodeRec (.ref c') q → h'.get? P = some (PySem.W.tabObj (ps ++ #[rawInt pos.line, rawInt pos.col, .ref c'])) →
      Q (.ref h'.objs.size) { s with heap := h'.push (lamObj q params body scope cl ((mg "__name__").getD .none) (.ref c') ctv dV), toks := tk }) :
    wpAny M A (makeTail "<lambda>" q params (.expr body) scope env dV .none none pos ln) Q E s := by
  obtain ⟨bm, ob, b1, b2, _, b4, b5, b6, b7, b8⟩ := h9
  unfold makeTail
  rw [h1, h2]
  refine wpAny_bind (wpAny_pure ?_)
  cases cl with
  | nil =>
    simp only [List.isEmpty_nil, if_true]
    refine wpAny_bind (wpAny_pure (wpAny_bind (wpAny_functionCodeX h4 (C.code h5 h6) (C.tab h5) h7 fun c' h' tk hx hge hlt _ hrec htb _ => ?_)))
    have g' := h3.extBut hx h8
    refine wpAny_bind (wpAny_builtinsFor g' b1 b2 (hx _ _ b4 b5) b6 b7 b8 (wpAny_bind (wpAny_nsGet g' ?_)))
    exact wpAny_bind (wpAny_pure (wpAny_newObj_type (k c' .none h' tk hx hge hlt hrec htb.2) (by size_fits)))
  | cons p r =>
    simp only [List.isEmpty_cons, Bool.false_eq_true, if_false]
    have kp : ∀ oT : Obj, ∀ b o, s.heap.get? b = some o → (s.heap.push oT).get? b = some o := fun oT b o e => Heap.get?_push_of_some _ e
    refine wpAny_bind (wpAny_newTextTuple (wpAny_bind (wpAny_functionCodeX h4 ((C.keeps (kp _)).code (Heap.get?_push_of_some _ h5) h6) ((C.keeps (kp _)).tab (Heap.get?_push_of_some _ h5)) h7 fun c' h' tk hx hge hlt _ hrec htb _ => ?_)))
    have g' := (h3.push _).extBut hx h8
    have hx' : Heap.ExtBut P s.heap h' := fun b o hb e => hx b o hb (kp _ b o e)
    have hge' : s.heap.objs.size ≤ c' := Nat.le_trans (by rw [Heap.size_push]; omega) hge
    refine wpAny_bind (wpAny_builtinsFor g' b1 b2 (hx' _ _ b4 b5) b6 b7 b8 (wpAny_bind (wpAny_nsGet g' ?_)))
    exact wpAny_bind (wpAny_pure (wpAny_newObj_type (k c' _ h' tk hx' hge' hlt hrec htb.2) (by size_fits)))
theorem mk_old {c' : Addr} (h1 : closureFor scope env = pure cl) (h2 : env.globals = mainGlobals) (h3 : s.heap.Ns mainGlobals mg) (h4 : env.code = .ref c) (C : PySem.W.CodeHd s.heap c P) (h5 : s.heap.get? P = some (PySem.W.tabObj ps)) (h6 : TriplesOk ps.toList) (h7 : codeAmong pos ps.toList = some (.ref c')) (h9 : s.heap.BuiltinsAt mg P)
    (k : ∀ (ctv : Value) (h' : Heap) (tk : Tok), (∀ b o, s.heap.get? b = some o → h'.get? b = some o) → s.heap.objs.size ≤ h'.objs.size →
      Q (.ref h'.objs.size) { s with heap := h'.push (lamObj q params body scope cl ((mg "__name__").getD .none) (.ref c') ctv dV), toks := tk }) :
    wpAny M A (makeTail "<lambda>" q params (.expr body) scope env dV .none none pos ln) Q E s := by
  obtain ⟨bm, ob, b1, b2, _, b4, b5, b6, b7, b8⟩ := h9
  unfold makeTail
  rw [h1, h2]
  refine wpAny_bind (wpAny_pure ?_)
  cases cl with
  | nil =>
    simp only [List.isEmpty_nil, if_true]
    refine wpAny_bind (wpAny_pure (wpAny_bind (wpAny_functionCode_hit h4 (C.code h5 h6) h7 ?_)))
    refine wpAny_bind (wpAny_builtinsFor h3 b1 b2 b5 b6 b7 b8 (wpAny_bind (wpAny_nsGet h3 ?_)))
    exact wpAny_bind (wpAny_pure (wpAny_newObj_type (k .none s.heap s.toks (fun _ _ e => e) (Nat.le_refl _)) (by size_fits)))
  | cons p r =>
    simp only [List.isEmpty_cons, Bool.false_eq_true, if_false]
    have kp : ∀ oT : Obj, ∀ b o, s.heap.get? b = some o → (s.heap.push oT).get? b = some o := fun oT b o e => Heap.get?_push_of_some _ e
    refine wpAny_bind (wpAny_newTextTuple (wpAny_bind (wpAny_functionCode_hit h4 ((C.keeps (kp _)).code (Heap.get?_push_of_some _ h5) h6) h7 ?_)))
    refine wpAny_bind (wpAny_builtinsFor (h3.push _) b1 b2 (Heap.get?_push_of_some _ b5) b6 b7 b8 (wpAny_bind (wpAny_nsGet (h3.push _) ?_)))
    exact wpAny_bind (wpAny_pure (wpAny_newObj_type (k _ _ s.toks (kp _) (by rw [Heap.size_push]; omega)) (by size_fits)))
end
/-- a lambda of the maker X stands at f -/
structure LamIs (X : Cx) (params : Arguments) (body : Expr) (scope : Scope) (f : Addr) (H : Hp) : Prop where
  ex : ∃ (pm ctv dV : Value) (c' : Addr) (ds : Cl) (binds : List (Str × Value)), H f = some (ObjO f (lamObj (X.env.qual ++ "<lambda>") params body scope (cloFrom X.env.cells scope.names []) pm (.ref c') ctv dV)) ∧ H c' = some (LamX.CodeO c' (X.env.qual ++ "<lambda>")) ∧ LaidIn H ds ∧
    DefOk X.prog X.w (lamFn (X.env.qual ++ "<lambda>") params body scope (cloFrom X.env.cells scope.names []) pm (.ref c') ctv dV) scope ds binds
/-- what is known by its object stays -/
def ExO (H H' : Hp) : Prop := ∀ b φ, H b = some (.ext φ) → H' b = some (.ext φ)
theorem ExO.of {H H' : Hp} (e : Ex H H') : ExO H H' := fun b φ h => e b _ h
theorem ExO.extN {H H' : Hp} (e : LamX.ExtN H H') : ExO H H' := fun b φ h => e b _ h fun _ z => by cases z
theorem LamIs.mono {X : Cx} {params : Arguments} {body : Expr} {scope : Scope} {f : Addr} {H H' : Hp} (l : LamIs X params body scope f H) (e : ExO H H') : LamIs X params body scope f H' := by
  obtain ⟨pm, ctv, dV, c', ds, bs, h1, h2, h3, h4⟩ := l.ex
  exact ⟨pm, ctv, dV, c', ds, bs, e _ _ h1, e _ _ h2, fun c o q => e _ _ (h3 c o q), h4⟩
section
variable {X : Cx} {pins : List (Addr × Obj)} {σ : L2.St} {H : Hp} {s : Shared}
theorem lam_new {T : List (Addr × Str)} {c P : Addr} {params : Arguments} {body : Expr} {scope : Scope} {pos : Pos} {E : Value → Shared → Prop} {Q : Value → Shared → Prop} {dV : Value} {ds : Cl} {binds : List (Str × Value)} (I : Inv X pins σ H s) (TB : LamX.TabB X.base X.mg c P) (hcode : X.env.code = .ref c)
    (hm : (P, X.env.qual ++ "<lambda>") ∈ T) (hu : ∀ p ∈ T, p.1 = P → p.2 = X.env.qual ++ "<lambda>") (hT : LamX.Tabs T H) (hfree : ∀ y ∈ scope.names, y.2 = .free → ∃ c, X.env.cells.lookup y.1 = some c) (hds : LaidIn H ds)
    (hB : ∀ pm cdv ctv, DefOk X.prog X.w (lamFn (X.env.qual ++ "<lambda>") params body scope (cloFrom X.env.cells scope.names []) pm cdv ctv dV) scope ds binds)
    (h : ∀ (f : Addr) (H1 : Hp) (s' : Shared), Inv X pins σ H1 s' → LamX.ExtN H H1 → H f = none → LamX.Tabs T H1 → LamIs X params body scope f H1 → Q (.ref f) s') :
    wpAny (model X.prog X.w) X.A (makeTail "<lambda>" (X.env.qual ++ "<lambda>") params (.expr body) scope X.env dV .none none pos pos.line) Q E s := by
  obtain ⟨ps, hP, ht, ha⟩ := hT _ hm
  have bP : s.heap.BuiltinsAt X.mg P := TB.bm.keeps I.bk
  have hP' : s.heap.get? P = some { cls := .none, data := .fields ps } := I.hok P _ hP
  cases hc : codeAmong pos ps.toList with
  | none =>
    refine mk_new (closure_ok hfree) I.ok.glob (I.mod.glob.keeps I.bk) hcode (TB.code.keeps I.bk) hP' ht hc TB.gP bP fun c' ctv h' tk hx hge hlt hrec htb => ?_
    obtain ⟨c2, oc, vs, t, e2, hoc, hd, hv⟩ := hrec
    cases e2
    have hsz : s.heap.objs.size ≤ h'.objs.size := Nat.le_trans hge (Nat.le_of_lt hlt)
    have nC : H c' = none := I.hok.fresh hge
    have nF : H h'.objs.size = none := I.hok.fresh hsz
    have I1 := LamX.inv_table (t' := tk) (more := #[rawInt pos.line, rawInt pos.col, .ref c']) (h' := h') I hP (fun b o hb e => hx b o hb e) htb hge ⟨oc, vs, t, hoc, hd, hv⟩
    have hE : LamX.ExtN H (upd (upd H P (.tbl (ps ++ #[rawInt pos.line, rawInt pos.col, .ref c']))) c' (LamX.CodeO c' (X.env.qual ++ "<lambda>"))) := fun b o e n => by
      rw [upd_ne (ne_of_none e nC), upd_ne (fun z => n ps (Option.some.inj (e.symm.trans (by rw [z]; exact hP))))]
      exact e
    have eL : (ps ++ #[rawInt pos.line, rawInt pos.col, .ref c']).toList = ps.toList ++ [rawInt pos.line, rawInt pos.col, .ref c'] := by simp
    have hT1 : LamX.Tabs T (upd (upd H P (.tbl (ps ++ #[rawInt pos.line, rawInt pos.col, .ref c']))) c' (LamX.CodeO c' (X.env.qual ++ "<lambda>"))) := fun p hp => by
      by_cases hb : p.1 = P
      · rw [hu p hp hb, hb]
        refine ⟨_, by rw [upd_ne (ne_of_none hP nC), upd_same], by rw [eL]; exact PySem.TriplesOk_snoc _ _ _ _ ht, fun p' cv hcv => ?_⟩
        rw [eL] at hcv
        rcases LamX.among_app _ ht hcv with z | z
        · obtain ⟨c0, a1, a2⟩ := ha p' cv z
          exact ⟨c0, a1, hE _ _ a2 LamX.codeO_ne⟩
        · exact ⟨c', z, upd_same⟩
      · obtain ⟨ps', a1, a2, a3⟩ := hT p hp
        refine ⟨ps', by rw [upd_ne (ne_of_none a1 nC), upd_ne hb]; exact a1, a2, fun p' cv hcv => ?_⟩
        obtain ⟨c0, b1, b2⟩ := a3 p' cv hcv
        exact ⟨c0, b1, hE _ _ b2 LamX.codeO_ne⟩
    have I2 := I1.laid (t' := tk) (a := h'.objs.size) (o := ObjO h'.objs.size (lamObj (X.env.qual ++ "<lambda>") params body scope (cloFrom X.env.cells scope.names []) ((X.mg "__name__").getD .none) (.ref c') ctv dV)) (h' := h'.push (lamObj (X.env.qual ++ "<lambda>") params body scope (cloFrom X.env.cells scope.names []) ((X.mg "__name__").getD .none) (.ref c') ctv dV)) (fun b u e => Heap.get?_push_of_some _ e) (Nat.le_refl _) (objO_ok (Heap.get?_push_size _ rfl))
    have n1 : h'.objs.size ≠ c' := Nat.ne_of_gt hlt
    have n2 : h'.objs.size ≠ P := Nat.ne_of_gt (Nat.lt_of_lt_of_le (Heap.lt_size hP') hsz)
    have nF1 : upd (upd H P (.tbl (ps ++ #[rawInt pos.line, rawInt pos.col, .ref c']))) c' (LamX.CodeO c' (X.env.qual ++ "<lambda>")) h'.objs.size = none := by
      rw [upd_ne n1, upd_ne n2]
      exact nF
    have eX : Ex _ _ := Ex.new (o := ObjO h'.objs.size (lamObj (X.env.qual ++ "<lambda>") params body scope (cloFrom X.env.cells scope.names []) ((X.mg "__name__").getD .none) (.ref c') ctv dV)) nF1
    refine h h'.objs.size _ _ I2 (hE.trans (.of eX)) nF (hT1.ext eX) ⟨_, ctv, dV, c', ds, binds, upd_same, eX _ _ upd_same, fun a o z => eX _ _ (hE _ _ (hds a o z) fun _ y => by cases y), hB _ _ _⟩
  | some cv =>
    obtain ⟨c', e, hco⟩ := ha pos cv hc
    subst e
    refine mk_old (closure_ok hfree) I.ok.glob (I.mod.glob.keeps I.bk) hcode (TB.code.keeps I.bk) hP' ht hc bP fun ctv h' tk hx hsz => ?_
    have nF : H h'.objs.size = none := I.hok.fresh hsz
    have I2 := I.laid (t' := tk) (a := h'.objs.size) (o := ObjO h'.objs.size (lamObj (X.env.qual ++ "<lambda>") params body scope (cloFrom X.env.cells scope.names []) ((X.mg "__name__").getD .none) (.ref c') ctv dV)) (h' := h'.push (lamObj (X.env.qual ++ "<lambda>") params body scope (cloFrom X.env.cells scope.names []) ((X.mg "__name__").getD .none) (.ref c') ctv dV)) (fun b u e => Heap.get?_push_of_some _ (hx b u e)) hsz (objO_ok (Heap.get?_push_size _ rfl))
    have eX : Ex H _ := Ex.new (o := ObjO h'.objs.size (lamObj (X.env.qual ++ "<lambda>") params body scope (cloFrom X.env.cells scope.names []) ((X.mg "__name__").getD .none) (.ref c') ctv dV)) nF
    exact h h'.objs.size _ _ I2 (.of eX) nF (hT.ext eX) ⟨_, ctv, dV, c', ds, binds, upd_same, eX _ _ hco, hds.ex eX, hB _ _ _⟩
def tMkLam (X : Cx) (T : List (Addr × Str)) (params : Arguments) (body : Expr) (scope : Scope) : TE := fun _ H Q => LamX.Tabs T H ∧ ∀ f H1, LamX.ExtN H H1 → H f = none → LamX.Tabs T H1 → LamIs X params body scope f H1 → Q (.ref f) H1
/-- lambda: body -/
theorem pe_lam {T : List (Addr × Str)} {c P : Addr} {params : Arguments} {body : Expr} {scope : Scope} {pos : Pos} (TB : LamX.TabB X.base X.mg c P) (hcode : X.env.code = .ref c) (hm : (P, X.env.qual ++ "<lambda>") ∈ T) (hu : ∀ p ∈ T, p.1 = P → p.2 = X.env.qual ++ "<lambda>") (L : LmS X.N X.env.scope scope)
    (hk : ∀ x, X.env.kindOf x = X.env.scope.names.lookup x) (hdef : defaultsOf params X.env = ([], [])) (hbind : ∀ (q : Str) (cl : List (Str × Addr)) (pm cv ctv : Value), bindArgs (lamFn q params body scope cl pm cv ctv .none) ⟨[], []⟩ = pure []) :
    PE X (.Lambda params body scope pos) (tMkLam X T params body scope) := by
  refine ⟨fun pins s σ H Q I h => ?_⟩
  obtain ⟨hT, h⟩ := h
  refine PySem.W.kla_eval hdef ?_
  rw [makeFunction_eq]
  simp only [List.zip_nil_right, List.filterMap_nil, List.isEmpty_nil, if_true, pure_bind]
  exact lam_new (ds := []) (binds := []) I TB hcode hm hu hT (fun y hy e => I.ok.has y.1 (by rw [hk]; exact L.free y hy e)) (fun c o z => by cases z) (fun pm cdv ctv => ⟨fun y hy => (by cases hy), fun A s Q E _ q => by rw [hbind]; exact wpAny_pure q⟩) fun f H1 s' I1 e1 n1 t1 l1 => ⟨.ref f, H1, I1, rfl, h f H1 e1 n1 t1 l1⟩
/-- lambda a=0: body -/
theorem pe_lamD {T : List (Addr × Str)} {c P : Addr} {params : Arguments} {body d0 : Expr} {scope : Scope} {pos : Pos} {n0 : Int} {a : Str} (TB : LamX.TabB X.base X.mg c P) (hcode : X.env.code = .ref c) (hm : (P, X.env.qual ++ "<lambda>") ∈ T) (hu : ∀ p ∈ T, p.1 = P → p.2 = X.env.qual ++ "<lambda>") (L : LmS X.N X.env.scope scope)
    (hk : ∀ x, X.env.kindOf x = X.env.scope.names.lookup x) (hd0 : PE X d0 (tC (.int n0))) (hdef : defaultsOf params X.env = ([eval d0 X.env], [])) (hkw : params.kwonlyargs = []) (ha : scope.names.lookup a = some .local)
    (hbind : ∀ (q : Str) (cl : List (Str × Addr)) (pm cv ctv v : Value) (t0 : Addr), ∃ k, bindArgs (lamFn q params body scope cl pm cv ctv (.ref t0)) ⟨[], []⟩ = seqItems? (.ref t0) >>= k ∧ k (some #[v]) = pure [(a, v)]) :
    PE X (.Lambda params body scope pos) (tMkLam X T params body scope) := by
  refine ⟨fun pins s σ H Q I h => ?_⟩
  obtain ⟨hT, h⟩ := h
  rw [arm_eval_Lambda, hdef]
  show wpAny _ _ (do let dv ← evalAll [eval d0 X.env]; let kdv ← holding dv (evalAllOpt []); makeFunction "<lambda>" (X.env.qual ++ "<lambda>") params (.expr body) scope X.env dv kdv [] pos pos.line) _ _ s
  refine wpAny_bind (wpAny_bind (thn (hd0.run pins s σ H (fun v H1 => v = .int n0 ∧ H1 = H) I ⟨rfl, rfl⟩) fun u s1 hh => ?_))
  obtain ⟨v, H1, I1, r1, ev, eH⟩ := hh
  subst ev
  subst eH
  refine wpAny_bind (wpAny_holding (wpAny_pure (wpAny_pure (wpAny_bind (wpAny_holding (wpAny_pure ?_))))))
  rw [makeFunction_eq]
  simp only [hkw, List.zip_nil_left, List.filterMap_nil, List.isEmpty_nil, List.isEmpty_cons, if_true, Bool.false_eq_true, if_false, pure_bind]
  refine wpAny_bind (wpAny_newTextTuple ?_)
  have I2 := I1.laid (t' := s1.toks) (a := s1.heap.objs.size) (o := ObjO s1.heap.objs.size { cls := .type "tuple", data := .seq [u].toArray }) (h' := s1.heap.push { cls := .type "tuple", data := .seq [u].toArray }) (fun b u e => Heap.get?_push_of_some _ e) (Nat.le_refl _) (objO_ok (Heap.get?_push_size _ rfl))
  have nT : H1 s1.heap.objs.size = none := I1.hok.fresh (Nat.le_refl _)
  have eX : Ex H1 _ := Ex.new (o := ObjO s1.heap.objs.size { cls := .type "tuple", data := .seq [u].toArray }) nT
  refine lam_new (ds := [(s1.heap.objs.size, { cls := .type "tuple", data := .seq [u].toArray })]) (binds := [(a, u)]) I2 TB hcode hm hu (hT.ext eX) (fun y hy e => I.ok.has y.1 (by rw [hk]; exact L.free y hy e)) (fun c o z => ?_) (fun pm cdv ctv => ⟨fun y hy => ?_, fun A s Q E q1 q2 => ?_⟩) fun f H2 s' I3 e3 n3 t3 l3 => ⟨.ref f, H2, I3, rfl, h f H2 (LamX.ExtN.trans (.of eX) e3) (fresh_back eX n3) t3 l3⟩
  · by_cases hc : c = s1.heap.objs.size
    · subst hc
      rw [List.lookup_cons_self] at z
      cases z
      exact upd_same
    · rw [List.lookup_cons, beq_false_of_ne hc] at z
      cases z
  · rw [List.mem_singleton.mp hy]
    exact ha
  · obtain ⟨k, k1, k2⟩ := hbind (X.env.qual ++ "<lambda>") (cloFrom X.env.cells scope.names []) pm cdv ctv u s1.heap.objs.size
    rw [k1]
    refine wpAny_bind (wpAny_seqItems (q1 _ _ (List.lookup_cons_self)) rfl ?_)
    rw [k2]
    exact wpAny_pure q2
/-! ### a call within which the maker's cells are known -/
theorem cels (I : Inv X pins σ H s) (hk : ∀ x, X.env.kindOf x = X.env.scope.names.lookup x) (hfn : ∀ x, X.fn x = true) : ∃ cs : Cl, CelOk X σ cs ∧ (∀ c o, cs.lookup c = some o → H c = none ∧ s.heap.get? c = some o) ∧ (∀ b ∈ frs X.stack, cs.lookup b = none) ∧ ∀ b o, X.base.get? b = some o → cs.lookup b = none := by
  have key : ∀ (l : List (Str × Addr)) (c : Addr) (o : Obj), (l.filterMap fun p => (s.heap.get? p.2).map fun o => (p.2, o)).lookup c = some o → s.heap.get? c = some o ∧ ∃ x, (x, c) ∈ l := by
    intro l
    induction l with
    | nil => intro c o h; cases h
    | cons p l ih =>
      intro c o h
      rw [List.filterMap_cons] at h
      cases hp : s.heap.get? p.2 with
      | none =>
        rw [hp] at h
        obtain ⟨h1, x, h2⟩ := ih c o h
        exact ⟨h1, x, List.mem_cons_of_mem _ h2⟩
      | some o' =>
        rw [hp] at h
        simp only [Option.map_some] at h
        rw [List.lookup_cons] at h
        by_cases hc : c = p.2
        · subst hc
          rw [beq_self_eq_true] at h
          cases h
          exact ⟨hp, p.1, List.mem_cons_self⟩
        · rw [beq_false_of_ne hc] at h
          obtain ⟨h1, x, h2⟩ := ih c o h
          exact ⟨h1, x, List.mem_cons_of_mem _ h2⟩
  have have_ : ∀ (l : List (Str × Addr)) (x : Str) (c : Addr) (o : Obj), (x, c) ∈ l → s.heap.get? c = some o → (l.filterMap fun p => (s.heap.get? p.2).map fun o => (p.2, o)).lookup c = some o := by
    intro l
    induction l with
    | nil => intro x c o h; cases h
    | cons p l ih =>
      intro x c o h ho
      rw [List.filterMap_cons]
      by_cases hc : c = p.2
      · subst hc
        rw [ho]
        simp only [Option.map_some]
        rw [List.lookup_cons_self]
      · have hm : (x, c) ∈ l := (List.mem_cons.mp h).resolve_left fun z => hc (by rw [← z])
        cases hp : s.heap.get? p.2 with
        | none => exact ih x c o hm ho
        | some o' =>
          simp only [Option.map_some]
          rw [List.lookup_cons, beq_false_of_ne hc]
          exact ih x c o hm ho
  have sub : ∀ {x c}, (x, c) ∈ (X.env.cells.filter fun p => X.env.cells.lookup p.1 == some p.2) → X.env.cells.lookup x = some c := fun h => eq_of_beq (List.mem_filter.mp h).2
  have sup : ∀ {x c}, X.env.cells.lookup x = some c → (x, c) ∈ (X.env.cells.filter fun p => X.env.cells.lookup p.1 == some p.2) := fun h => List.mem_filter.mpr ⟨PySem.mem_of_lookup h, by rw [h]; exact beq_self_eq_true _⟩
  refine ⟨(X.env.cells.filter fun p => X.env.cells.lookup p.1 == some p.2).filterMap fun p => (s.heap.get? p.2).map fun o => (p.2, o), ⟨fun x c hx hl => ?_, I.ok.inj, I.ok.has, I.len⟩, fun c o hc => ?_, fun b hb => ?_, fun b o hb => ?_⟩
  · obtain ⟨v, o, ho, hd⟩ := I.cell x c hl
    refine ⟨o, v, have_ _ x c o (sup hl) ho, hd, fun i v' a1 a2 => ?_⟩
    obtain ⟨m, hn, hl'⟩ := I.loc
    obtain ⟨u, r, lk⟩ := hl' i x v' a1 a2 (by
      rcases hx with hx | hx
      · rw [hk] at hx; exact .inr (.inl hx)
      · rw [hk] at hx; exact .inr (.inr hx))
    rcases lk with ⟨k1, _⟩ | ⟨_, c2, e2, o2, ho2, hd2⟩
    · rcases hx with hx | hx <;> rw [hx] at k1 <;> cases k1
    · rw [hl] at e2
      cases e2
      rw [ho] at ho2
      cases ho2
      rw [hd] at hd2
      injection hd2 with hv
      exact ⟨u, hv, r⟩
  · obtain ⟨h1, x, h2⟩ := key _ c o hc
    exact ⟨I.freeC x c (sub h2), h1⟩
  · cases hc : ((X.env.cells.filter fun p => X.env.cells.lookup p.1 == some p.2).filterMap fun p => (s.heap.get? p.2).map fun o => (p.2, o)).lookup b with
    | none => rfl
    | some o =>
      obtain ⟨h1, x, h2⟩ := key _ b o hc
      rcases List.mem_cons.mp (I.stkSub b hb) with e | e
      · exact absurd e (I.cne x b (sub h2))
      · obtain ⟨_, ob, ho, _⟩ := I.ok.funs.mem e
        exact absurd (Nat.lt_of_lt_of_le (Heap.lt_size ho) (I.ok.cab x b (hfn x) (sub h2))) (Nat.lt_irrefl _)
  · cases hc : ((X.env.cells.filter fun p => X.env.cells.lookup p.1 == some p.2).filterMap fun p => (s.heap.get? p.2).map fun o => (p.2, o)).lookup b with
    | none => rfl
    | some o' =>
      obtain ⟨h1, x, h2⟩ := key _ b o' hc
      exact absurd (Nat.lt_of_lt_of_le (Heap.lt_size hb) (Nat.le_trans I.ok.bsz (I.ok.cab x b (hfn x) (sub h2)))) (Nat.lt_irrefl _)
/-- f(..), the maker's cells known within; nothing is raised out of it -/
def tCallC (X : Cx) (sp : Sp) (t : TA) : TE := fun σ H Q => t σ H fun vs H1 => ∀ cs : Cl, CelOk X σ cs → (∀ c o, cs.lookup c = some o → H1 c = none) → sp vs (lay H1 cs) (fun v H' => LaidIn H' cs ∧ Q v (bar H' cs)) E0
theorem Df.peC {x : Str} {ps : List Str} {k : Nat} {sp : Sp} {e : Expr} {es : List Expr} {t : TA} {p pos : Pos} (d : Df X.prog X.w X.K X.mg X.base x ps k sp) (hr : Room k X.A) (hk : ∀ x, X.env.kindOf x = X.env.scope.names.lookup x) (hfn : ∀ x, X.fn x = true) (ha : PA X (e :: es) t) (hg : Gl X x := by rfl)
    (hdb : (x == ("__debug__" : Str)) = false := by decide) (he : starEach (e :: es) X.env = (false, eval e X.env) :: starEach es X.env := by rfl) (hpl : (backTo pos (starEach es X.env)).any (·.1) = false := by rfl) : PE X (.Call (.Name x p) (e :: es) [] pos) (tCallC X sp t) := by
  obtain ⟨f, fd, F, hm, hkp, hb⟩ := d.ex
  refine ⟨fun pins s σ H Q I h => ?_⟩
  refine wpAny_Call_Name_kw (ld_glob I hg hm (PySem.W.callWith_K (h₀ := X.base) I.ok.mod.kin hkp (thn (ha.run pos pins s σ H _ I h) fun us s1 hh => ?_) he hpl) hdb)
  obtain ⟨vs, H1, I1, r, q⟩ := hh
  refine ⟨I1.kIn, ?_⟩
  obtain ⟨cs, C, l, nf, nb⟩ := cels I1 hk hfn
  have hq := q cs C fun c o z => (l c o z).1
  have hl : us.length = ps.length := by rw [← r.length]; exact F.len _ _ _ _ hq
  refine wpAny_call (codeAny_mono (F.run X.A X.stack s1 (lay H1 cs) ⟨us, []⟩ us vs _ E0 hr (env0_lay I1.env0 l nf nb) (by have := hb s1 us I1.kIn (by rw [List.append_nil]; exact hl); rw [List.append_nil] at this; exact this) r hq) fun r s' hq => ?_)
  cases r with
  | error e => exact False.elim hq
  | ok fl =>
    cases fl with
    | ret u => exact I1.after (ce_bar l hq)
    | next => exact False.elim hq
    | brk => exact False.elim hq
    | cont => exact False.elim hq
end
end HW

set_option Elab.async false
set_option linter.all false
set_option maxRecDepth 100000
set_option maxHeartbeats 1000000
namespace HW
open PySem PySem.Spec PyProof.Rows L2 Evl SX
/-! ### defs that may raise -/
/-- the raised one's dict -/
def XdIs (fl : Option (List (Str × V))) (d : Option Addr) (H H' : Hp) : Prop := match fl with
  | none => d = none
  | some fs => ∃ dd, d = some dd ∧ H dd = none ∧ H' dd = some (.xd fs)
abbrev Out := D ⊕ (Str × Option (List (Str × V)))
def SpX (mg : Str → Option Value) (n : Nat) (R : List D → Out → Prop) : Sp := fun vs H Q E => ∃ ds o, ds.length = n ∧ Rps H ds vs ∧ R ds o ∧ match o with
  | .inl d => ∀ v H', Ex H H' → Rp H' d v → Q v H'
  | .inr (nm, fl) => ∀ C d H', mg nm = some (.ref C) → Ex H H' → XdIs fl d H H' → E (.ref C) d H'
theorem SpX.len {mg : Str → Option Value} {n : Nat} {R : List D → Out → Prop} {vs : List V} {H : Hp} {Q : VK} {E : XK} (h : SpX mg n R vs H Q E) : vs.length = n := by
  obtain ⟨ds, o, h1, h2, _⟩ := h
  rw [rps_len h2, h1]
structure DfX (P : Program) (w : World) (K : PySem.W.Frag) (mg : Str → Option Value) (base : Heap) (x : Str) (ps : List Str) (k : Nat) (sp : Sp) : Prop where
  ex : ∃ f fd, FnOk P w K mg base (L2.CX P w) k f fd ps sp ∧ mg x = some (.ref f) ∧ PySem.W.keepIn K (.ref f) = true ∧ Binds K fd ps []
theorem DfX.pe {X : Cx} {x : Str} {ps : List Str} {k : Nat} {sp : Sp} {e : Expr} {es : List Expr} {t : TA} {p pos : Pos} {E : XK} (d : DfX X.prog X.w X.K X.mg X.base x ps k sp) (hr : Room k X.A) (hx : Passes (L2.CX X.prog X.w) X E) (ha : PA X (e :: es) t) (hg : Gl X x := by rfl)
    (hdb : (x == ("__debug__" : Str)) = false := by decide) (he : starEach (e :: es) X.env = (false, eval e X.env) :: starEach es X.env := by rfl) (hpl : (backTo pos (starEach es X.env)).any (·.1) = false := by rfl) : PE X (.Call (.Name x p) (e :: es) [] pos) (tCall sp [] E t) := by
  obtain ⟨f, fd, h1, h2, h3, h4⟩ := d.ex
  exact pe_call h1 hr hg h2 h3 h4 .nil hx ha hdb he hpl
/-- no way out is wished for -/
theorem passX0 {X : Cx} : Passes (L2.CX X.prog X.w) X E0 := fun _ _ _ _ _ _ _ h => by
  obtain ⟨_, _, _, _, _, _, _, _, _, _, _, _, z⟩ := h
  exact z.elim
section
variable {K : PySem.W.Frag} {mg : Str → Option Value} {σ : L2.St} {H H' : Hp} {ta tb te tx : TE} {t u : TT} {d e : D} {ds : List D} {D' : Ends} {tz tw tu : TS} {r : R2} {g : TG}
theorem ed_callX {n : Nat} {R : List D → Out → Prop} {E : XK} {ta : TA} (h : EvDA ta σ H ds) (hR : R ds (.inl d)) (hn : ds.length = n := by rfl) : EvD (tCall (SpX mg n R) [] E ta) σ H d := fun H1 e Q q =>
  h H1 e _ fun vs H2 e2 rs => ⟨ds, .inl d, hn, by rw [List.append_nil]; exact rs, hR, fun v H3 e3 r => q v H3 (e2.trans e3) r⟩
/-- it raises -/
def ExR (te : TE) (σ : L2.St) (H : Hp) : Prop := ∀ H1, Ex H H1 → ∀ Q : VK, te σ H1 Q
theorem XdIs.ex {fl : Option (List (Str × V))} {d : Option Addr} {H H1 H2 : Hp} (e : Ex H H1) (h : XdIs fl d H1 H2) : XdIs fl d H H2 := by
  cases fl with
  | none => exact h
  | some fs =>
    obtain ⟨dd, h1, h2, h3⟩ := h
    exact ⟨dd, h1, fresh_back e h2, h3⟩
theorem XdIs.fwd {fl : Option (List (Str × V))} {d : Option Addr} {H H1 H2 : Hp} (e : Ex H1 H2) (h : XdIs fl d H H1) : XdIs fl d H H2 := by
  cases fl with
  | none => exact h
  | some fs =>
    obtain ⟨dd, h1, h2, h3⟩ := h
    exact ⟨dd, h1, h2, e _ _ h3⟩
theorem ex_call {n : Nat} {R : List D → Out → Prop} {E : XK} {ta : TA} {nm : Str} {fl : Option (List (Str × V))} (h : EvDA ta σ H ds) (hR : R ds (.inr (nm, fl))) (k : ∀ C d H', mg nm = some (.ref C) → Ex H H' → XdIs fl d H H' → E (.ref C) d H') (hn : ds.length = n := by rfl) : ExR (tCall (SpX mg n R) [] E ta) σ H := fun H1 e Q =>
  h H1 e _ fun vs H2 e2 rs => ⟨ds, .inr (nm, fl), hn, by rw [List.append_nil]; exact rs, hR, fun C d H3 hC e3 x3 => k C d H3 hC ((e.trans e2).trans e3) (x3.ex (e.trans e2))⟩
theorem sx_ret (h : ExR te σ H) : tRet te D' σ H := h H (Ex.refl _) _
theorem qx_asg (h : ExR te σ H) : tSeq (tAsg te g) tz D' σ H := h H (Ex.refl _) _
theorem qx_drop (h : ExR te σ H) : tSeq (tDrop te) tz D' σ H := h H (Ex.refl _) _
end
/-! ### the classes of errors -/
structure Xc (K : PySem.W.Frag) (mg : Str → Option Value) (x : Str) (C : Addr) : Prop where
  ex : PySem.W.excIn K C [.type "ValueError", .type "Exception", .type "BaseException", .type "object"] "ValueError.__new__" = true
  g : mg x = some (.ref C)
  kp : PySem.W.keepIn K (.ref C) = true
  sub : PySem.W.subIn K (.ref C) (.type "BaseException") = some true
  ty : PySem.W.typeIn K (.ref C) = some (.type "type")
theorem sx_raise {mg : Str → Option Value} {x : Str} {C : Addr} {σ : L2.St} {H : Hp} {D' : Ends} {E : XK} (g : mg x = some (.ref C)) (k : ∀ C d H', mg x = some (.ref C) → Ex H H' → XdIs none d H H' → E (.ref C) d H') :
    (fun (_ : Ends) (σ : L2.St) (H : Hp) => (fun _ H (Q : XK) => Q (.ref C) none H) σ H fun cls d H' => (fun cls d _ H => E cls d H) cls d σ H') D' σ H := k C none H g (Ex.refl _) rfl
/-! ### functions known by their object, that raise -/
def Raises (P : Program) (w : World) (K : PySem.W.Frag) (mg : Str → Option Value) (base : Heap) (k : Nat) (H : Hp) (f : Addr) (nm : Str) (fl : Option (List (Str × V))) : Prop :=
  ∀ H1, Ex H H1 → ∀ (Q : VK) (E : XK), (∀ C d H2, mg nm = some (.ref C) → Ex H1 H2 → XdIs fl d H1 H2 → E (.ref C) d H2) → Act P w K mg base k H1 f Q E
theorem Raises.ex {P : Program} {w : World} {K : PySem.W.Frag} {mg : Str → Option Value} {base : Heap} {k : Nat} {H H' : Hp} {f : Addr} {nm : Str} {fl : Option (List (Str × V))} (h : Raises P w K mg base k H f nm fl) (e : Ex H H') : Raises P w K mg base k H' f nm fl := fun H1 e1 => h H1 (e.trans e1)
theorem ex_bar {H H1 : Hp} {cs : Cl} (hn : FreeOf H cs) (e : Ex (lay H cs) H1) : Ex H (bar H1 cs) := fun b o h => by
  have no := out_of hn h
  rw [bar_out no]
  exact e b o (by rw [lay_out no]; exact h)
theorem ex_lay {H1 H2 : Hp} {cs : Cl} (l : LaidIn H1 cs) (e : Ex (bar H1 cs) H2) : Ex H1 (lay H2 cs) := fun b o h => by
  cases q : cs.lookup b with
  | some o' => rw [lay_in q, ← l b o' q]; exact h
  | none =>
    rw [lay_out q]
    exact e b o (by rw [bar_out q]; exact h)
theorem exO_lay {H : Hp} {cs : Cl} (hn : FreeOf H cs) : ExO H (lay H cs) := fun b φ h => by
  rw [lay_out (out_of hn h)]
  exact h
theorem lam_raises {X : Cx} {σ : L2.St} {cs : Cl} {H : Hp} {f : Addr} {params : Arguments} {body : Expr} {scope : Scope} {k : Nat} {t : XK → TE} {nm : Str} {fl : Option (List (Str × V))} (l : LamIs X params body scope f H) (C : CelOk X σ cs) (hn : FreeOf H cs) (L : LmS X.N X.env.scope scope) (hk : ∀ x, X.env.kindOf x = X.env.scope.names.lookup x)
    (hbody : ∀ (A : Around) (outer : List Env) (s : Shared) (H : Hp) (E : XK) (f c' : Addr), Room k (A.deeper (LamX.lamEnv X scope s.heap.objs.size f c')) → PE (LamX.lamCx X A outer s H E scope f c') body (t E))
    (hr : ∀ H1 (E : XK), Ex H H1 → (∀ C d H2, X.mg nm = some (.ref C) → Ex H1 H2 → XdIs fl d H1 H2 → E (.ref C) d H2) → ExR (t E) σ H1) : Raises X.prog X.w X.K X.mg X.base (k + 1) (lay H cs) f nm fl := fun H1 e1 Q E q => by
  obtain ⟨pm, ctv, dV, c', ds, bs, h1, h2, h3, h4⟩ := (l.mono (exO_lay hn)).ex
  have lc : LaidIn H1 cs := laid_lay.ex e1
  refine ⟨_, _, e1 _ _ h1, ⟨_, _, _, _, rfl⟩, lam_run C L hk h4 (fun A outer s H E f hr => hbody A outer s H E f c' hr), e1 _ _ h2, h3.ex e1, lc, ?_⟩
  refine hr (bar H1 cs) _ (ex_bar hn e1) (fun C d H2 hC e2 x2 hf => q C d (lay H2 cs) hC (ex_lay lc e2) ?_) (bar H1 cs) (Ex.refl _) _
  cases fl with
  | none => exact x2
  | some fs =>
    obtain ⟨dd, a1, a2, a3⟩ := x2
    have no := out_of hf a3
    exact ⟨dd, a1, by rw [bar_out no] at a2; exact a2, by rw [lay_out no]; exact a3⟩
end HW
namespace HW
open PySem PySem.Spec PyProof.Rows L2 Evl SX
/-- a def whose code object is known -/
structure FunC (K : PySem.W.Frag) (x qual : Str) (st : Stmt) (f : Addr) (fd : FuncData) (c : Addr) : Prop where
  ex : ∃ (oc : Value) (od : Option Addr) (kV doc pm : Value) (an : Option Addr) (ct : Value) (osl : Array (Option Value)),
    fd = PySem.W.fnOf x qual (defArgs st) (defBody st) (defScope st) .none kV doc pm an (.ref c) ct ∧ K.lookup f = some ⟨oc, od, .func fd, osl⟩ ∧ PySem.W.codeIn K (.ref c) qual = true
theorem FunC.ok {P : Program} {w : World} {K : PySem.W.Frag} {mg : Str → Option Value} {base : Heap} {x qual : Str} {st : Stmt} {f c : Addr} {fd : FuncData} {N ps : List Str} {k : Nat} {sp : Sp} (F : FunC K x qual st f fd c) (S : FnScope N ps (defScope st)) (len : ∀ vs H Q E, sp vs H Q E → vs.length = ps.length)
    (hbody : ∀ (A : Around) (outer : List Env) (s : Shared) (H : Hp) (vs : List V) (Q : VK) (E : XK), Room k (A.deeper (envOfC qual (defScope st) s.heap.objs.size f (.ref c))) → sp vs H Q E →
      ∃ t, PSs (cxOf L2.CX0 P w K mg base N qual (defScope st) f (.ref c) A outer s H E).nox (defBody st) t ∧ t { nx := fun _ H' => Q .non H', rt := Q } (start N vs) H) : FnOk P w K mg base L2.CX0 (k + 1) f fd ps sp := by
  obtain ⟨oc, od, kV, doc, pm, an, ct, osl, rfl, lk, hcd⟩ := F.ex
  refine fn_of lk hcd S len fun A outer s H vs Q E hr hsp => ?_
  obtain ⟨t, h, q⟩ := hbody A outer s H vs Q E hr hsp
  exact ⟨t, h.nox, q⟩
section
variable {K : PySem.W.Frag} {σ : L2.St} {H : Hp} {ta te : TE} {t : TT}
/-- a comprehension of which nothing passes the test -/
theorem ed_lc0 {j : Nat} {ws : List Nat} {p : Addr} {xs : List V} (h : Ev ta σ H (.ref p)) (hp : H p = some (.lst xs)) (hw : ∀ x, wipe ((wipe σ ws).set j (some x)) ws = wipe σ ws) (ht : ∀ (i : Nat) (x : V) H1, xs[i]? = some x → Ex H H1 → EvT t ((wipe σ ws).set j (some x)) H1 false) :
    EvD (tLc (iList K ta) (gName j) t te ws) σ H (.lst []) := fun H0 e Q q => h H0 e _ fun H1 e1 => by
  refine ⟨p, rfl, ⟨xs, sq_of ((e.trans e1) _ _ hp)⟩, fun Dl hD => ?_⟩
  refine lc_it (walk_list (K := K) (a := p) (xs := xs)) (fun i H' => Ex H1 H' ∧ H' Dl = some (.lst [])) ⟨Ex.new hD, upd_same⟩ (fun i H' hi ⟨p1, _⟩ => sq_of ((e.trans (e1.trans p1)) _ _ hp)) (fun i x H' H'' hi ⟨p1, p2⟩ hy => ?_) fun H' ⟨p1, p2⟩ => q _ H' (e1.trans p1) (rp_lst.mpr ⟨Dl, [], rfl, p2, rps_nil.mpr rfl⟩)
  obtain ⟨rfl, hx⟩ := hy
  refine ⟨hw x, ht i x H'' hx (e.trans (e1.trans p1)) H'' (Ex.refl _) _ fun H3 e3 => ?_⟩
  show _ ∧ _
  exact ⟨p1.trans e3, e3 _ _ p2⟩
end
end HW

set_option Elab.async false
set_option linter.all false
set_option maxRecDepth 100000
set_option maxHeartbeats 1000000
namespace HW
open PySem PySem.Spec PyProof.Rows L2 Evl SX
/-! ### list.count, flat items -/
def rCountL (K : PySem.W.Frag) : V → List V → Hp → VK → Prop := fun x xs H Q => ∃ (a : Addr) (ys : List V) (y : V), x = V.ref a ∧ xs = [y] ∧ SqL K H a ys ∧ flatV y = true ∧ ys.all flatV = true ∧ Q (.int ((ys.countP fun z => eqV z y : Nat) : Int)) H
theorem mt_countL {X : Cx} : MtR X "list.count" (rCountL X.K) := by
  intro pins s σ H x xs v us Q I rx rxs h
  obtain ⟨a, ys, y, rfl, rfl, hs, fy, fys, q⟩ := h
  cases rx
  cases rxs with
  | cons ry rt =>
    rename_i uy ut
    cases rt
    obtain ⟨its, rv, ⟨⟨cls, dd, data, sl⟩, n, ho, hc, hdn, hd⟩, hlen⟩ := I.list hs
    simp only at hc hd
    subst hc hd
    have hcnt : ∀ {ys : List V} {its : List Value}, Vals ys its → ys.all flatV = true → its.countP (eqU y) = ys.countP fun z => eqV z y := by
      intro ys its r
      induction r with
      | nil => intro _; rfl
      | cons r1 r2 ih =>
        intro f
        rw [List.all_cons, Bool.and_eq_true] at f
        rw [List.countP_cons, List.countP_cons, ih f.2, eqU_of r1 f.1]
    refine call_meets PySem.F.slot_list_count ⟨_, ho, rfl⟩ PySem.F.entry_list_count (PySem.F.args_list_count_2 _ _) (SeqAt.list_countAt a its.toArray n dd sl uy (eqU y)) ⟨ho, fun u' hu' => mem_eqAt ry fy rv fys u' (by simpa using hu'), ?_⟩
    refine ⟨.int ((ys.countP fun z => eqV z y : Nat) : Int), H, I.tok _, ⟨s.toks, by rw [← hcnt rv fys]⟩, q⟩
/-! ### isinstance of the caught one -/
def rIsX (K : PySem.W.Frag) (cls : Value) (d : Option Addr) (a : Addr) : List V → Hp → VK → Prop := fun xs H Q => ∃ (D : Addr) (c : V) (cv : Value) (b : Bool), cls = .ref D ∧ ExcC K D ∧ (d = none ∨ ∃ dd fs, d = some dd ∧ H dd = some (.xd fs)) ∧ xs = [.ref a, c] ∧ (∀ u, RelV c u → u = cv) ∧ PySem.W.kitOne K (.ref D) cv = some b ∧ Q (.bl b) H
theorem call_isX {X : Cx} {a : Addr} {cls : Value} {d : Option Addr} {oe : Obj} {pn : List (Addr × Obj)} (hz : Zc cls d oe) (hf : ∃ vs, oe.data = .fields vs) : CallR (X.suite a ((a, oe) :: pn)) (.builtin "isinstance") (rIsX X.K cls d a) := by
  intro pins s σ H xs us Q I r h
  obtain ⟨D, c, cv, b, hcls, C, hd, rfl, hcv, e, q⟩ := h
  cases r with
  | cons rx rr =>
    cases rr with
    | cons rt rr =>
      cases rr
      cases rx
      have ec := hcv _ rt
      subst ec
      obtain ⟨hget, _⟩ := I.pin (a, oe) (List.mem_append.mpr (.inl List.mem_cons_self))
      obtain ⟨vs, hv⟩ := hf
      have hJ : ∃ od, PySem.W.InstAt s.heap a oe D od := by
        rcases hd with hd | ⟨dd, fs, hd, hH⟩
        · refine ⟨none, hget, by rw [hz.1, hcls], by unfold PySem.W.notCls; rw [hv] <;> rfl, ?_⟩
          rw [hz.2, hd]
          trivial
        · obtain ⟨mA, ⟨od, _, _, ho, _⟩, _⟩ := I.hok dd _ hH
          refine ⟨some od, hget, by rw [hz.1, hcls], by unfold PySem.W.notCls; rw [hv] <;> rfl, ?_⟩
          rw [hz.2, hd]
          exact ho
      obtain ⟨od, J⟩ := hJ
      obtain ⟨cd, hc, _⟩ := PySem.W.any_some C.hd
      exact PySem.W.kia_one (PySem.W.kitx_exc (by rw [hc]; rfl) C.hg C.hk C.hs C.ha C.hn C.ht C.hm) I.kIn J e (fun z => nomatch z) fun tk => ⟨.bl b, H, I.kept (t' := tk) fun _ _ z => z, rfl, q⟩
def excCB (K : PySem.W.Frag) (D : Addr) : Bool := decide (PySem.W.findIn K (.ref D) "__getattribute__" = some (some (.builtin "BaseException.__getattribute__"))) && decide (PySem.W.findIn K (.ref D) "__getattr__" = some none) && decide (PySem.W.subIn K (.ref D) (.type "BaseException") = some true) && PySem.W.hasDictIn K D &&
  decide (PySem.W.findIn K (.ref D) "__class__" = some (some (.builtin "object.__class__"))) && decide (PySem.W.specialIn K (.builtin "object.__class__") "__get__" = some (some (.builtin "getset_descriptor.__get__"))) && decide (PySem.W.takesIn K (.builtin "object.__class__") = some true) && decide (PySem.W.mroIn K D (.type "object") = some true)
theorem excC_by {K : PySem.W.Frag} {D : Addr} (h : excCB K D = true) : ExcC K D := by
  unfold excCB at h
  simp only [Bool.and_eq_true, decide_eq_true_eq] at h
  obtain ⟨⟨⟨⟨⟨⟨⟨h1, h2⟩, h3⟩, h4⟩, h5⟩, h6⟩, h7⟩, h8⟩ := h
  exact ⟨h1, h2, h3, h4, h5, h6, h7, h8⟩
/-! ### the words of the refusals -/
def wNames : List String := ["BadSheet", "BadPlace", "BadEdit", "BadFile", "Opened", "NoFile", "TooMany", "BadAsk", "NoAsk", "Old", "Fallen", "NotFallen", "BadLetter", "BadText"]
/-- the classes stand as they should: no one of them under another, all under WireError -/
def wkB (K : PySem.W.Frag) (Cs : List Addr) (CW : Addr) : Bool := decide (Cs.length = 14) && (List.range 14).all fun j => match Cs[j]? with
  | none => false
  | some Cj => excCB K Cj && decide (PySem.W.exmOne K (.ref Cj) (.ref CW) = some true) && decide (PySem.W.kitOne K (.ref Cj) (.type "ValueError") = some true) && (List.range 14).all fun i => match Cs[i]? with
    | none => false
    | some Ci => decide (PySem.W.kitOne K (.ref Cj) (.ref Ci) = some (decide (i = j)))
structure Wk (K : PySem.W.Frag) (mg : Str → Option Value) (Cs : List Addr) (CW : Addr) : Prop where
  ok : wkB K Cs CW = true
  nm : ∀ (i : Nat) n C, wNames[i]? = some n → Cs[i]? = some C → mg (Str.ofString n) = some (.ref C)
  w : mg "WireError" = some (.ref CW)
theorem Wk.len {K : PySem.W.Frag} {mg : Str → Option Value} {Cs : List Addr} {CW : Addr} (h : Wk K mg Cs CW) : Cs.length = 14 := by
  have := h.ok
  unfold wkB at this
  rw [Bool.and_eq_true] at this
  exact of_decide_eq_true this.1
theorem Wk.at {K : PySem.W.Frag} {mg : Str → Option Value} {Cs : List Addr} {CW Cj : Addr} {j : Nat} (h : Wk K mg Cs CW) (hj : Cs[j]? = some Cj) : ExcC K Cj ∧ PySem.W.exmOne K (.ref Cj) (.ref CW) = some true ∧ PySem.W.kitOne K (.ref Cj) (.type "ValueError") = some true ∧ ∀ i Ci, Cs[i]? = some Ci → PySem.W.kitOne K (.ref Cj) (.ref Ci) = some (decide (i = j)) := by
  have hl := h.len
  have := h.ok
  unfold wkB at this
  rw [Bool.and_eq_true] at this
  have h2 := List.all_eq_true.mp this.2 j (List.mem_range.mpr (by rw [← hl]; exact (List.getElem?_eq_some_iff.mp hj).1))
  rw [hj] at h2
  simp only [Bool.and_eq_true, decide_eq_true_eq] at h2
  obtain ⟨⟨⟨a1, a2⟩, a3⟩, a4⟩ := h2
  refine ⟨excC_by a1, a2, a3, fun i Ci hi => ?_⟩
  have h3 := List.all_eq_true.mp a4 i (List.mem_range.mpr (by rw [← hl]; exact (List.getElem?_eq_some_iff.mp hi).1))
  rw [hi] at h3
  exact of_decide_eq_true h3
end HW

set_option Elab.async false
set_option linter.all false
set_option maxRecDepth 100000
set_option maxHeartbeats 1000000
namespace HW
open PySem PySem.Spec PyProof.Rows L2 Evl SX
/-! ### the end of a law whose def makes lambdas -/
theorem law_tab {P : Program} {w : World} {K : PySem.W.Frag} {mg mb : Str → Option Value} {k : Nat} {fa a c T : Addr} {fd : FuncData} {x : Str} {sp : Sp} {s₁ : Shared} {vs : List Value} {ns : List Int}
    (KX : K.In s₁.heap) (hns : s₁.heap.Ns mainGlobals mg) (hb : s₁.heap.Ns builtinsNs mb) (hbb : ∀ x : Str, x ≠ "__name__" → mb x = bootBuiltins x) (hlim : s₁.heap.NoLimit) (hg : s₁.gens = #[])
    (hT : s₁.heap.get? T = some { cls := .none, data := .fields #[] }) (nT : K.lookup T = none) (C : PySem.W.CodeHd s₁.heap c T)
    (hbm : ∃ (bm : Addr) (ob : Obj), mg "__builtins__" = some (.ref bm) ∧ bm ≠ builtinsNs ∧ s₁.heap.get? bm = some ob ∧ ob.cls = .type "module" ∧ ob.dict = some builtinsNs ∧ ob.data = .plain)
    (ha : s₁.heap.get? a = some { cls := .type "list", data := .seq vs.toArray }) (hi : IntsAre vs ns) (hl : ns.length ≤ sizeLine) (hr : Room k callerA)
    (F : ∀ base : Heap, K.In base → base.Ns mainGlobals mg → LamX.TabB base mg c T → FnOk P w K mg base L2.CX0 k fa fd [x] sp) (hbind : ∀ (s : Shared) (u : Value), BindsTo s fd ⟨[u], []⟩ [(x, u)])
    (hsp : ∀ H : Hp, H T = some (.tbl #[]) → Scr K H a (ns.map V.int) → sp [.ref a] H (fun v _ => v = .bl true) L2.E0) :
    codeAny (model P w) callerA (.call (.ref fa) ⟨[.ref a], []⟩) (fun r s' => r = .ok (.ret (.bool true)) ∧ OldK s₁.heap s'.heap ∧ s'.os = s₁.os ∧ AllBare s'.gens) s₁ := by
  have rv := vals_ints hi
  have lenV := hi.length
  have aT : a ≠ T := fun z => by
    rw [z, hT] at ha
    cases ha
  have main : ∀ H : Hp, H T = some (.tbl #[]) → (∀ b, b ≠ T → H b = none ∨ (b = a ∧ K.lookup a = none ∧ H b = some (.frz { cls := .type "list", data := .seq vs.toArray } (.lst (ns.map V.int))))) → Scr K H a (ns.map V.int) → HOk P w H s₁.heap →
      codeAny (model P w) callerA (.call (.ref fa) ⟨[.ref a], []⟩) (fun r s' => r = .ok (.ret (.bool true)) ∧ OldK s₁.heap s'.heap ∧ s'.os = s₁.os ∧ AllBare s'.gens) s₁ := by
    intro H hH hO hS hok
    have toB : ∀ {b : Addr} {o : Obj}, s₁.heap.get? b = some o → H b = none → (hidT s₁.heap H).get? b = some o := fun e n => hidT_get e n
    have no : ∀ {b : Addr} {o : Obj}, s₁.heap.get? b = some o → (∀ vs n, o.data ≠ .seq vs n) → o.data ≠ .fields #[] → H b = none := fun {b o} e h1 h2 => by
      by_cases hbT : b = T
      · rw [hbT, hT] at e
        cases e
        exact absurd rfl h2
      · rcases hO b hbT with z | ⟨z, _⟩
        · exact z
        · rw [z, ha] at e
          cases e
          exact absurd rfl (h1 _ _)
    have nsK : ∀ {b : Addr} {m : Str → Option Value}, s₁.heap.Ns b m → (hidT s₁.heap H).Ns b m := fun {b m} ⟨o, es, ep, e, d, r⟩ => ⟨o, es, ep, toB e (no e (fun vs n z => by rw [d] at z; cases z) fun z => by rw [d] at z; cases z), d, r⟩
    have hKb : K.In (hidT s₁.heap H) := fun b o e => toB (KX b o e) (by
      by_cases hbT : b = T
      · rw [hbT, nT] at e
        cases e
      · rcases hO b hbT with z | ⟨z, z2, _⟩
        · exact z
        · rw [z, z2] at e
          cases e)
    have hM : L2.Mod K mg (hidT s₁.heap H) := ⟨hKb, nsK hns, ⟨mb, nsK hb, hbb⟩, let ⟨mc, h1, h2⟩ := hlim; ⟨mc, nsK h1, h2⟩⟩
    have TB : LamX.TabB (hidT s₁.heap H) mg c T := by
      refine ⟨?_, ?_, fun z => ?_⟩
      · obtain ⟨o, us, file, tf, flags, tg, inF, text, tt, e1, r1, r2, r3, r4⟩ := C
        refine ⟨o, us, file, tf, flags, tg, inF, text, tt, toB e1 (no e1 (fun vs n z => by rw [r2] at z; cases z) fun z => ?_), r1, r2, r3, r4⟩
        rw [r2] at z
        cases z
        simp at r3
      · obtain ⟨bm, ob, b1, b2, b3, b4, b5, b6⟩ := hbm
        refine ⟨bm, ob, b1, b2, fun q => ?_, fun q => ?_, toB b3 (no b3 (fun vs n z => by rw [b6] at z; cases z) fun z => by rw [b6] at z; cases z), b4, b5, b6⟩
        · obtain ⟨o, es, ep, e, hd, _⟩ := hns
          rw [q, e] at b3
          cases b3
          rw [hd] at b6
          cases b6
        · rw [q, hT] at b3
          cases b3
          cases b6
      · obtain ⟨o, es, ep, e, hd, _⟩ := hns
        rw [z, hT] at e
        cases e
        cases hd
    have e0 : Env0 P w K mg (hidT s₁.heap H) callerA [] s₁ H := ⟨rfl, hM, fun b o e => of_hidT e, Nat.le_of_eq (hidT_size _ _), trivial, fun b hb => absurd (show b ∈ ([] : List Addr) from hb) (by simp), hok, .of_eq hg⟩
    refine codeAny_mono ((F _ hKb (nsK hns) TB).run callerA [] s₁ H ⟨[.ref a], []⟩ [.ref a] [.ref a] _ _ hr e0 (hbind s₁ (.ref a)) (.cons rfl .nil) (hsp H hH hS)) fun r s' h => ?_
    cases r with
    | error e => exact False.elim h
    | ok fl =>
      cases fl with
      | next => exact False.elim h
      | brk => exact False.elim h
      | cont => exact False.elim h
      | ret u =>
        obtain ⟨v, H', os, bare, un, hok', r', q⟩ := h
        have q' : v = .bl true := q
        subst q'
        obtain rfl : u = Value.bool true := r'
        have key : ∀ b o, b ≠ T → s₁.heap.get? b = some o → s'.heap.get? b = some o := fun b o nb e => by
          rcases hO b nb with z | ⟨_, _, z⟩
          · exact un.keep b o e z (fun y => by cases y) (by simp)
          · obtain ⟨e1, _⟩ := hok b _ z
            obtain ⟨e2, _⟩ := hok' b _ (un.frzs b _ _ z)
            rw [e] at e1
            cases e1
            exact e2
        obtain ⟨more, hmore⟩ := un.tbls T #[] hH
        have hm : s'.heap.get? T = some { cls := .none, data := .fields (#[] ++ more) } := hok' T _ hmore
        refine ⟨rfl, ⟨fun b o e => ?_, fun b o e => ?_⟩, os, bare⟩
        · by_cases hbT : b = T
          · rw [hbT] at e ⊢
            rw [hT] at e
            cases e
            exact .inr (.inl ⟨(C.tab hT).isCodeTable, rfl, #[], more, rfl, hm⟩)
          · exact .inl (key b o hbT e)
        · by_cases hbT : b = T
          · rw [hbT]
            exact ⟨_, hm⟩
          · exact ⟨o, key b o hbT e⟩
  cases hk : K.lookup a with
  | some o =>
    have e := KX a o hk
    rw [ha] at e
    cases e
    refine main (fun b => if b = T then some (.tbl #[]) else none) (if_pos rfl) (fun b nb => .inl (if_neg nb)) (.inr ⟨_, vs.toArray, _, hk, rfl, rfl, rfl, by rw [List.size_toArray, lenV]; exact hl, by simpa using rv⟩) fun b u z => ?_
    by_cases hbT : b = T
    · have z' := (if_pos hbT).symm.trans z
      cases z'
      rw [hbT]
      exact hT
    · have z' := (if_neg hbT).symm.trans z
      cases z'
  | none =>
    refine main (fun b => if b = T then some (.tbl #[]) else if b = a then some (.frz { cls := .type "list", data := .seq vs.toArray } (.lst (ns.map V.int))) else none) (if_pos rfl) (fun b nb => ?_) (.inl ⟨_, (if_neg aT).trans (if_pos rfl)⟩) fun b u z => ?_
    · by_cases hba : b = a
      · exact .inr ⟨hba, hk, (if_neg nb).trans (if_pos hba)⟩
      · exact .inl ((if_neg nb).trans (if_neg hba))
    · by_cases hbT : b = T
      · have z' := (if_pos hbT).symm.trans z
        cases z'
        rw [hbT]
        exact hT
      · have z1 := (if_neg hbT).symm.trans z
        by_cases hba : b = a
        · have z' := (if_pos hba).symm.trans z1
          cases z'
          rw [hba]
          exact ⟨ha, by rw [List.length_map]; exact hl, vs, _, rv, ha⟩
        · have z' := (if_neg hba).symm.trans z1
          cases z'
theorem tab_is {K : PySem.W.Frag} {x : Str} {f c T : Addr} {oc cc : Value} {od cd : Option Addr} {sl csl : Array (Option Value)} {fd : FuncData} {vs : Array Value} (h1 : PySem.W.nsIn K mainGlobals x = some (some (.ref f))) (h2 : K.lookup f = some ⟨oc, od, .func fd, sl⟩) (h3 : fd.code = .ref c) (h4 : K.lookup c = some ⟨cc, cd, .fields vs, csl⟩) (h5 : vs[11]? = some (.ref T)) : PySem.W.tabIn K x = some (c, T) := by
  unfold PySem.W.tabIn
  rw [h1]
  simp only [h2, h3, h4, h5]
theorem walk_tab {l : PySem.W.OpenLaw} {n k : Nat} {q : Program} {loose : List Str} {XP : (Str → Option Value) → Heap → Prop} {YP : World → Heap → Prop} {d : DefRec} {K : Params → PySem.W.Frag} {x : Str}
    (hn : l.most = some n) (hn2 : n ≤ sizeLine) (hdf : d.params.defaults = []) (hr : Room k callerA) (hY : ∀ (w : World) (h : Heap), YP w h → (K w.params).In h)
    (F : ∀ (w : World) (mg : Str → Option Value) (fa : Addr) (h : Heap), YP w h → (K w.params).In h → h.Ns mainGlobals mg → mg d.name = some (.ref fa) →
      ∃ (fd : FuncData) (c T : Addr) (sp : Sp), PySem.W.codeHdIn (K w.params) c T = true ∧ h.get? T = some { cls := .none, data := .fields #[] } ∧ (K w.params).lookup T = none ∧ (∀ (s : Shared) (u : Value), BindsTo s fd ⟨[u], []⟩ [(x, u)]) ∧
        (∀ (H : Hp) (a : Addr) (ns : List Int), H T = some (.tbl #[]) → Scr (K w.params) H a (ns.map V.int) → sp [.ref a] H (fun v _ => v = .bl true) L2.E0) ∧
        ∀ base : Heap, (K w.params).In base → base.Ns mainGlobals mg → LamX.TabB base mg c T → FnOk l.prog w (K w.params) mg base L2.CX0 k fa fd [x] sp) :
    PySem.W.WalkO q loose XP YP l.row.toRowW d [] (fun f vs => PySem.call f vs) := by
  refine Att.attach_callB hn hdf fun w s₀ s₁ mg mb fa o pm cd doc a vs ns G Y ho hd' hcd hmg hobj hints hlen hbits hg => ?_
  have KX := hY w _ Y
  obtain ⟨fd, c, T, sp, tb, hT, nT, hb, hsp, hF⟩ := F w mg fa _ Y KX G.T.g hmg
  exact law_tab KX G.T.g G.T.b G.T.builtins G.T.nolimit hg hT nT (PySem.W.codeHd_of_K KX tb) G.T.bmain hobj hints (Nat.le_trans hlen hn2) hr hF hb fun H h1 h2 => hsp H a ns h1 h2
end HW

set_option Elab.async false
set_option linter.all false
set_option maxRecDepth 100000
set_option maxHeartbeats 2000000
namespace HW
open PySem PySem.Spec PyProof.Rows L2 Evl SX
/-! ### an error whose __init__ says super().__init__(f"..") and self.x = x -/
structure IniS (x : Str) (sc : Scope) : Prop where
  kind : sc.kind = .function
  co : sc.isCoroutine = false
  gen : sc.isGenerator = false
  self : sc.names.lookup ("self" : Str) = some .local
  x : sc.names.lookup x = some .local
  nocell : ∀ y ∈ sc.names, y.2 ≠ .cell
  free : ∀ y ∈ sc.names, y.2 = .free → y.1 = ("__class__" : Str)
  cls : sc.names.lookup ("__class__" : Str) = some .free
  sup : sc.names.lookup ("super" : Str) = some .globalImplicit
def iniB (x : Str) (sc : Scope) : Bool := decide (sc.kind = .function) && !sc.isCoroutine && !sc.isGenerator && decide (sc.names.lookup ("self" : Str) = some .local) && decide (sc.names.lookup x = some .local) && (sc.names.all fun y => !decide (y.2 = .cell) && (!decide (y.2 = .free) || decide (y.1 = ("__class__" : Str)))) && decide (sc.names.lookup ("__class__" : Str) = some .free) && decide (sc.names.lookup ("super" : Str) = some .globalImplicit)
theorem ini_by {x : Str} {sc : Scope} (h : iniB x sc = true) : IniS x sc := by
  unfold iniB at h
  simp only [Bool.and_eq_true, Bool.or_eq_true, Bool.not_eq_true', decide_eq_true_eq, decide_eq_false_iff_not, List.all_eq_true] at h
  obtain ⟨⟨⟨⟨⟨⟨⟨h1, h2⟩, h3⟩, h4⟩, h5⟩, h6⟩, h7⟩, h8⟩ := h
  exact ⟨h1, h2, h3, h4, h5, fun y hy => (h6 y hy).1, fun y hy e => (h6 y hy).2.resolve_left fun z => z e, h7, h8⟩
def iniCx (CX : CXT) (P : Program) (w : World) (K : PySem.W.Frag) (mg : Str → Option Value) (base : Heap) (N : List Str) (qual : Str) (scope : Scope) (f cda cc : Addr) (A : Around) (outer : List Env) (s : Shared) (H : Hp) (E : XK) : Cx where
  prog := P
  w := w
  K := K
  mg := mg
  base := base
  A := A.deeper (PySem.W.ksEnv qual scope s.heap.objs.size f (.ref cda) cc)
  N := N
  s_0 := s
  H_0 := H
  env := PySem.W.ksEnv qual scope s.heap.objs.size f (.ref cda) cc
  outer := outer
  stack := PySem.W.ksEnv qual scope s.heap.objs.size f (.ref cda) cc :: outer
  ex := []
  calm := true
  fn := fun _ => false
  pn := []
  xe := fun e s' => wpAny (model P w) (A.deeper (PySem.W.ksEnv qual scope s.heap.objs.size f (.ref cda) cc)) (leaving (PySem.W.ksEnv qual scope s.heap.objs.size f (.ref cda) cc) e) (fun _ s'' => CX outer H s E e s'') (fun e' s'' => CX outer H s E e' s'') s'
theorem inv_ini {CX : CXT} {P : Program} {w : World} {K : PySem.W.Frag} {mg : Str → Option Value} {base : Heap} {x qual : Str} {scope : Scope} {f cda cc D : Addr} {A : Around} {outer : List Env} {s : Shared} {H : Hp} {E : XK} {v0 v1 : V} {u0 u1 : Value} {h₁ : Heap} {tk : Nat} {oc : Obj}
    (S : IniS x scope) (hx : x ≠ ("self" : Str)) (hd : A.handled = none) (e0 : Env0 P w K mg base A outer s H) (r0 : RelV v0 u0) (r1 : RelV v1 u1) (hcc : base.get? cc = some oc) (hoc : oc.data = .cell (some (.ref D)))
    (hns : h₁.Ns s.heap.objs.size fun y => ([("self" : Str), x].zip [u0, u1]).reverse.lookup y) (kp : ∀ b o, s.heap.get? b = some o → h₁.get? b = some o) :
    Inv (iniCx CX P w K mg base [("self" : Str), x] qual scope f cda cc A outer s H E) [] [some v0, some v1] H { s with heap := h₁, toks := tk } := by
  have noA : ∀ b : Addr, b ∉ (iniCx CX P w K mg base [("self" : Str), x] qual scope f cda cc A outer s H E).ex := fun b z => absurd (show b ∈ ([] : List Addr) from z) (by simp)
  have lk1 : ∀ {y c}, ([(("__class__" : Str), cc)] : List (Str × Addr)).lookup y = some c → y = ("__class__" : Str) ∧ c = cc := fun {y c} e => by
    have := PySem.mem_of_lookup e
    rw [List.mem_singleton] at this
    cases this
    exact ⟨rfl, rfl⟩
  have hcH := e0.bs cc oc hcc
  refine ⟨⟨e0.mod, S.kind, rfl, rfl, Nat.le_refl _, fun y z c e1 e2 => ?_, fun y hy => ?_, fun y c z _ => ?_, fun _ => hd, Around.frames_deeper e0.frames, .inr ⟨rfl, rfl⟩, fun b z => absurd z (noA b), e0.bs, e0.bsz, fun b _ _ => noA b,
      fun b z => absurd z (noA b), e0.funs, e0.frf⟩,
    rfl, e0.bare, Un.kept kp, ⟨_, hns, fun i y v e1 e2 e3 => ?_⟩, fun y c e => ?_, e0.hok.fresh (Nat.le_refl _), fun y c e => ?_, fun q hq => absurd (show q ∈ ([] : List (Addr × Obj)) ++ [] from hq) (by simp), e0.hok.kept kp, rfl⟩
  · rw [(lk1 e1).1, (lk1 e2).1]
  · have hy : scope.names.lookup y = some .cell ∨ scope.names.lookup y = some .free := hy
    rcases hy with hy | hy
    · exact absurd rfl (S.nocell _ (PySem.mem_of_lookup hy))
    · have := S.free _ (PySem.mem_of_lookup hy) rfl
      have this : y = ("__class__" : Str) := this
      subst this
      exact ⟨cc, List.lookup_cons_self⟩
  · have z : false = true := z
    cases z
  · match i, e1, e2 with
    | 0, e1, e2 =>
      cases e1
      cases e2
      refine ⟨u0, r0, .inl ⟨S.self, ?_⟩⟩
      show ([(x, u1), (("self" : Str), u0)] : List (Str × Value)).lookup ("self" : Str) = some u0
      rw [List.lookup_cons, beq_false_of_ne (Ne.symm hx)]
      exact List.lookup_cons_self
    | 1, e1, e2 =>
      cases e1
      cases e2
      refine ⟨u1, r1, .inl ⟨S.x, ?_⟩⟩
      exact List.lookup_cons_self
    | i + 2, e1, e2 => simp at e2
  · rw [(lk1 e).2]
    exact ⟨_, oc, kp _ _ hcH.1, hoc⟩
  · rw [(lk1 e).2]
    exact hcH.2
/-- a pin added -/
theorem Inv.pinned {X : Cx} {σ : L2.St} {H : Hp} {s : Shared} {u : Addr} {o : Obj} (I : Inv X [] σ H s) (hu : s.heap.get? u = some o) (hH : H u = none) (hl : u ≠ X.env.locals) (hf : u ∉ X.fs) (hc : ∀ v, o.data ≠ .cell v) : Inv X [(u, o)] σ H s :=
  ⟨I.ok, I.os, I.bare, I.base, I.loc, I.cell, I.free, I.freeC, fun p hp => by
    rcases List.mem_append.mp hp with h | h
    · exact I.pin p (List.mem_append_left _ h)
    · rw [List.mem_singleton.mp h]
      exact ⟨hu, hH, hl, hf, hc⟩, I.hok, I.len⟩
theorem Inv.unpin {X : Cx} {pins : List (Addr × Obj)} {σ : L2.St} {H : Hp} {s : Shared} (I : Inv X pins σ H s) : Inv X [] σ H s :=
  ⟨I.ok, I.os, I.bare, I.base, I.loc, I.cell, I.free, I.freeC, fun p hp => I.pin p (List.mem_append_left _ (by simpa using hp)), I.hok, I.len⟩
def sp_init (C : Addr) (x : Str) : Sp := fun vs H Q _ => ∃ (a : Addr) (n : Int), vs = [.ref a, .int n] ∧ n.natAbs.log2 < 1920 ∧ (Str.ofString (toString n)).length ≤ 1000 ∧ H a = some (exo a C none) ∧ ∀ dx, H dx = none → dx ≠ a → Q .non (upd (upd H dx (exd dx [(x, .int n)])) a (exo a C (some dx)))
/-- what must stand for such a class -/
structure IniC (P : Program) (K : PySem.W.Frag) (mg : Str → Option Value) (x qual : Str) (C D fI cda cc : Addr) (params : Arguments) (scope : Scope) : Prop where
  S : IniS x scope
  hx : x ≠ ("self" : Str)
  par : (params.posonlyargs ++ params.args).head?.map (·.arg) = some ("self" : Str)
  code : PySem.W.codeIn K (.ref cda) qual = true
  file : ∃ oc od vs sl file tf, K.lookup cda = some ⟨oc, od, .fields vs, sl⟩ ∧ vs[2]? = some (.str file tf) ∧ ((P.main.file : Str) == file) = true
  cell : ∃ oc od sl, K.lookup cc = some ⟨oc, od, .cell (some (.ref D)), sl⟩
  cD : ∃ cd, PySem.W.clsIn K D = some cd
  sub : PySem.W.mroIn K C (.ref D) = some true
  sup : mg "super" = none
  top : (P.main.scope.names.lookup ("super" : Str)).isSome = false
  op : PySem.W.nsIn K cStatics "thirdparty.any" = some none
  meth : PySem.W.ks_superIn K C D "__init__" = some (some (.builtin "ValueError.__init__"))
  ve : PySem.W.subIn K (.ref C) (.type "ValueError") = some true
  oex : OexC K C
  no : PySem.W.findIn K (.ref C) x = some none
theorem init_ok {P : Program} {w : World} {K : PySem.W.Frag} {mg : Str → Option Value} {base : Heap} {x qual : Str} {C D fI cda cc : Addr} {params : Arguments} {scope : Scope} {oc kV doc pm ct : Value} {od an : Option Addr} {osl : Array (Option Value)} {l1 l2 : Str} {j1 j2 : Nat} {p0 p1 p2 p3 p4 p5 p6 p7 p8 p9 q1 q2 q3 q4 : Pos}
    (c : IniC P K mg x qual C D fI cda cc params scope) (hl1 : l1.length ≤ 1000) (hl2 : l2.length ≤ 1000) {pl : Sem Bool} (hi : ∀ L, interactive (PySem.W.ksEnv qual scope L fI (.ref cda) cc) = false) (hs1 : ∀ L, swapsWith (.Call (.Attribute (.Call (.Name "super" p0) [] [] p1) "__init__" p2) [.JoinedStr [.Constant (.str l1) j1 q1, .FormattedValue (.Name x q2) (-1) none q3, .Constant (.str l2) j2 q4] p3] [] p4) none p5.line (PySem.W.ksEnv qual scope L fI (.ref cda) cc) = pure false)
    (hev : ∀ L, eval (.Call (.Attribute (.Call (.Name "super" p0) [] [] p1) "__init__" p2) [.JoinedStr [.Constant (.str l1) j1 q1, .FormattedValue (.Name x q2) (-1) none q3, .Constant (.str l2) j2 q4] p3] [] p4) (PySem.W.ksEnv qual scope L fI (.ref cda) cc) = (do
      let ov ← attributeBase (.Call (.Name "super" p0) [] [] p1) "__init__" (PySem.W.ksEnv qual scope L fI (.ref cda) cc) (eval (.Call (.Name "super" p0) [] [] p1) (PySem.W.ksEnv qual scope L fI (.ref cda) cc))
      standAt p2.atName
      let (f, first) ← holding [ov] (getMethod ov "__init__" pl)
      callWith p4 f first (backTo p4 (starEach [.JoinedStr [.Constant (.str l1) j1 q1, .FormattedValue (.Name x q2) (-1) none q3, .Constant (.str l2) j2 q4] p3] (PySem.W.ksEnv qual scope L fI (.ref cda) cc))) []))
    (hs2 : ∀ L, swapsWith (.Name x p8) (some (.Attribute (.Name "self" p6) x p7)) p9.line (PySem.W.ksEnv qual scope L fI (.ref cda) cc) = pure false)
    (hbx : (x == ("__debug__" : Str)) = false) (hbx2 : (x == ("__classdict__" : Str)) = false)
    (lk : K.lookup fI = some ⟨oc, od, .func (PySem.W.ksFn "__init__" qual params [.Expr (.Call (.Attribute (.Call (.Name "super" p0) [] [] p1) "__init__" p2) [.JoinedStr [.Constant (.str l1) j1 q1, .FormattedValue (.Name x q2) (-1) none q3, .Constant (.str l2) j2 q4] p3] [] p4) p5, .Assign [.Attribute (.Name "self" p6) x p7] (.Name x p8) p9] scope .none kV doc pm an (.ref cda) ct cc), osl⟩) :
    FnOk P w K mg base CX0 1 fI (PySem.W.ksFn "__init__" qual params [.Expr (.Call (.Attribute (.Call (.Name "super" p0) [] [] p1) "__init__" p2) [.JoinedStr [.Constant (.str l1) j1 q1, .FormattedValue (.Name x q2) (-1) none q3, .Constant (.str l2) j2 q4] p3] [] p4) p5, .Assign [.Attribute (.Name "self" p6) x p7] (.Name x p8) p9] scope .none kV doc pm an (.ref cda) ct cc) [("self" : Str), x] (sp_init C x) := by
  refine ⟨fun vs H Q E h => by obtain ⟨a, n, rfl, _⟩ := h; rfl, fun A outer s H args us vs Q E hr e0 hb r hsp => ?_⟩
  obtain ⟨a, n, rfl, hlog, hlen, hHa, q⟩ := hsp
  cases r with
  | @cons _ u0 _ _ r0 rr =>
  cases rr with
  | @cons _ u1 _ _ r1 rr =>
  cases rr
  obtain rfl : u0 = Value.ref a := r0
  have KX : K.In s.heap := e0.mod.kin.keeps fun b o e => (e0.bs b o e).1
  have lim : s.heap.NoLimit := e0.mod.nolimit.keeps fun b o e => (e0.bs b o e).1
  obtain ⟨fo, fod, fvs, fsl, file, tf, f1, f2, f3⟩ := c.file
  obtain ⟨co, cod, csl, c1⟩ := c.cell
  obtain ⟨cdD, cD⟩ := c.cD
  refine ks_codeAny_call_defAt (fd := PySem.W.ksFn "__init__" qual params _ scope .none kV doc pm an (.ref cda) ct cc) (binds := [("self" : Str), x].zip [Value.ref a, u1]) hr.depth (KX _ _ lk) rfl lim (PySem.W.codeRec_of KX c.code) rfl hb c.S.nocell ?_ (fun h₁ hns kp => ?_) c.S.co c.S.gen c.S.kind
  · intro y hy
    rcases List.mem_cons.mp hy with rfl | hy
    · exact c.S.self
    · rw [List.mem_singleton.mp hy]; exact c.S.x
  have I := inv_ini (CX := CX0) (qual := qual) (f := fI) (cda := cda) (E := E) (tk := s.toks + ([("self" : Str), x].zip [Value.ref a, u1]).length) c.S c.hx hr.hd e0 (show RelV (.ref a) (Value.ref a) from rfl) r1 (e0.mod.kin _ _ c1) rfl hns kp
  have K1 : K.In h₁ := KX.keeps kp
  obtain ⟨oD, hD1, hD2⟩ : ∃ oD, h₁.get? D = some oD ∧ oD.data = .cls cdD := by
    unfold PySem.W.clsIn at cD
    split at cD
    · rename_i c' d' cd' sl ho
      cases cD
      exact ⟨_, K1 _ _ ho, rfl⟩
    · cases cD
  obtain ⟨t1, hoa⟩ := exo_at I.hok hHa
  have hsr : ([("self" : Str), x].zip [Value.ref a, u1]).reverse.lookup ("self" : Str) = some (Value.ref a) := by
    show ([(x, u1), (("self" : Str), Value.ref a)] : List (Str × Value)).lookup ("self" : Str) = some (Value.ref a)
    rw [List.lookup_cons, beq_false_of_ne (Ne.symm c.hx)]
    exact List.lookup_cons_self
  obtain ⟨ar, har, hara⟩ := Option.map_eq_some_iff.mp c.par
  refine ks_wpAt_execs_cons (ks_wpAt_Expr_any (ks_wpAt_MethodCall (pl := pl) ?_ (hev _)) (hi _) (hs1 _))
  refine ks_wpAt_super_base (env := PySem.W.ksEnv qual scope s.heap.objs.size fI (.ref cda) cc) c.S.sup c.S.cls (by decide) rfl (K1 _ _ lk) rfl har rfl (K1 _ _ f1) rfl f2 f3 c.top ?_
  obtain ⟨mb, hb1, hb2⟩ := e0.mod.blt
  have kb : ∀ b o, base.get? b = some o → h₁.get? b = some o := fun b o e => kp _ _ (e0.bs b o e).1
  refine PySem.W.ks_loadName_global c.S.kind c.S.sup (PySem.Calls.loadGlobal_builtin (env := PySem.W.ksEnv qual scope s.heap.objs.size fI (.ref cda) cc) (e0.mod.glob.keeps kb) c.sup (hb1.keeps kb) ((hb2 _ (by decide +kernel)).trans (by decide +kernel)) ⟨rfl, ?_⟩)
  refine wpAny_loadName_free c.S.kind c.S.cls List.lookup_cons_self ⟨_, K1 _ _ c1, rfl⟩ ?_
  refine wpAny_loadName_local c.S.kind (by rw [hara]; exact c.S.self) hns (by rw [hara]; exact hsr) ?_
  refine ks_wpAny_isType_cls hD1 hD2 ⟨rfl, ?_⟩
  refine ks_wpAny_call_super hD1 hD2 hoa rfl (fun c' e => by cases e) (PySem.W.looks_mroIn K1 c.sub) (fun h2 e2 k2 => ?_)
  have I2 := I.kept (t' := s.toks + ([("self" : Str), x].zip [Value.ref a, u1]).length) k2
  have K2 : K.In h2 := K1.keeps k2
  have hoa2 := k2 _ _ hoa
  cases hcC : PySem.W.clsIn K C with
  | none => have := c.meth; unfold PySem.W.ks_superIn at this; rw [hcC] at this; cases this
  | some cdC =>
  have hmeth := c.meth
  unfold PySem.W.ks_superIn at hmeth
  rw [hcC] at hmeth
  have J : PySem.W.InstAt h2 a _ C none := ⟨hoa2, rfl, rfl, trivial⟩
  refine PySem.W.kxs_getMethod PySem.W.kxs_ValueError e2 (PySem.W.looks_opaque K2 c.op) (l₀ := cdC.mro) (fun A Q E s k q => wpAny_bind ((PySem.W.looks_clsIn K2 hcC) A _ E s k (wpAny_pure q))) rfl K2 hmeth (J.type.andThen (PySem.W.looks_subIn K2 c.ve)) (PySem.W.ks_ne K2 J hcC) (by decide) ?_
  have k3 : ∀ b o, h2.get? b = some o → (h2.push (PySem.W.kxs_mw "ValueError.__init__" a)).get? b = some o := fun b o e => Heap.get?_push_of_some _ e
  have I3 := I2.kept (t' := s.toks + ([("self" : Str), x].zip [Value.ref a, u1]).length + 1) k3
  have hu3 : (h2.push (PySem.W.kxs_mw "ValueError.__init__" a)).get? h2.objs.size = some (PySem.W.kxs_mw "ValueError.__init__" a) := Heap.get?_push_at rfl rfl
  have I3 := Inv.pinned I3 hu3 (I2.hok.fresh (Nat.le_refl _)) (Nat.ne_of_gt I2.lt) (I2.nofs (Nat.le_refl _)) (fun v z => by cases z)
  have PAx : PA (iniCx CX0 P w K mg base [("self" : Str), x] qual scope fI cda cc A outer s H E) [.JoinedStr [.Constant (.str l1) j1 q1, .FormattedValue (.Name x q2) (-1) none q3, .Constant (.str l2) j2 q4] p3] _ := pa_cons (pe_joined (.cons pe_str (.cons (pe_fmt (pe_var (i := 1) rfl (.inl c.S.x) hbx hbx2)) (.cons pe_str .nil)))) pa_nil
  show wpAny _ _ (callWith p4 (Value.ref h2.objs.size) [] (backTo p4 (starEach [.JoinedStr [.Constant (.str l1) j1 q1, .FormattedValue (.Name x q2) (-1) none q3, .Constant (.str l2) j2 q4] p3] (PySem.W.ksEnv qual scope s.heap.objs.size fI (.ref cda) cc))) []) _ _ _
  refine PySem.W.kxs_callWith (i := "ValueError.__init__") (x := a) rfl (PySem.Calls.evalArgs_plain (thn (PAx.run p4 [(h2.objs.size, PySem.W.kxs_mw "ValueError.__init__" a)] _ [some (.ref a), some (.int n)] H (fun vs H4 => (∃ z, vs = [V.str z]) ∧ H4 = H) I3 ?_) fun us s4 hh => ?_))
  · refine ⟨l1, rfl, ?_, .int n, rfl, .inr ⟨n, rfl, hlog, _, rfl, ?_, l2, rfl, ?_, ⟨_, rfl⟩, rfl⟩⟩
    · show (Str.empty ++ l1).length ≤ sizeLine
      rw [Str.length_append]
      show 0 + _ ≤ _
      rw [sizeLine_eq]; omega
    · rw [Str.length_append, Str.length_append, sizeLine_eq]
      show 0 + _ + _ ≤ _
      omega
    · rw [Str.length_append, Str.length_append, Str.length_append, sizeLine_eq]
      show 0 + _ + _ + _ ≤ _
      omega
  obtain ⟨vs4, H4, I4, r4, ⟨z, rfl⟩, rfl⟩ := hh
  have hu4 := (I4.pin (h2.objs.size, PySem.W.kxs_mw "ValueError.__init__" a) (List.mem_append_right _ List.mem_cons_self)).1
  refine ⟨hu4, ?_⟩
  have hus : us.length = 1 := by rw [← Paired.length r4]; rfl
  have I4 := Inv.unpin I4
  obtain ⟨t4, hoa4⟩ := exo_at I4.hok hHa
  obtain ⟨nm, qn, N, bs, bm, sn, sub, ab, col, dd, k0, k1', k2', k3', k5, hC, hbm⟩ := c.oex.cls
  obtain ⟨hp, g, d, tk, os⟩ := s4
  refine wpAny_call (codeAny_of_tree ?_)
  show wpAny _ _ (callAny (.ref h2.objs.size) ⟨us, []⟩) _ _ _
  simp only [callAny]
  refine wpAny_bind (wpAny_load hu4 ?_)
  simp only [PySem.W.kxs_mw, show (Value.type "method-wrapper" == Value.type "method" || Value.type "method-wrapper" == Value.type "builtin_function_or_method" || Value.type "method-wrapper" == Value.type "method-wrapper") = true by decide, if_true]
  refine PySem.W.KFB.if_so (by decide) ?_
  refine wpAny_bind (PySem.W.check_bound_init PySem.F.excBase_ValueError.toExcCallFacts (I4.kIn _ _ hC) hoa4 rfl ?_)
  refine wpAny_bind (wpAny_pure (wpAny_pure ?_))
  refine ⟨plainId_quiet PySem.F.excBase_ValueError.init.plain _, codeAny_builtin PySem.F.excBase_ValueError.initEntry ?_⟩
  refine PySem.W.exc_init_tree (cls := .ref C) (t0 := t4) (dv := none) (c2 := .none) (c3 := .none) (b4 := .bool false) hoa4 (by rw [hus, sizeLine_eq]; omega) fun h5 k5' e5 e5' => ?_
  have I5 := I4.write (t' := tk) (x := a) (e := a) (o := exo a C none) (by rw [hHa]; exact True.intro) (.inl rfl) k5' ⟨_, e5⟩ (exo_ok e5)
  have eu : upd H4 a (exo a C none) = H4 := by
    funext b
    by_cases hb : b = a
    · rw [hb, upd_same, hHa]
    · rw [upd_ne hb]
  rw [eu] at I5
  have PSx : PSs (iniCx CX0 P w K mg base [("self" : Str), x] qual scope fI cda cc A outer s H4 E) [.Assign [.Attribute (.Name "self" p6) x p7] (.Name x p8) p9] _ := pss_one (ps_ost (pe_var (i := 0) rfl (.inl c.S.self) (by decide) (by decide)) (pe_var (i := 1) rfl (.inl c.S.x) hbx hbx2) (hs2 _))
  refine wpAt_of_wpAny (wpAny_mono (PSx.run [] _ [some (.ref a), some (.int n)] H4 { nx := fun _ H' => Q .non H', rt := Q } I5 ?_) (fun fl s' hs => ?_) fun e s' hs => hs)
  · exact ⟨.int n, rfl, .ref a, rfl, a, C, rfl, c.oex, c.no, .inl ⟨hHa, q⟩⟩
  have fin : ∀ {σ' : L2.St} {H' : Hp} {v : V} {u : Value}, Inv (iniCx CX0 P w K mg base [("self" : Str), x] qual scope fI cda cc A outer s H4 E) [] σ' H' s' → RelV v u → Q v H' → CE outer P w H4 s Q u s' :=
    fun {σ' H' v u} J rv q => ⟨v, H', J.os, J.bare, J.base, J.hok, rv, q⟩
  cases fl with
  | ret u =>
    obtain ⟨v, σ', H', J, rv, q⟩ := hs
    exact fin J rv q
  | next =>
    obtain ⟨σ', H', J, q⟩ := hs
    exact fin (v := V.non) (u := Value.none) J rfl q
  | brk =>
    obtain ⟨_, _, _, q⟩ := hs
    exact False.elim q
  | cont =>
    obtain ⟨_, _, _, q⟩ := hs
    exact False.elim q
/-- such a class, as it stands -/
structure Xi (P : Program) (w : World) (K : PySem.W.Frag) (mg : Str → Option Value) (base : Heap) (nm x : Str) (C f : Addr) (fd : FuncData) : Prop where
  oex : OexC K C
  ini : PySem.W.findIn K (.ref C) "__init__" = some (some (.ref f))
  tyI : PySem.W.typeIn K (.ref f) = some (.type "function")
  F : FnOk P w K mg base CX0 1 f fd [("self" : Str), x] (sp_init C x)
  bd : Binds K fd [("self" : Str), x] []
  g : mg nm = some (.ref C)
def iniOf : Stmt → Stmt
  | .ClassDef (body := b) .. => b.getD 0 (.Pass ⟨0, 0, 0, 0⟩)
  | st => st
/-! ### raising it -/
theorem sx_raiseN {C : Addr} {x : Str} {σ : L2.St} {H : Hp} {te : TE} {n : Int} {mg : Str → Option Value} {nm : Str} {E : XK} (h : Ev te σ H (.int n)) (h1 : n.natAbs.log2 < 1920) (h2 : (Str.ofString (toString n)).length ≤ 1000) (g : mg nm = some (.ref C))
    (k : ∀ C d H', mg nm = some (.ref C) → Ex H H' → XdIs (some [(x, .int n)]) d H H' → E (.ref C) d H') : tMkO C (sp_init C x) [] (tCons te tNil) σ H E := h H (Ex.refl _) _ fun H1 e1 => by
  refine ⟨by show 1 ≤ 1000; decide, fun a ha => ⟨a, n, rfl, h1, h2, upd_same, fun dx hdx hda => ⟨rfl, dx, [(x, .int n)], upd_same, by rw [upd_ne hda, upd_same], ?_, ?_⟩⟩⟩
  · rw [upd_ne hda] at hdx
    exact hdx
  · rw [upd_ne hda] at hdx
    refine k C (some dx) _ g (fun b o hb => ?_) ⟨dx, rfl, fresh_back e1 hdx, upd_same⟩
    have hb1 := e1 b o hb
    have n1 : b ≠ dx := ne_of_none hb1 hdx
    have n2 : b ≠ a := ne_of_none hb1 ha
    rw [upd_ne n1, del_ne n2, upd_ne n2, upd_ne n1, upd_ne n2]
    exact hb1
end HW

set_option Elab.async false
set_option linter.all false
set_option maxRecDepth 100000
namespace HW
open PySem PySem.Spec PyProof.Rows L2 Evl SX
def topS (i : Nat) : Stmt := PySem.Challenge.pw_helperwire_k02_edits.main.body.getD i (.Pass ⟨0, 0, 0, 0⟩)
section
variable {P : Program} {w : World} {K : PySem.W.Frag} {mg : Str → Option Value} {base : Heap}
/-! ### the promises -/
def okT (m : Nat) (s : List Nat) : Prop := s.length ≤ m ∧ s.all sgn = true
def pl (p : Nat × Nat) : D := .tup [.int p.1, .int p.2]
def spanD (s : List Nat) (a b : Nat) (q : List Nat) : D := .tup [.str s, .int a, .int b, .str q]
def put (s : List Nat) (a b : Nat) (q : List Nat) : List Nat := s.take a ++ q ++ s.drop b
def sp_is_sign : Sp := SpR 1 fun ds d => ∃ c, ds = [.str [c]] ∧ d = .bl (sgn c)
def noStr : D → Bool
  | .str _ => false
  | _ => true
def sp_is_text_of_signs : Sp := SpR 2 fun ds d => (∃ s m, ds = [.str s, .int m] ∧ s.length ≤ 40000 ∧ d = .bl (decide ((s.length : Int) ≤ m) && s.all sgn)) ∨ ∃ x m, ds = [x, .int m] ∧ noStr x = true ∧ d = .bl false
theorem k_ns : kitB "NoneType" "str" = some false := by decide +kernel
theorem k_ts : kitB "tuple" "str" = some false := by decide +kernel
theorem k_ls : kitB "list" "str" = some false := by decide +kernel
def isNum : D → Bool
  | .int _ => true
  | _ => false
def isTwo : D → Bool
  | .tup [a, b] => isNum a && isNum b
  | _ => false
def placeB (s : List Nat) : D → Bool
  | .tup [.int r, .int c] => (decide (0 ≤ r) && decide (r < ((rws s).length : Int))) && (decide (0 ≤ c) && decide (c ≤ (((rws s).getD r.toNat []).length : Int)))
  | _ => false
theorem isTwo_is {x : D} (h : isTwo x = true) : ∃ i j, x = .tup [.int i, .int j] := by
  unfold isTwo at h
  split at h
  · rename_i a b
    rw [Bool.and_eq_true] at h
    obtain ⟨h1, h2⟩ := h
    cases a with
    | int i =>
      cases b with
      | int j => exact ⟨i, j, rfl⟩
      | _ => cases h2
    | _ => cases h1
  · cases h
theorem place_no {s : List Nat} {x : D} (h : isTwo x = false) : placeB s x = false := by
  unfold placeB
  split
  · cases h
  · rfl
theorem rwsA_back : ∀ (s acc : List Nat) (r c : Nat) (row : List Nat), (rwsA acc s)[r]? = some row → c ≤ row.length → (r = 0 → acc.length ≤ c) → ∃ n, n ≤ s.length ∧ (s.take n).foldl stp (0, acc.length) = (r, c)
  | [], acc, r, c, row, h, hc, h0 => by
    cases r with
    | zero =>
      cases h
      exact ⟨0, Nat.le_refl _, by show (0, acc.length) = (0, c); rw [Nat.le_antisymm (h0 rfl) hc]⟩
    | succ r => simp [rwsA] at h
  | x :: s, acc, r, c, row, h, hc, h0 => by
    rw [rwsA] at h
    by_cases hx : x = 10
    · rw [if_pos hx] at h
      cases r with
      | zero =>
        cases h
        exact ⟨0, Nat.zero_le _, by show (0, acc.length) = (0, c); rw [Nat.le_antisymm (h0 rfl) hc]⟩
      | succ r =>
        obtain ⟨n, h1, h2⟩ := rwsA_back s [] r c row h hc (fun _ => Nat.zero_le _)
        refine ⟨n + 1, by rw [List.length_cons]; omega, ?_⟩
        rw [List.take_succ_cons, List.foldl_cons, stp, if_pos hx, fold_shift]
        have h2 : (s.take n).foldl stp (0, 0) = (r, c) := h2
        rw [h2]
        show (0 + 1 + r, c) = (r + 1, c)
        rw [Nat.zero_add, Nat.add_comm]
    · rw [if_neg hx] at h
      by_cases he : r = 0 ∧ c = acc.length
      · exact ⟨0, Nat.zero_le _, by show (0, acc.length) = (r, c); rw [he.1, he.2]⟩
      · obtain ⟨n, h1, h2⟩ := rwsA_back s (acc ++ [x]) r c row h hc (fun z => by rw [List.length_append, List.length_singleton]; have := h0 z; have : c ≠ acc.length := fun y => he ⟨z, y⟩; omega)
        refine ⟨n + 1, by rw [List.length_cons]; omega, ?_⟩
        rw [List.take_succ_cons, List.foldl_cons, stp, if_neg hx]
        rw [List.length_append, List.length_singleton] at h2
        exact h2
theorem place_is {s : List Nat} {x : D} (h : placeB s x = true) : ∃ n, n ≤ s.length ∧ x = pl (pos s n) := by
  unfold placeB at h
  split at h
  · rename_i r c
    simp only [Bool.and_eq_true, decide_eq_true_eq] at h
    obtain ⟨⟨h1, h2⟩, h3, h4⟩ := h
    have hr : r.toNat < (rws s).length := by omega
    rw [List.getD_eq_getElem?_getD, List.getElem?_eq_getElem hr] at h4
    obtain ⟨n, g1, g2⟩ := rwsA_back s [] r.toNat c.toNat _ (List.getElem?_eq_getElem hr) (by have : c ≤ ((rws s)[r.toNat].length : Int) := h4; show c.toNat ≤ (rws s)[r.toNat].length; omega) (fun _ => Nat.zero_le _)
    refine ⟨n, g1, ?_⟩
    unfold pl pos posF
    have g2 : (s.take n).foldl stp (0, 0) = (r.toNat, c.toNat) := g2
    rw [g2]
    show D.tup [.int r, .int c] = .tup [.int (r.toNat : Int), .int (c.toNat : Int)]
    rw [Int.toNat_of_nonneg h1, Int.toNat_of_nonneg h3]
  · cases h
theorem place_pos {s : List Nat} {n : Nat} (h : n ≤ s.length) : placeB s (pl (pos s n)) = true := by
  obtain ⟨row, g1, g2, _⟩ := rws_pos h
  have hlt : (pos s n).1 < (rws s).length := (List.getElem?_eq_some_iff.mp g1).1
  show ((decide ((0 : Int) ≤ ((pos s n).1 : Int)) && decide (((pos s n).1 : Int) < ((rws s).length : Int))) && (decide ((0 : Int) ≤ ((pos s n).2 : Int)) && decide (((pos s n).2 : Int) ≤ (((rws s).getD ((pos s n).1 : Int).toNat []).length : Int)))) = true
  rw [Int.toNat_natCast, List.getD_eq_getElem?_getD, g1, decide_eq_true (by omega), decide_eq_true (by omega), decide_eq_true (by omega)]
  have : ((pos s n).2 : Int) ≤ (row.length : Int) := by omega
  exact decide_eq_true this
def sp_check_sheet (mg : Str → Option Value) : Sp := SpX mg 1 fun ds o => ∃ s, ds = [.str s] ∧ s.length ≤ 40000 ∧ ((okT 200 s ∧ o = .inl .non) ∨ (¬ okT 200 s ∧ o = .inr ("BadSheet", none)))
def sp_is_number : Sp := SpR 1 fun ds d => ∃ x, ds = [x] ∧ d = .bl (isNum x)
def sp_is_two_numbers : Sp := SpR 1 fun ds d => ∃ x, ds = [x] ∧ d = .bl (isTwo x)
def sp_is_place : Sp := SpR 2 fun ds d => ∃ s x, ds = [.str s, x] ∧ s.length ≤ 40000 ∧ d = .bl (placeB s x)
def sp_number_in (mg : Str → Option Value) : Sp := SpX mg 2 fun ds o => (∃ s n, ds = [.str s, pl (pos s n)] ∧ s.length ≤ 40000 ∧ n ≤ s.length ∧ o = .inl (.int n)) ∨ ∃ s x, ds = [.str s, x] ∧ s.length ≤ 40000 ∧ placeB s x = false ∧ o = .inr ("BadPlace", none)
def sp_place_in (mg : Str → Option Value) : Sp := SpX mg 2 fun ds o => (∃ s n, ds = [.str s, .int (n : Nat)] ∧ s.length ≤ 40000 ∧ n ≤ s.length ∧ o = .inl (pl (pos s n))) ∨ ∃ s i, ds = [.str s, .int i] ∧ s.length ≤ 40000 ∧ ¬ (0 ≤ i ∧ i ≤ (s.length : Int)) ∧ o = .inr ("BadPlace", none)
def sp_behind : Sp := SpR 1 fun ds d => ∃ s a b q, ds = [spanD s a b q] ∧ s.length ≤ 40000 ∧ q.length ≤ 10000 ∧ a ≤ s.length ∧ b ≤ s.length ∧ d = .str (put s a b q)
theorem lt1 (a b : Nat) : ([a] < [b]) ↔ a < b := by
  rw [List.cons_lt_cons_iff]
  constructor
  · rintro (h | ⟨_, h⟩)
    · exact h
    · exact absurd h (List.lt_irrefl [])
  · exact .inl
theorem sc_is_sign : FnScope ["sign"] ["sign"] (defScope (topS 26)) := ⟨rfl, rfl, rfl, by decide +kernel, rfl, by decide +kernel, by decide +kernel⟩
theorem ok_is_sign {f : Addr} {fd : FuncData} (F : Fun K "is_sign" "is_sign" (topS 26) f fd) : FnOk P w K mg base CX0 1 f fd ["sign"] sp_is_sign := by
  refine F.ok sc_is_sign (fun vs H Q E h => by exact SpR.len h) (fun cdv A outer s H vs Q E hr h => ?_)
  obtain ⟨ds, d, hl, rs, ⟨c, rfl, rfl⟩, q⟩ := h
  obtain ⟨v, r, rfl, h1, h2⟩ := rps_cons.mp rs
  rw [rps_nil.mp h2, rp_str.mp h1]
  refine ⟨_, (pss_one (ps_ret (pe_or (pe_chain op_le_str op_le_str pe_str (pv 0) pe_str) (pe_one (pe_cmpR op_eq (pv 0) pe_str (nomark _)))))), ?_⟩
  refine sd_ret (d := .bl (sgn c)) (ed_b ?_) q
  have e1 : (!decide ([c] < [32])) = decide (32 ≤ c) := by
    by_cases h : 32 ≤ c
    · rw [decide_eq_true h, decide_eq_false (fun z => by have := (lt1 _ _).mp z; omega)]; rfl
    · rw [decide_eq_false h, decide_eq_true ((lt1 _ _).mpr (by omega))]; rfl
  have e2 : (!decide ([126] < [c])) = decide (c ≤ 126) := by
    by_cases h : c ≤ 126
    · rw [decide_eq_true h, decide_eq_false (fun z => by have := (lt1 _ _).mp z; omega)]; rfl
    · rw [decide_eq_false h, decide_eq_true ((lt1 _ _).mpr (by omega))]; rfl
  have e3 : decide ([c] = [10]) = decide (c = 10) := by simp
  refine ev_is (ev_orV (ev_chain (k := decide (32 ≤ c)) (k' := decide (c ≤ 126)) (ev_c (v := .str (S [32]))) (ev_var rfl) (by rw [← e1]; exact rv_leS) (fun _ => ev_c (v := .str (S [126]))) fun _ => by rw [← e2]; exact rv_leS) fun _ => ev_op (ev_var rfl) (ev_c (v := .str (S [10]))) rv_eqS) ?_
  rw [e3]
  rfl
theorem sc_is_text_of_signs : FnScope ["text", "most", "sign"] ["text", "most"] (defScope (topS 25)) := ⟨rfl, rfl, rfl, by decide +kernel, rfl, by decide +kernel, by decide +kernel⟩
theorem ok_is_text_of_signs {f : Addr} {fd : FuncData} (F : Fun K "is_text_of_signs" "is_text_of_signs" (topS 25) f fd) (m_str : mg "str" = none) (m_isinstance : mg "isinstance" = none) (m_len : mg "len" = none) (m_all : mg "all" = none) (d_is_sign : Df P w K mg base "is_sign" ["sign"] 1 sp_is_sign) : FnOk P w K mg base CX0 2 f fd ["text", "most"] sp_is_text_of_signs := by
  refine F.ok sc_is_text_of_signs (fun vs H Q E h => by exact SpR.len h) (fun cdv A outer s H vs Q E hr h => ?_)
  obtain ⟨ds, d, hl, rs, hR, q⟩ := h
  obtain ⟨x, m, rfl⟩ : ∃ x m, ds = [x, .int m] := by rcases hR with ⟨s, m, h, _⟩ | ⟨x, m, h, _⟩ <;> exact ⟨_, m, h⟩
  obtain ⟨v, r, rfl, h1, h2⟩ := rps_cons.mp rs
  obtain ⟨v2, r2, rfl, h3, h2⟩ := rps_cons.mp h2
  rw [rps_nil.mp h2, rp_int.mp h3]
  refine ⟨_, (pss_one (ps_ret (pe_and (pe_callB call_isi (by rfl) m_isinstance (by decide +kernel) (pa_cons (pv 0) (pa_cons (pe_bltn (v := .ty "str") (by rfl) m_str (by decide +kernel) rfl) pa_nil))) (pe_and (pe_cmpR op_le (pe_callB call_len_str (by rfl) m_len PySem.boot_len (pa_cons (pv 0) pa_nil)) (pv 1) (nomark _)) (pe_one (pe_callB (cr_all rfl) (by rfl) m_all (by decide +kernel) (pa_cons (pe_lc (own := [("sign", 2)]) (g := gName 2) (tt := tYes) rfl sc_is_text_of_signs.nd (pi_str (pv 0)) (blkOk_by (own := [("sign", 2)]) (N := ["text", "most", "sign"]) (sc := defScope (topS 25)) (by decide +kernel)) (fun _ _ _ _ _ => (pg_name (i := 2) sc_is_text_of_signs.nd rfl (.inl rfl))) (fun _ _ _ _ _ => pts_nil) (fun _ _ _ _ _ => (d_is_sign.pe (hr.mono (by decide)) (pa_cons (pv 2) pa_nil)))) pa_nil))))))), ?_⟩
  rcases hR with ⟨l, m', hds, hz, rfl⟩ | ⟨x', m', hds, hx, rfl⟩
  case inr =>
    cases hds
    refine sd_ret (ed_b ?_) q
    cases x with
    | str _ => cases hx
    | int i => exact ev_andV (a := false) (b := false) (ed_isi (ed_var rfl h1) k_is) fun z => by cases z
    | bl i => exact ev_andV (a := false) (b := false) (ed_isi (ed_var rfl h1) k_bs) fun z => by cases z
    | non => exact ev_andV (a := false) (b := false) (ed_isi (ed_var rfl h1) k_ns) fun z => by cases z
    | tup i => exact ev_andV (a := false) (b := false) (ed_isi (ed_var rfl h1) k_ts) fun z => by cases z
    | lst i => exact ev_andV (a := false) (b := false) (ed_isi (ed_var rfl h1) k_ls) fun z => by cases z
  cases hds
  rw [rp_str.mp h1]
  refine sd_ret (ed_b ?_) q
  refine ev_is (ev_andV (ed_isi (b := true) (ed_s (ev_var rfl)) k_ss) fun _ => ev_andV (ev_op (ev_lenS (ev_var rfl) (by omega)) (ev_var rfl) rv_I0) fun _ => ed_all (bs := l.map sgn) ?_) ?_
  · have e : (l.map sgn).map D.bl = picked l.length (fun _ => true) (fun i => .bl (sgn (l.getD i 0))) := by
      rw [List.map_map]
      exact (picked_map _ fun i x h => by rw [List.getD_eq_getElem?_getD, h]; rfl).symm
    rw [e]
    refine ed_lc (fun _ => true) _ (ei_str (ev_var rfl)) hz (fun _ => rfl) (fun _ => rfl) (fun i x H1 _ _ _ => fun H2 e2 Q q => q H2 (Ex.refl _)) fun i x H1 hi e1 r1 _ => ?_
    exact ed_call (eda_cons (ed_var rfl r1) eda_nil) ⟨_, rfl, rfl⟩
  · rw [List.all_map]
    rfl
theorem sc_check_sheet : FnScope ["sheet"] ["sheet"] (defScope (topS 24)) := ⟨rfl, rfl, rfl, by decide +kernel, rfl, by decide +kernel, by decide +kernel⟩
theorem ok_check_sheet {f : Addr} {fd : FuncData} (F : Fun K "check_sheet" "check_sheet" (topS 24) f fd) {t_MOST_SIGNS : Tok} (c_MOST_SIGNS : mg "MOST_SIGNS" = some (.int 200 t_MOST_SIGNS)) {C_BadSheet : Addr} (x_BadSheet : Xc K mg "BadSheet" C_BadSheet) (d_is_text_of_signs : Df P w K mg base "is_text_of_signs" ["text", "most"] 2 sp_is_text_of_signs) : FnOk P w K mg base (L2.CX P w) 3 f fd ["sheet"] (sp_check_sheet mg) := by
  refine F.okX sc_check_sheet (fun vs H Q E h => by exact SpX.len h) (fun cdv A outer s H vs Q E hr h => ?_)
  obtain ⟨ds, o, hl, rs, ⟨l, rfl, hz, hR⟩, hq⟩ := h
  obtain ⟨v, r, rfl, h1, h2⟩ := rps_cons.mp rs
  rw [rps_nil.mp h2, rp_str.mp h1]
  refine ⟨_, (pss_one (ps_if (pt_not (pt_val (d_is_text_of_signs.pe (hr.mono (by decide)) (pa_cons (pv 0) (pa_cons (pe_glob (v := .int 200) (by rfl) c_MOST_SIGNS ⟨_, rfl⟩) pa_nil)))))
        (pss_one (ps_raise rfl (takes_of rfl rfl rfl rfl) (pmk_own PySem.F.excBase_ValueError x_BadSheet.ex x_BadSheet.g x_BadSheet.kp (raises_own x_BadSheet.sub x_BadSheet.ty) rfl)))
        pss_nil)), ?_⟩
  have ht : ∀ {H' : Hp}, Ev (tCall sp_is_text_of_signs [] E0 (tCons (tVar 0) (tCons (tC (.int 200)) tNil))) [some (.str (S l))] H' (.bl (decide ((l.length : Int) ≤ 200) && l.all sgn)) := EvD.b (ed_call (eda_cons (ed_s (ev_var rfl)) (eda_cons (ed_i ev_c) eda_nil)) (.inl ⟨l, 200, rfl, hz, rfl⟩))
  rcases hR with ⟨⟨h40, hs⟩, rfl⟩ | ⟨hno, rfl⟩
  · have q : ∀ v H', Ex H H' → Rp H' D.non v → Q v H' := hq
    have e : (decide ((l.length : Int) ≤ 200) && l.all sgn) = true := by rw [decide_eq_true (by omega), hs]; rfl
    exact s_when (et_is (et_not (et_B ht)) (show (!_) = false by rw [e]; rfl)) (fun z => by cases z) fun _ H1 e1 => q _ H1 e1 (rp_non.mpr rfl)
  · have q : ∀ C d H', mg "BadSheet" = some (.ref C) → Ex H H' → XdIs none d H H' → E (.ref C) d H' := hq
    have e : (decide ((l.length : Int) ≤ 200) && l.all sgn) = false := by
      rw [Bool.and_eq_false_iff]
      by_cases h1 : l.length ≤ 200
      · right
        cases h2 : l.all sgn with
        | false => rfl
        | true => exact absurd ⟨h1, h2⟩ hno
      · left
        exact decide_eq_false (by omega)
    exact s_when (et_is (et_not (et_B ht)) (show (!_) = true by rw [e]; rfl)) (fun _ H1 e1 => q _ none H1 x_BadSheet.g e1 rfl) fun z => by cases z
theorem k_bi : kitB "bool" "int" = some true := by decide +kernel
theorem k_ni : kitB "NoneType" "int" = some false := by decide +kernel
theorem k_si : kitB "str" "int" = some false := by decide +kernel
theorem k_ti : kitB "tuple" "int" = some false := by decide +kernel
theorem k_li : kitB "list" "int" = some false := by decide +kernel
theorem sc_is_number : FnScope ["value"] ["value"] (defScope (topS 27)) := ⟨rfl, rfl, rfl, by decide +kernel, rfl, by decide +kernel, by decide +kernel⟩
theorem ok_is_number {f : Addr} {fd : FuncData} (F : Fun K "is_number" "is_number" (topS 27) f fd) (m_int : mg "int" = none) (m_isinstance : mg "isinstance" = none) (m_bool : mg "bool" = none) : FnOk P w K mg base CX0 1 f fd ["value"] sp_is_number := by
  refine F.ok sc_is_number (fun vs H Q E h => by exact SpR.len h) (fun cdv A outer s H vs Q E hr h => ?_)
  obtain ⟨ds, d, hl, rs, ⟨x, rfl, rfl⟩, q⟩ := h
  obtain ⟨v, r, rfl, h1, h2⟩ := rps_cons.mp rs
  rw [rps_nil.mp h2]
  refine ⟨_, (pss_one (ps_ret (pe_and (pe_callB call_isi (by rfl) m_isinstance (by decide +kernel) (pa_cons (pv 0) (pa_cons (pe_bltn (v := .ty "int") (by rfl) m_int (by decide +kernel) rfl) pa_nil))) (pe_one (pe_not (pe_callB call_isi (by rfl) m_isinstance (by decide +kernel) (pa_cons (pv 0) (pa_cons (pe_bltn (v := .ty "bool") (by rfl) m_bool (by decide +kernel) rfl) pa_nil)))))))), ?_⟩
  cases x with
  | int i => exact sd_ret (ed_b (ev_andV (b := true) (ed_isi (b := true) (ed_var rfl h1) k_ii) fun _ => ev_notV (ed_isi (b := false) (ed_var rfl h1) k_ib))) q
  | bl i => exact sd_ret (ed_b (ev_andV (b := false) (ed_isi (b := true) (ed_var rfl h1) k_bi) fun _ => ev_notV (ed_isi (b := true) (ed_var rfl h1) k_bb))) q
  | non => exact sd_ret (ed_b (ev_andV (b := false) (ed_isi (b := false) (ed_var rfl h1) k_ni) fun z => by cases z)) q
  | str i => exact sd_ret (ed_b (ev_andV (b := false) (ed_isi (b := false) (ed_var rfl h1) k_si) fun z => by cases z)) q
  | tup i => exact sd_ret (ed_b (ev_andV (b := false) (ed_isi (b := false) (ed_var rfl h1) k_ti) fun z => by cases z)) q
  | lst i => exact sd_ret (ed_b (ev_andV (b := false) (ed_isi (b := false) (ed_var rfl h1) k_li) fun z => by cases z)) q
theorem ev_noTup {σ : L2.St} {H : Hp} {ta tb : TE} {x : D} (h : EvD ta σ H x) (hk : kitB (tyD x) "tuple" = some false) : Ev (tAndV (tCB (rIsi K) (tCons ta (tCons (tC (.ty "tuple")) tNil))) tb) σ H (.bl false) := ev_andV (a := false) (b := false) (ed_isi h hk) fun z => by cases z
theorem sc_is_two_numbers : FnScope ["value"] ["value"] (defScope (topS 28)) := ⟨rfl, rfl, rfl, by decide +kernel, rfl, by decide +kernel, by decide +kernel⟩
theorem ok_is_two_numbers {f : Addr} {fd : FuncData} (F : Fun K "is_two_numbers" "is_two_numbers" (topS 28) f fd) (m_tuple : mg "tuple" = none) (m_isinstance : mg "isinstance" = none) (m_len : mg "len" = none) (d_is_number : Df P w K mg base "is_number" ["value"] 1 sp_is_number) : FnOk P w K mg base CX0 2 f fd ["value"] sp_is_two_numbers := by
  refine F.ok sc_is_two_numbers (fun vs H Q E h => by exact SpR.len h) (fun cdv A outer s H vs Q E hr h => ?_)
  obtain ⟨ds, d, hl, rs, ⟨x, rfl, rfl⟩, q⟩ := h
  obtain ⟨v, r, rfl, h1, h2⟩ := rps_cons.mp rs
  rw [rps_nil.mp h2]
  refine ⟨_, (pss_one (ps_ret (pe_and (pe_callB call_isi (by rfl) m_isinstance (by decide +kernel) (pa_cons (pv 0) (pa_cons (pe_bltn (v := .ty "tuple") (by rfl) m_tuple (by decide +kernel) rfl) pa_nil))) (pe_and (pe_cmpR op_eq (pe_callB call_len_seq (by rfl) m_len PySem.boot_len (pa_cons (pv 0) pa_nil)) pe_int (nomark _)) (pe_and (d_is_number.pe (hr.mono (by decide)) (pa_cons (pe_ix (r := rIxT K) ix_tup (pv 0) pe_int (fun _ _ => rfl)) pa_nil)) (pe_one (d_is_number.pe (hr.mono (by decide)) (pa_cons (pe_ix (r := rIxT K) ix_tup (pv 0) pe_int (fun _ _ => rfl)) pa_nil)))))))), ?_⟩
  refine sd_ret (ed_b ?_) q
  match x, h1 with
  | .int i, h1 => exact ev_noTup (ed_var rfl h1) k_it
  | .bl i, h1 => exact ev_noTup (ed_var rfl h1) k_bt
  | .non, h1 => exact ev_noTup (ed_var rfl h1) k_nt
  | .str i, h1 => exact ev_noTup (ed_var rfl h1) k_st
  | .lst i, h1 => exact ev_noTup (ed_var rfl h1) k_lt
  | .tup [], h1 => exact ev_andV (a := true) (b := false) (ed_isi (ed_var rfl h1) k_tt) fun _ => ev_andV (a := false) (b := false) (ev_is (ev_op (ed_lenT (ed_var rfl h1)) ev_c rv_eqI) rfl) fun z => by cases z
  | .tup [a], h1 => exact ev_andV (a := true) (b := false) (ed_isi (ed_var rfl h1) k_tt) fun _ => ev_andV (a := false) (b := false) (ev_is (ev_op (ed_lenT (ed_var rfl h1)) ev_c rv_eqI) rfl) fun z => by cases z
  | .tup [a, b], h1 => exact ev_andV (a := true) (b := isNum a && isNum b) (ed_isi (ed_var rfl h1) k_tt) fun _ => ev_andV (a := true) (b := isNum a && isNum b) (ev_is (ev_op (ed_lenT (ed_var rfl h1)) ev_c rv_eqI) rfl) fun _ => ev_andV (EvD.b (ed_call (eda_cons (d := a) (ed_ixT (ed_var rfl h1) ev_c rfl) eda_nil) ⟨a, rfl, rfl⟩)) fun _ => EvD.b (ed_call (eda_cons (d := b) (ed_ixT (ed_var rfl h1) ev_c rfl) eda_nil) ⟨b, rfl, rfl⟩)
  | .tup (a :: b :: c :: ds), h1 => exact ev_andV (a := true) (b := false) (ed_isi (ed_var rfl h1) k_tt) fun _ => ev_andV (a := false) (b := false) (ev_is (ev_op (ed_lenT (ed_var rfl h1)) ev_c rv_eqI) (by show V.bl (decide (((ds.length + 1 + 1 + 1 : Nat) : Int) = 2)) = V.bl false; rw [decide_eq_false (by omega)])) fun z => by cases z
theorem sc_is_place : FnScope ["sheet", "value", "row", "column", "rows"] ["sheet", "value"] (defScope (topS 29)) := ⟨rfl, rfl, rfl, by decide +kernel, rfl, by decide +kernel, by decide +kernel⟩
theorem ok_is_place {f : Addr} {fd : FuncData} (F : Fun K "is_place" "is_place" (topS 29) f fd) (m_len : mg "len" = none) (d_is_two_numbers : Df P w K mg base "is_two_numbers" ["value"] 2 sp_is_two_numbers) : FnOk P w K mg base CX0 3 f fd ["sheet", "value"] sp_is_place := by
  refine F.ok sc_is_place (fun vs H Q E h => by exact SpR.len h) (fun cdv A outer s H vs Q E hr h => ?_)
  obtain ⟨ds, d, hl, rs, ⟨l, x, rfl, hz, rfl⟩, q⟩ := h
  obtain ⟨v, r, rfl, h1, h2⟩ := rps_cons.mp rs
  obtain ⟨v2, r2, rfl, h3, h2⟩ := rps_cons.mp h2
  rw [rps_nil.mp h2, rp_str.mp h1]
  refine ⟨_, (pss_cons (ps_if (pt_not (pt_val (d_is_two_numbers.pe (hr.mono (by decide)) (pa_cons (pv 1) pa_nil))))
        (pss_one (ps_ret pe_bl))
        pss_nil)
      (pss_cons (ps_asg (pv 1) (pg_tup rfl (pgs_cons (pg_name (i := 2) sc_is_place.nd rfl (.inl rfl)) (pgs_cons (pg_name (i := 3) sc_is_place.nd rfl (.inl rfl)) pgs_nil))))
      (pss_cons (ps_set (i := 4) sc_is_place.nd rfl (.inl rfl) (pe_split (pv 0) pe_str))
      (pss_one (ps_ret (pe_and (pe_chain op_le op_lt pe_int (pv 2) (pe_callB call_len_seq (by rfl) m_len PySem.boot_len (pa_cons (pv 4) pa_nil))) (pe_one (pe_chain op_le op_le pe_int (pv 3) (pe_callB call_len_str (by rfl) m_len PySem.boot_len (pa_cons (pe_ix (r := rIxL K) ix_list (pv 4) (pv 2) (fun _ _ => rfl)) pa_nil)))))))))), ?_⟩
  cases hx : isTwo x with
  | false =>
    rw [place_no hx] at q
    exact q_when (et_yes (et_is (et_B (EvD.b (ed_call (eda_cons (ed_var rfl h3) eda_nil) ⟨x, rfl, rfl⟩))) hx)) (fun _ H1 e1 => sd_ret (ed_b ev_c) fun v H2 e2 r2 => q v H2 (e1.trans e2) r2) fun z => by cases z
  | true =>
    obtain ⟨i, j, rfl⟩ := isTwo_is hx
    refine q_when (et_no (et_is (et_B (EvD.b (ed_call (eda_cons (ed_var rfl h3) eda_nil) ⟨_, rfl, rfl⟩))) hx)) (fun z => by cases z) fun _ H1 e1 => ?_
    refine qd_un2 (ed_var rfl (h3.ex e1)) fun w1 w2 H2 e2 r1 r2 => ?_
    rw [rp_int.mp r1, rp_int.mp r2]
    refine qd_asg (ed_split (ev_var rfl) (by omega)) fun w3 H3 e3 r3 => ?_
    refine sd_ret (d := .bl (placeB l (.tup [.int i, .int j]))) (ed_b (ev_andV (ev_is (ev_chain (k := decide (0 ≤ i)) (k' := decide (i < ((rws l).length : Int))) ev_c (ev_var rfl) rv_I0 (fun _ => ev_is (ed_lenL (ed_var rfl r3)) (by rw [List.length_map])) fun _ => rv_I0) rfl) fun hb => ?_)) fun v H4 e4 r4 => q v H4 (((e1.trans e2).trans e3).trans e4) r4
    rw [Bool.and_eq_true, decide_eq_true_eq, decide_eq_true_eq] at hb
    have hi : i.toNat < (rws l).length := by omega
    have ei : i = ((i.toNat : Nat) : Int) := by omega
    have hg : (rws l)[i.toNat]? = some (rws l)[i.toNat] := List.getElem?_eq_getElem hi
    have hlen := rws_len (List.getElem_mem hi)
    rw [List.getD_eq_getElem?_getD, hg]
    refine ev_chain (k := decide (0 ≤ j)) (k' := decide (j ≤ (((rws l)[i.toNat]).length : Int))) ev_c (ev_var rfl) rv_I0 (fun _ => ev_lenS (EvD.s (l := (rws l)[i.toNat]) (ed_ixL (i := ((i.toNat : Nat) : Int)) (ed_var rfl r3) (ev_is (ev_var rfl) (by rw [← ei])) (atI_nat (by rw [List.getElem?_map, hg]; rfl)))) (by omega)) fun _ => rv_I0
theorem sc_number_in : FnScope ["sheet", "place", "row", "column", "above"] ["sheet", "place"] (defScope (topS 30)) := ⟨rfl, rfl, rfl, by decide +kernel, rfl, by decide +kernel, by decide +kernel⟩
theorem ok_number_in {f : Addr} {fd : FuncData} (F : Fun K "number_in" "number_in" (topS 30) f fd) (m_len : mg "len" = none) (m_sum : mg "sum" = none) {C_BadPlace : Addr} (x_BadPlace : Xc K mg "BadPlace" C_BadPlace) (d_is_place : Df P w K mg base "is_place" ["sheet", "value"] 3 sp_is_place) : FnOk P w K mg base (L2.CX P w) 4 f fd ["sheet", "place"] (sp_number_in mg) := by
  refine F.okX sc_number_in (fun vs H Q E h => by exact SpX.len h) (fun cdv A outer s H vs Q E hr h => ?_)
  obtain ⟨ds, o, hl, rs, hR, hq⟩ := h
  obtain ⟨l, x, hds, hz⟩ : ∃ l x, ds = [.str l, x] ∧ l.length ≤ 40000 := by rcases hR with ⟨l, n, rfl, h, _⟩ | ⟨l, x, rfl, h, _⟩ <;> exact ⟨_, _, rfl, h⟩
  subst hds
  obtain ⟨v, r, rfl, h1, h2⟩ := rps_cons.mp rs
  obtain ⟨v2, r2, rfl, h3, h2⟩ := rps_cons.mp h2
  rw [rps_nil.mp h2, rp_str.mp h1]
  refine ⟨_, (pss_cons (ps_if (pt_not (pt_val (d_is_place.pe (hr.mono (by decide)) (pa_cons (pv 0) (pa_cons (pv 1) pa_nil)))))
        (pss_one (ps_raise rfl (takes_of rfl rfl rfl rfl) (pmk_own PySem.F.excBase_ValueError x_BadPlace.ex x_BadPlace.g x_BadPlace.kp (raises_own x_BadPlace.sub x_BadPlace.ty) rfl)))
        pss_nil)
      (pss_cons (ps_asg (pv 1) (pg_tup rfl (pgs_cons (pg_name (i := 2) sc_number_in.nd rfl (.inl rfl)) (pgs_cons (pg_name (i := 3) sc_number_in.nd rfl (.inl rfl)) pgs_nil))))
      (pss_one (ps_ret (pe_op op_add (pe_callB (cr_sum rfl) (by rfl) m_sum (by decide +kernel) (pa_cons (pe_lc (own := [("above", 4)]) (g := gName 4) (tt := tYes) rfl sc_number_in.nd (pi_list (pe_slice sl_list (pe_split (pv 0) pe_str) po_none (po_some (pv 2)))) (blkOk_by (own := [("above", 4)]) (N := ["sheet", "place", "row", "column", "above"]) (sc := defScope (topS 30)) (by decide +kernel)) (fun _ _ _ _ _ => (pg_name (i := 4) sc_number_in.nd rfl (.inl rfl))) (fun _ _ _ _ _ => pts_nil) (fun _ _ _ _ _ => (pe_op op_add (pe_callB call_len_str (by rfl) m_len PySem.boot_len (pa_cons (pv 4) pa_nil)) pe_int))) pa_nil)) (pv 3)))))), ?_⟩
  have h3 : Rp H x v2 := h3
  rcases hR with ⟨l', n, hds, _, hn, rfl⟩ | ⟨l', x', hds, _, hx, rfl⟩
  case inr =>
    cases hds
    have q : ∀ C d H', mg "BadPlace" = some (.ref C) → Ex H H' → XdIs none d H H' → E (.ref C) d H' := hq
    exact q_when (et_yes (et_is (et_B (EvD.b (ed_call (eda_cons (ed_s (ev_var rfl)) (eda_cons (ed_var rfl h3) eda_nil)) ⟨l, x, rfl, hz, rfl⟩))) hx)) (fun _ H1 e1 => q _ none H1 x_BadPlace.g e1 rfl) fun z => by cases z
  cases hds
  have q : ∀ v H', Ex H H' → Rp H' (.int n) v → Q v H' := hq
  obtain ⟨row, g1, g2, g3⟩ := rws_pos hn
  refine q_when (et_no (et_is (et_B (EvD.b (ed_call (eda_cons (ed_s (ev_var rfl)) (eda_cons (ed_var rfl h3) eda_nil)) ⟨l, _, rfl, hz, rfl⟩))) (place_pos hn))) (fun z => by cases z) fun _ H1 e1 => ?_
  refine qd_un2 (ed_var rfl (h3.ex e1)) fun w1 w2 H2 e2 r1 r2 => ?_
  rw [rp_int.mp r1, rp_int.mp r2]
  refine sd_ret (ed_i (ev_is (ev_op (ed_sum (ns := ((rws l).take (pos l n).1).map fun r => (r.length : Int) + 1) ?_) (ev_var rfl) rv_I0) ?_)) fun v H4 e4 r4 => q v H4 ((e1.trans e2).trans e4) r4
  · have e : (((rws l).take (pos l n).1).map fun r => (r.length : Int) + 1).map D.int = picked (((rws l).map D.str).take (pos l n).1).length (fun _ => true) (fun i => .int (((((rws l).take (pos l n).1).getD i []).length : Int) + 1)) := by
      rw [List.map_map, ← List.map_take, List.length_map]
      exact (picked_map _ fun i x h => by rw [List.getD_eq_getElem?_getD, h]; rfl).symm
    rw [e]
    refine ed_lc (fun _ => true) _ (ei_list (ed_toL (ed_split (ev_var rfl) (by omega)) (ev_var rfl))) ?_ (fun _ => rfl) (fun _ => rfl) (fun i x H1 _ _ _ => fun H2 e2 Q q => q H2 (Ex.refl _)) fun i x H1 hi e1 r1 _ => ?_
    · have := rwsA_many l []
      have : (rws l).length ≤ l.length + 1 := this
      have hlt : (pos l n).1 < (rws l).length := by
        rcases Nat.lt_or_ge (pos l n).1 (rws l).length with h | h
        · exact h
        · rw [List.getElem?_eq_none h] at g1; cases g1
      rw [List.length_take, List.length_map]
      omega
    · rw [← List.map_take, List.length_map] at hi
      have hg : ((rws l).take (pos l n).1)[i]? = some ((rws l).take (pos l n).1)[i] := List.getElem?_eq_getElem hi
      rw [← List.map_take, List.getD_eq_getElem?_getD, List.getElem?_map, hg] at r1
      have hm : ((rws l).take (pos l n).1)[i] ∈ rws l := List.mem_of_mem_take (List.getElem_mem hi)
      have hml := rws_len hm
      rw [List.getD_eq_getElem?_getD, hg]
      exact ed_i (ev_op (ev_lenS (ev_is (ev_var rfl) (rp_str.mp r1)) (by omega)) ev_c rv_I0)
  · show V.int (_ + _) = _
    rw [before_int]
    unfold before at g3
    congr 1
    omega
theorem sc_place_in : FnScope ["sheet", "number", "ahead"] ["sheet", "number"] (defScope (topS 31)) := ⟨rfl, rfl, rfl, by decide +kernel, rfl, by decide +kernel, by decide +kernel⟩
theorem ok_place_in {f : Addr} {fd : FuncData} (F : Fun K "place_in" "place_in" (topS 31) f fd) (m_len : mg "len" = none) {C_BadPlace : Addr} (x_BadPlace : Xc K mg "BadPlace" C_BadPlace) (d_is_number : Df P w K mg base "is_number" ["value"] 1 sp_is_number) : FnOk P w K mg base (L2.CX P w) 2 f fd ["sheet", "number"] (sp_place_in mg) := by
  refine F.okX sc_place_in (fun vs H Q E h => by exact SpX.len h) (fun cdv A outer s H vs Q E hr h => ?_)
  obtain ⟨ds, o, hl, rs, hR, hq⟩ := h
  obtain ⟨l, i, hds, hz⟩ : ∃ l i, ds = [.str l, .int i] ∧ l.length ≤ 40000 := by rcases hR with ⟨l, n, rfl, h, _⟩ | ⟨l, i, rfl, h, _⟩ <;> exact ⟨_, _, rfl, h⟩
  subst hds
  obtain ⟨v, r, rfl, h1, h2⟩ := rps_cons.mp rs
  obtain ⟨v2, r2, rfl, h3, h2⟩ := rps_cons.mp h2
  rw [rps_nil.mp h2, rp_str.mp h1, rp_int.mp h3]
  refine ⟨_, (pss_cons (ps_if (PW.pt (pw_or (pt_not (pt_val (d_is_number.pe (hr.mono (by decide)) (pa_cons (pv 1) pa_nil)))) (pw_or1 (pt_not (pt_chain op_le op_le pe_int (pv 1) (pe_callB call_len_str (by rfl) m_len PySem.boot_len (pa_cons (pv 0) pa_nil)))))))
        (pss_one (ps_raise rfl (takes_of rfl rfl rfl rfl) (pmk_own PySem.F.excBase_ValueError x_BadPlace.ex x_BadPlace.g x_BadPlace.kp (raises_own x_BadPlace.sub x_BadPlace.ty) rfl)))
        pss_nil)
      (pss_cons (ps_set (i := 2) sc_place_in.nd rfl (.inl rfl) (pe_slice sl_str (pv 0) po_none (po_some (pv 1))))
      (pss_one (ps_ret (pe_tup (pa_cons (pe_m1 PySem.F.slot_str_count PySem.F.type_str_count mt_count (pv 2) pe_str) (pa_cons (pe_op op_sub (pv 1) (pe_op op_add (pe_m1 PySem.F.slot_str_rfind PySem.F.type_str_rfind mt_rfind (pv 2) pe_str) pe_int)) pa_nil))))))), ?_⟩
  rcases hR with ⟨l', n, hds, _, hn, rfl⟩ | ⟨l', i', hds, _, hx, rfl⟩
  case inr =>
    cases hds
    have q : ∀ C d H', mg "BadPlace" = some (.ref C) → Ex H H' → XdIs none d H H' → E (.ref C) d H' := hq
    exact q_when (et_or0 (et_no (et_B (EvD.b (ed_call (eda_cons (ed_i (ev_var rfl)) eda_nil) ⟨_, rfl, rfl⟩)))) (et_yes (et_is (et_chain (k := decide (0 ≤ i)) (k' := decide (i ≤ (l.length : Int))) ev_c (ev_var rfl) rv_I0 (fun _ => ev_lenS (ev_var rfl) (by omega)) fun _ => rv_I0) (by
      rw [Bool.and_eq_false_iff, decide_eq_false_iff_not, decide_eq_false_iff_not]
      by_cases h0 : 0 ≤ i
      · exact .inr fun z => hx ⟨h0, z⟩
      · exact .inl h0)))) (fun _ H1 e1 => q _ none H1 x_BadPlace.g e1 rfl) fun z => by cases z
  cases hds
  have q : ∀ v H', Ex H H' → Rp H' (pl (pos l n)) v → Q v H' := hq
  refine q_when (et_or0 (et_no (et_B (EvD.b (ed_call (eda_cons (ed_i (ev_var rfl)) eda_nil) ⟨_, rfl, rfl⟩)))) (et_no (et_is (et_chain (k := true) (k' := true) ev_c (ev_var rfl) (rv_le (by omega)) (fun _ => ev_lenS (ev_var rfl) (by omega)) fun _ => rv_le (by omega)) rfl))) (fun z => by cases z) fun _ H1 e1 => ?_
  refine q_asg (ev_to (ev_var rfl) (ev_var rfl) (by omega)) fun H2 e2 => ?_
  refine sd_ret (d := pl (pos l n)) (ed_tup (eda_cons (ed_i (ev_is (ev_count (ev_var rfl)) ?_)) (eda_cons (ed_i (ev_is (ev_op (ev_var rfl) (ev_op (ev_rfind (ev_var rfl)) ev_c rv_I0) rv_I0) ?_)) eda_nil))) fun v H3 e3 r3 => q v H3 ((e1.trans e2).trans e3) r3
  · unfold pos posF
    rw [fold_cnt]
    simp
  · show V.int ((n : Int) - (((l.take n).length : Int) - ((posF (l.take n)).2 : Int) - 1 + 1)) = V.int ((posF (l.take n)).2 : Int)
    rw [List.length_take, Nat.min_eq_left hn]
    congr 1
    omega
theorem sc_behind : FnScope ["span", "sheet", "first", "last", "put"] ["span"] (defScope (topS 34)) := ⟨rfl, rfl, rfl, by decide +kernel, rfl, by decide +kernel, by decide +kernel⟩
theorem ok_behind {f : Addr} {fd : FuncData} (F : Fun K "behind" "behind" (topS 34) f fd) : FnOk P w K mg base CX0 1 f fd ["span"] sp_behind := by
  refine F.ok sc_behind (fun vs H Q E h => by exact SpR.len h) (fun cdv A outer s H vs Q E hr h => ?_)
  obtain ⟨ds, d, hl, rs, ⟨l, a, b, p, rfl, hz, hp, ha, hb, rfl⟩, q⟩ := h
  obtain ⟨v, r, rfl, h1, h2⟩ := rps_cons.mp rs
  rw [rps_nil.mp h2]
  refine ⟨_, (pss_cons (ps_asg (pv 0) (pg_tup rfl (pgs_cons (pg_name (i := 1) sc_behind.nd rfl (.inl rfl)) (pgs_cons (pg_name (i := 2) sc_behind.nd rfl (.inl rfl)) (pgs_cons (pg_name (i := 3) sc_behind.nd rfl (.inl rfl)) (pgs_cons (pg_name (i := 4) sc_behind.nd rfl (.inl rfl)) pgs_nil))))))
      (pss_one (ps_ret (pe_op op_add_str (pe_op op_add_str (pe_slice sl_str (pv 1) po_none (po_some (pv 2))) (pv 4)) (pe_slice sl_str (pv 1) (po_some (pv 3)) po_none))))), ?_⟩
  refine qd_un4 (ed_var rfl h1) fun w1 w2 w3 w4 H1 e1 r1 r2 r3 r4 => ?_
  rw [rp_str.mp r1, rp_int.mp r2, rp_int.mp r3, rp_str.mp r4]
  refine sd_ret (ed_s (ev_op (ev_op (ev_to (ev_var rfl) (ev_var rfl) (by omega)) (ev_var rfl) (rv_addS ?_)) (ev_from (ev_var rfl) (ev_var rfl) (by omega)) (rv_addS ?_))) fun v H3 e3 r3 => q v H3 (e1.trans e3) r3
  · rw [List.length_take]; omega
  · rw [List.length_append, List.length_take, List.length_drop]; omega
def sp_number_of (mg : Str → Option Value) : Sp := SpX mg 2 fun ds o => ∃ s x, ds = [.str s, x] ∧ s.length ≤ 40000 ∧ ((okT 200 s ∧ ∃ n, n ≤ s.length ∧ x = pl (pos s n) ∧ o = .inl (.int n)) ∨ (okT 200 s ∧ placeB s x = false ∧ o = .inr ("BadPlace", none)) ∨ (¬ okT 200 s ∧ o = .inr ("BadSheet", none)))
def sp_place_of (mg : Str → Option Value) : Sp := SpX mg 2 fun ds o => ∃ s i, ds = [.str s, .int i] ∧ s.length ≤ 40000 ∧ ((okT 200 s ∧ ∃ n : Nat, n ≤ s.length ∧ i = (n : Int) ∧ o = .inl (pl (pos s n))) ∨ (okT 200 s ∧ ¬ (0 ≤ i ∧ i ≤ (s.length : Int)) ∧ o = .inr ("BadPlace", none)) ∨ (¬ okT 200 s ∧ o = .inr ("BadSheet", none)))
/-! ### edits -/
structure Ed where
  a : Nat
  b : Nat
  q : List Nat
abbrev Ed.on (e : Ed) (s : List Nat) : List Nat := put s e.a e.b e.q
def edD (s : List Nat) (e : Ed) : D := .tup [pl (pos s e.a), pl (pos s e.b), .str e.q]
def Ed.can (e : Ed) (s : List Nat) : Prop := e.a ≤ e.b ∧ e.b ≤ s.length ∧ okT 40 e.q ∧ (e.on s).length ≤ 200
theorem put_len {s q : List Nat} {a b : Nat} (h1 : a ≤ b) (h2 : b ≤ s.length) : (put s a b q).length = s.length - (b - a) + q.length := by
  unfold put
  rw [List.length_append, List.length_append, List.length_take, List.length_drop]
  omega
def sp_can_be_done : Sp := SpR 2 fun ds d => ∃ s e, ds = [.str s, edD s e] ∧ okT 200 s ∧ e.can s ∧ d = .bl true
def st : List Nat → List Ed → List (List Nat × Ed)
  | _, [] => []
  | s, e :: es => (s, e) :: st (e.on s) es
def fin : List Nat → List Ed → List Nat
  | s, [] => s
  | s, e :: es => fin (e.on s) es
def Ch : List Nat → List Ed → Prop
  | _, [] => True
  | s, e :: es => e.can s ∧ Ch (e.on s) es
theorem st_len : ∀ (s : List Nat) (es : List Ed), (st s es).length = es.length
  | _, [] => rfl
  | s, e :: es => by rw [st, List.length_cons, List.length_cons, st_len]
theorem st_get : ∀ (s : List Nat) (es : List Ed) (i : Nat) (e : Ed), es[i]? = some e → (st s es)[i]? = some (fin s (es.take i), e)
  | _, [], _, _, h => by simp at h
  | s, e :: es, 0, e', h => by cases h; rfl
  | s, e :: es, i + 1, e', h => by
    rw [st, List.getElem?_cons_succ, List.take_succ_cons, fin]
    exact st_get _ es i e' h
theorem fin_succ : ∀ (s : List Nat) (es : List Ed) (i : Nat) (e : Ed), es[i]? = some e → fin s (es.take (i + 1)) = e.on (fin s (es.take i))
  | _, [], _, _, h => by simp at h
  | s, e :: es, 0, e', h => by cases h; rfl
  | s, e :: es, i + 1, e', h => by
    rw [List.take_succ_cons, fin, List.take_succ_cons, fin]
    exact fin_succ _ es i e' h
theorem Ch.get : ∀ {s : List Nat} {es : List Ed} {i : Nat} {e : Ed}, Ch s es → es[i]? = some e → e.can (fin s (es.take i))
  | _, [], _, _, _, h => by simp at h
  | s, e :: es, 0, e', c, h => by cases h; exact c.1
  | s, e :: es, i + 1, e', c, h => by
    rw [List.take_succ_cons, fin]
    exact Ch.get (i := i) c.2 h
theorem put_ok {s q : List Nat} {a b : Nat} (h1 : s.all sgn = true) (h2 : q.all sgn = true) : (put s a b q).all sgn = true := by
  unfold put
  rw [List.all_append, List.all_append, Bool.and_eq_true, Bool.and_eq_true]
  rw [List.all_eq_true] at h1
  exact ⟨⟨List.all_eq_true.mpr fun x hx => h1 x (List.mem_of_mem_take hx), h2⟩, List.all_eq_true.mpr fun x hx => h1 x (List.mem_of_mem_drop hx)⟩
theorem on_ok {s : List Nat} {e : Ed} (h : okT 200 s) (c : e.can s) : okT 200 (e.on s) := ⟨c.2.2.2, put_ok h.2 c.2.2.1.2⟩
theorem fin_ok : ∀ {s : List Nat} {es : List Ed} (i : Nat), okT 200 s → Ch s es → okT 200 (fin s (es.take i))
  | s, _, 0, h, _ => h
  | s, [], i + 1, h, _ => h
  | s, e :: es, i + 1, h, c => by
    rw [List.take_succ_cons, fin]
    exact fin_ok i (on_ok h c.1) c.2
def spn (x : List Nat × Ed) : D := spanD x.1 x.2.a x.2.b x.2.q
def edx (x : List Nat × Ed) : D := edD x.1 x.2
theorem nl_spn (x : List Nat × Ed) : nl (spn x) = true := rfl
theorem nl_edx (x : List Nat × Ed) : nl (edx x) = true := rfl
def sp_spans_of (mg : Str → Option Value) : Sp := SpX mg 2 fun ds o => ∃ s es, ds = [.str s, .lst ((st s es).map edx)] ∧ okT 200 s ∧ Ch s es ∧ es.length ≤ 8 ∧ o = .inl (.lst ((st s es).map spn))
end
end HW

set_option Elab.async false
set_option linter.all false
set_option maxRecDepth 100000
namespace HW
open PySem PySem.Spec PyProof.Rows L2 Evl SX
section
variable {P : Program} {w : World} {K : PySem.W.Frag} {mg : Str → Option Value} {base : Heap}
theorem atI_m1 {α : Type} {xs : List α} (h : 0 < xs.length) : atI xs (-1) = xs[xs.length - 1]? := by
  have e : ixN xs.length (-1) = some (xs.length - 1) := by
    unfold ixN
    rw [if_neg (by omega), if_pos (by omega)]
    congr 1
    omega
  unfold atI
  rw [e]
  rfl
theorem st_last (l : List Nat) {es : List Ed} (h : 0 < es.length) (hs : okT 200 l) (hc : Ch l es) : ∃ s e, (st l es)[es.length - 1]? = some (s, e) ∧ e.on s = fin l es ∧ okT 200 s ∧ e.can s := by
  have hi : es.length - 1 < es.length := by omega
  have hei : es[es.length - 1]? = some es[es.length - 1] := List.getElem?_eq_getElem hi
  refine ⟨_, _, st_get l es _ _ hei, ?_, fin_ok _ hs hc, hc.get hei⟩
  rw [← fin_succ l es _ _ hei, List.take_of_length_le (by omega)]
def sp_edited : Sp := SpR 2 fun ds d => ∃ s es, ds = [.str s, .lst ((st s es).map edx)] ∧ okT 200 s ∧ Ch s es ∧ es.length ≤ 8 ∧ d = .str (fin s es)
def lcp : List Nat → List Nat → Nat
  | [], _ => 0
  | _ :: _, [] => 0
  | a :: s, b :: t => if a = b then lcp s t + 1 else 0
theorem lcp_le : ∀ (s t : List Nat), lcp s t ≤ s.length ∧ lcp s t ≤ t.length
  | [], t => by rw [lcp]; exact ⟨Nat.zero_le _, Nat.zero_le _⟩
  | a :: s, [] => by rw [lcp]; exact ⟨Nat.zero_le _, Nat.zero_le _⟩
  | a :: s, b :: t => by
    rw [lcp]
    have := lcp_le s t
    split
    · rw [List.length_cons, List.length_cons]; omega
    · exact ⟨Nat.zero_le _, Nat.zero_le _⟩
theorem lcp_lt : ∀ {s t : List Nat} {k : Nat}, k < lcp s t → s[k]? = t[k]?
  | [], t, k, h => by rw [lcp] at h; omega
  | a :: s, [], k, h => by rw [lcp] at h; omega
  | a :: s, b :: t, k, h => by
    rw [lcp] at h
    by_cases e : a = b
    · rw [if_pos e] at h
      cases k with
      | zero => rw [e]; rfl
      | succ k =>
        rw [List.getElem?_cons_succ, List.getElem?_cons_succ]
        exact lcp_lt (by omega)
    · rw [if_neg e] at h; omega
theorem lcp_ne : ∀ {s t : List Nat} {x : Nat}, s[lcp s t]? = some x → t[lcp s t]? ≠ some x
  | [], t, x, h => by simp at h
  | a :: s, [], x, h => by simp
  | a :: s, b :: t, x, h => by
    rw [lcp] at h ⊢
    by_cases e : a = b
    · rw [if_pos e] at h ⊢
      rw [List.getElem?_cons_succ] at h ⊢
      exact lcp_ne h
    · rw [if_neg e] at h ⊢
      intro z
      cases h
      cases z
      exact e rfl
def sp_same_at_begin : Sp := SpR 2 fun ds d => ∃ s t, ds = [.str s, .str t] ∧ s.length ≤ 40000 ∧ t.length ≤ 40000 ∧ d = .int (lcp s t : Nat)
theorem sc_same_at_begin : FnScope ["one", "other", "many"] ["one", "other"] (defScope (topS 35)) := ⟨rfl, rfl, rfl, by decide +kernel, rfl, by decide +kernel, by decide +kernel⟩
theorem ok_same_at_begin {f : Addr} {fd : FuncData} (F : Fun K "same_at_begin" "same_at_begin" (topS 35) f fd) (m_len : mg "len" = none) : FnOk P w K mg base CX0 1 f fd ["one", "other"] sp_same_at_begin := by
  refine F.ok sc_same_at_begin (fun vs H Q E h => by exact SpR.len h) (fun cdv A outer s H vs Q E hr h => ?_)
  obtain ⟨ds, d, hl, rs, ⟨s1, s2, rfl, hs, ht, rfl⟩, q⟩ := h
  obtain ⟨v, r, rfl, h1, h2⟩ := rps_cons.mp rs
  obtain ⟨v2, r2, rfl, h3, h4⟩ := rps_cons.mp h2
  rw [rps_nil.mp h4, rp_str.mp h1, rp_str.mp h3]
  have hle := lcp_le s1 s2
  refine ⟨_, (pss_cons (ps_set (i := 2) sc_same_at_begin.nd rfl (.inl rfl) pe_int)
      (pss_cons (ps_while PassesOwn.never (PW.pt (pw_and (pt_cmpR op_lt (pv 2) (pe_callB call_len_str (by rfl) m_len PySem.boot_len (pa_cons (pv 0) pa_nil)) (nomark _)) (pw_and (pt_cmpR op_lt (pv 2) (pe_callB call_len_str (by rfl) m_len PySem.boot_len (pa_cons (pv 1) pa_nil)) (nomark _)) (pw_and1 (pt_cmpR op_eq (pe_ix ix_str (pv 0) (pv 2) (fun _ _ => rfl)) (pe_ix ix_str (pv 1) (pv 2) (fun _ _ => rfl)) (nomark _))))))
        (pss_one (ps_aug (i := 2) sc_same_at_begin.nd rfl (.inl rfl) pe_int ip_add)))
      (pss_one (ps_ret (pv 2))))), ?_⟩
  refine q_asg ev_c fun H1 e1 => ?_
  refine q_while (fun m σ' H' => ∃ k : Nat, k + m = lcp s1 s2 ∧ σ' = [some (.str (S s1)), some (.str (S s2)), some (.int k)] ∧ Ex H H') (lcp s1 s2) ⟨0, by omega, rfl, e1⟩ ?_
  rintro m σ' H' ⟨k, hk, rfl, p⟩
  by_cases hm : m = 0
  · have hk2 : k = lcp s1 s2 := by omega
    refine ⟨false, ?_, (fun z => by cases z), fun _ H2 e2 => ?_⟩
    · by_cases c1 : k < s1.length
      · by_cases c2 : k < s2.length
        · have g1 : s1[k]? = some s1[k] := List.getElem?_eq_getElem c1
          have g2 : s2[k]? = some s2[k] := List.getElem?_eq_getElem c2
          have ne : s1[k] ≠ s2[k] := fun z => by
            have g3 := g1
            rw [z] at g3
            generalize s2[k] = x at g3 g2
            rw [hk2] at g3 g2
            exact lcp_ne g3 g2
          exact et_and1 (et_is (et_test (ev_op (ev_var rfl) (ev_lenS (ev_var rfl) (by omega)) rv_I0)) (decide_eq_true (by omega))) (et_and1 (et_is (et_test (ev_op (ev_var rfl) (ev_lenS (ev_var rfl) (by omega)) rv_I0)) (decide_eq_true (by omega)))
            (et_is (et_test (ev_op (ev_ixS (ev_var rfl) (ev_var rfl) (by omega) g1) (ev_ixS (ev_var rfl) (ev_var rfl) (by omega) g2) rv_eqS)) (decide_eq_false fun z => ne (by injection z))))
        · exact et_and1 (et_is (et_test (ev_op (ev_var rfl) (ev_lenS (ev_var rfl) (by omega)) rv_I0)) (decide_eq_true (by omega))) (et_and0 (et_is (et_test (ev_op (ev_var rfl) (ev_lenS (ev_var rfl) (by omega)) rv_I0)) (decide_eq_false (by omega))))
      · exact et_and0 (et_is (et_test (ev_op (ev_var rfl) (ev_lenS (ev_var rfl) (by omega)) rv_I0)) (decide_eq_false (by omega)))
    · rw [hk2]
      exact sd_ret (ed_i (ev_var rfl)) fun v H3 e3 r3 => q v H3 ((p.trans e2).trans e3) r3
  · have hk2 : k < lcp s1 s2 := by omega
    have g1 : s1[k]? = some s1[k] := List.getElem?_eq_getElem (by omega)
    have g2 : s2[k]? = some s1[k] := by rw [← lcp_lt hk2]; exact g1
    refine ⟨true, ?_, fun _ H2 e2 => ⟨fun σ2 H3 => σ2 = [some (.str (S s1)), some (.str (S s2)), some (.int ((k + 1 : Nat) : Int))] ∧ Ex H H3, fun σ2 H3 hn => ⟨m - 1, by omega, k + 1, by omega, hn.1, hn.2⟩, ?_⟩, (fun z => by cases z)⟩
    · exact et_and1 (et_is (et_test (ev_op (ev_var rfl) (ev_lenS (ev_var rfl) (by omega)) rv_I0)) (decide_eq_true (by omega))) (et_and1 (et_is (et_test (ev_op (ev_var rfl) (ev_lenS (ev_var rfl) (by omega)) rv_I0)) (decide_eq_true (by omega)))
            (et_is (et_test (ev_op (ev_ixS (ev_var rfl) (ev_var rfl) (by omega) g1) (ev_ixS (ev_var rfl) (ev_var rfl) (by omega) g2) rv_eqS)) (decide_eq_true rfl)))
    · exact s_aug (f := fun a b => a + b) rfl ev_c fun H3 e3 => ⟨by show [_, _, some (V.int ((k : Int) + 1))] = _; congr 4, (p.trans e2).trans e3⟩
def undo (x : List Nat × Ed) : D := .tup [pl (pos x.1 x.2.a), pl (pos (x.2.on x.1) (x.2.a + x.2.q.length)), .str ((x.1.drop x.2.a).take (x.2.b - x.2.a))]
theorem nl_undo (x : List Nat × Ed) : nl (undo x) = true := rfl
def sp_undoing : Sp := SpR 1 fun ds d => ∃ x : List Nat × Ed, ds = [spn x] ∧ okT 200 x.1 ∧ x.2.can x.1 ∧ d = undo x
def sp_back : Sp := SpR 2 fun ds d => ∃ s es, ds = [.str s, .lst ((st s es).map edx)] ∧ okT 200 s ∧ Ch s es ∧ es.length ≤ 8 ∧ d = .lst ((st s es).reverse.map undo)
def togD (s t : List Nat) : D := if t = s then .non else
  .tup [pl (pos s (lcp s t)), pl (pos s (s.length - lcp (s.drop (lcp s t)).reverse (t.drop (lcp s t)).reverse)),
    .str ((t.drop (lcp s t)).take (t.length - lcp (s.drop (lcp s t)).reverse (t.drop (lcp s t)).reverse - lcp s t))]
def sp_together : Sp := SpR 2 fun ds d => ∃ s es, ds = [.str s, .lst ((st s es).map edx)] ∧ okT 200 s ∧ Ch s es ∧ es.length ≤ 8 ∧ d = togD s (fin s es)
end
end HW

set_option Elab.async false
set_option linter.all false
set_option maxRecDepth 100000
namespace HW
open PySem PySem.Spec PyProof.Rows L2 Evl SX
section
variable {P : Program} {w : World} {K : PySem.W.Frag} {mg : Str → Option Value} {base : Heap}
/-! ### places moved -/
def nb (a b q n : Nat) : Option Nat := if n ≤ a then some n else if b ≤ n then some (a + q + n - b) else none
def mv : List (List Nat × Ed) → Nat → Option Nat
  | [], n => some n
  | x :: r, n => match nb x.2.a x.2.b x.2.q.length n with
    | none => none
    | some m => mv r m
def optN : Option Nat → D
  | none => .non
  | some n => .int (n : Nat)
theorem nb_le {s : List Nat} {e : Ed} {n m : Nat} (hc : e.can s) (hn : n ≤ s.length) (h : nb e.a e.b e.q.length n = some m) : m ≤ (e.on s).length := by
  have h1 := hc.1
  have h2 := hc.2.1
  have h3 : (e.on s).length = s.length - (e.b - e.a) + e.q.length := put_len h1 h2
  unfold nb at h
  split at h
  · cases h; omega
  · split at h
    · cases h; omega
    · cases h
theorem ed_slT {σ : L2.St} {H : Hp} {ta tl : TE} {ds : List D} {n : Nat} (h : EvD ta σ H (.tup ds)) (h1 : Ev tl σ H (.int (n : Int))) (h0 : 0 < n) (hn : n ≤ ds.length) : EvD (tSl (rSlT K) ta (tPart tl) tNoPart) σ H (.tup (ds.drop n)) := fun H1 e Q q =>
  h H1 e _ fun v H2 e2 r => h1 H2 (e.trans e2) _ fun H3 e3 => ⟨n, rfl, by
    obtain ⟨p, vs, rfl, h4, h5⟩ := rp_tup.mp (r.ex e3)
    have hl := rps_len h5
    have es : HT.sIx vs.length 0 (some (n : Int)) = n := by rw [sIx_n, hl]; exact Nat.min_eq_left hn
    refine ⟨p, vs, rfl, st_of h4, fun z => by rw [es] at z; omega, fun p' hp => q _ _ ((e2.trans e3).trans (Ex.new hp)) (rp_tup.mpr ⟨p', _, rfl, upd_same, ?_⟩)⟩
    have ec : cutV vs (some (n : Int)) none = vs.drop n := by
      unfold cutV
      rw [es, HT.sIx_none, List.take_of_length_le (by rw [List.length_drop]; omega)]
    rw [ec]
    have dr : ∀ (n : Nat) {ds : List D} {vs : List V} {H : Hp}, Rps H ds vs → Rps H (ds.drop n) (vs.drop n) := by
      intro n
      induction n with
      | zero => intro ds vs H r; exact r
      | succ n ih =>
        intro ds vs H r
        cases ds with
        | nil => rw [rps_nil.mp r]; exact rps_nil.mpr rfl
        | cons d ds =>
          obtain ⟨v, t, rfl, _, g2⟩ := rps_cons.mp r
          exact ih g2
    exact dr n (h5.ex (Ex.new hp))⟩
def sp_number_behind : Sp := SpR 2 fun ds d => ∃ (x : List Nat × Ed) (n : Nat), ds = [spn x, .int n] ∧ x.2.a ≤ x.2.b ∧ x.2.q.length ≤ 1000 ∧ d = optN (nb x.2.a x.2.b x.2.q.length n)
theorem sc_number_behind : FnScope ["span", "number", "first", "last", "put"] ["span", "number"] (defScope (topS 37)) := ⟨rfl, rfl, rfl, by decide +kernel, rfl, by decide +kernel, by decide +kernel⟩
theorem ok_number_behind {f : Addr} {fd : FuncData} (F : Fun K "number_behind" "number_behind" (topS 37) f fd) (m_len : mg "len" = none) : FnOk P w K mg base CX0 1 f fd ["span", "number"] sp_number_behind := by
  refine F.ok sc_number_behind (fun vs H Q E h => by exact SpR.len h) (fun cdv A outer s H vs Q E hr h => ?_)
  obtain ⟨ds, d, hl, rs, ⟨x, n, rfl, hab, hq, rfl⟩, q⟩ := h
  obtain ⟨v, r, rfl, h1, h2⟩ := rps_cons.mp rs
  obtain ⟨v2, r2, rfl, h3, h4⟩ := rps_cons.mp h2
  rw [rps_nil.mp h4, rp_int.mp h3]
  refine ⟨_, (pss_cons (ps_asg (pe_slice sl_tup (pv 0) (po_some pe_int) po_none) (pg_tup rfl (pgs_cons (pg_name (i := 2) sc_number_behind.nd rfl (.inl rfl)) (pgs_cons (pg_name (i := 3) sc_number_behind.nd rfl (.inl rfl)) (pgs_cons (pg_name (i := 4) sc_number_behind.nd rfl (.inl rfl)) pgs_nil)))))
      (pss_cons (ps_if (pt_cmpR op_le (pv 1) (pv 2) (nomark _))
        (pss_one (ps_ret (pv 1)))
        pss_nil)
      (pss_cons (ps_if (pt_cmpR op_ge (pv 1) (pv 3) (nomark _))
        (pss_one (ps_ret (pe_op op_sub (pe_op op_add (pe_op op_add (pv 2) (pe_callB call_len_str (by rfl) m_len PySem.boot_len (pa_cons (pv 4) pa_nil))) (pv 1)) (pv 3))))
        pss_nil)
      (pss_one (ps_ret pe_non))))), ?_⟩
  refine qd_un3 (d1 := .int x.2.a) (d2 := .int x.2.b) (d3 := .str x.2.q) (ed_slT (n := 1) (ed_var rfl h1) ev_c (by decide) (by simp)) fun w1 w2 w3 H1 e1 r1 r2 r3 => ?_
  rw [rp_int.mp r1, rp_int.mp r2, rp_str.mp r3]
  by_cases c1 : n ≤ x.2.a
  · have e : nb x.2.a x.2.b x.2.q.length n = some n := by unfold nb; rw [if_pos c1]
    rw [e] at q
    exact q_when (et_is (et_test (ev_op (ev_var rfl) (ev_var rfl) rv_I0)) (decide_eq_true (by omega))) (fun _ H2 e2 => sd_ret (d := .int (n : Nat)) (ed_i (ev_var rfl)) fun v H3 e3 r3 => q v H3 ((e1.trans e2).trans e3) r3) fun z => by cases z
  · refine q_when (et_is (et_test (ev_op (ev_var rfl) (ev_var rfl) rv_I0)) (decide_eq_false (by omega))) (fun z => by cases z) fun _ H2 e2 => ?_
    by_cases c2 : x.2.b ≤ n
    · have e : nb x.2.a x.2.b x.2.q.length n = some (x.2.a + x.2.q.length + n - x.2.b) := by unfold nb; rw [if_neg c1, if_pos c2]
      rw [e] at q
      exact q_when (et_is (et_test (ev_op (ev_var rfl) (ev_var rfl) rv_I0)) (decide_eq_true (by omega))) (fun _ H3 e3 => sd_ret (d := .int ((x.2.a + x.2.q.length + n - x.2.b : Nat) : Int)) (ed_i (ev_is (ev_op (ev_op (ev_op (ev_var rfl) (ev_lenS (ev_var rfl) (by omega)) rv_I0) (ev_var rfl) rv_I0) (ev_var rfl) rv_I0) (by show V.int _ = V.int _; congr 1; omega))) fun v H4 e4 r4 => q v H4 (((e1.trans e2).trans e3).trans e4) r4) fun z => by cases z
    · have e : nb x.2.a x.2.b x.2.q.length n = none := by unfold nb; rw [if_neg c1, if_neg c2]
      rw [e] at q
      refine q_when (et_is (et_test (ev_op (ev_var rfl) (ev_var rfl) rv_I0)) (decide_eq_false (by omega))) (fun z => by cases z) fun _ H3 e3 => ?_
      exact sd_ret (d := .non) (ed_n ev_c) fun v H4 e4 r4 => q v H4 (((e1.trans e2).trans e3).trans e4) r4
def movD (s : List Nat) (es : List Ed) (n : Nat) : D := match mv (st s es) n with
  | none => .non
  | some m => pl (pos (fin s es) m)
def sp_moved (mg : Str → Option Value) : Sp := SpX mg 3 fun ds o => ∃ s es x, ds = [.str s, .lst ((st s es).map edx), x] ∧ okT 200 s ∧ Ch s es ∧ es.length ≤ 8 ∧ ((∃ n, n ≤ s.length ∧ x = pl (pos s n) ∧ o = .inl (movD s es n)) ∨ (placeB s x = false ∧ o = .inr ("BadPlace", none)))
theorem fin_all0 {s : List Nat} {es : List Ed} (h : okT 200 s) (c : Ch s es) : okT 200 (fin s es) := by
  have := fin_ok es.length h c
  rw [List.take_of_length_le (Nat.le_refl _)] at this
  exact this
end
end HW

set_option Elab.async false
set_option linter.all false
set_option maxRecDepth 100000
namespace HW
open PySem PySem.Spec PyProof.Rows L2 Evl SX
section
variable {P : Program} {w : World} {K : PySem.W.Frag} {mg : Str → Option Value} {base : Heap}
/-! ### edits of any form -/
def smallE (x : D) : Prop := ∀ b e q, x = .tup [b, e, .str q] → q.length ≤ 1000
def NoEd (s : List Nat) (x : D) : Prop := ∀ e : Ed, e.can s → x ≠ edD s e
def txtB : D → Bool
  | .str q => decide ((q.length : Int) ≤ 40) && q.all sgn
  | _ => false
theorem edD_inj {s : List Nat} {e e' : Ed} (h : edD s e = edD s e') (h1 : e.a ≤ s.length) (h2 : e.b ≤ s.length) (h3 : e'.a ≤ s.length) (h4 : e'.b ≤ s.length) : e = e' := by
  unfold edD pl at h
  injection h with h
  injection h with a1 h
  injection h with a2 h
  injection h with a3 h
  injection a1 with a1
  injection a1 with b1 b2
  injection b2 with b2 _
  injection a2 with a2
  injection a2 with c1 c2
  injection c2 with c2 _
  injection a3 with a3
  injection b1 with b1
  injection b2 with b2
  injection c1 with c1
  injection c2 with c2
  have i1 := pos_inj h1 h3 (Prod.ext (by omega) (by omega))
  have i2 := pos_inj h2 h4 (Prod.ext (by omega) (by omega))
  obtain ⟨a, b, q⟩ := e
  obtain ⟨a', b', q'⟩ := e'
  cases i1
  cases i2
  cases a3
  rfl
theorem txtB_of {e : Ed} {s : List Nat} (h : e.can s) : txtB (.str e.q) = true := by
  have := h.2.2.1
  show (decide _ && _) = true
  rw [decide_eq_true (by have := this.1; omega), this.2]
  rfl
theorem txtB_is {x : D} (h : txtB x = true) : ∃ q, x = .str q ∧ okT 40 q := by
  cases x with
  | str q =>
    have h : (decide ((q.length : Int) ≤ 40) && q.all sgn) = true := h
    rw [Bool.and_eq_true, decide_eq_true_eq] at h
    exact ⟨q, rfl, by have := h.1; omega, h.2⟩
  | _ => cases h
def spX_can_be_done : Sp := SpR 2 fun ds d => ∃ s x, ds = [.str s, x] ∧ okT 200 s ∧ smallE x ∧ ((∃ e : Ed, e.can s ∧ x = edD s e ∧ d = .bl true) ∨ (NoEd s x ∧ d = .bl false))
theorem sc_can_be_done : FnScope ["sheet", "edit", "begin", "end", "put", "taken"] ["sheet", "edit"] (defScope (topS 33)) := ⟨rfl, rfl, rfl, by decide +kernel, rfl, by decide +kernel, by decide +kernel⟩
theorem ok_can_be_done {f : Addr} {fd : FuncData} (F : Fun K "can_be_done" "can_be_done" (topS 33) f fd) (m_tuple : mg "tuple" = none) (m_isinstance : mg "isinstance" = none) (m_len : mg "len" = none) {t_MOST_PUT : Tok} (c_MOST_PUT : mg "MOST_PUT" = some (.int 40 t_MOST_PUT)) {t_MOST_SIGNS : Tok} (c_MOST_SIGNS : mg "MOST_SIGNS" = some (.int 200 t_MOST_SIGNS)) (d_is_place : Df P w K mg base "is_place" ["sheet", "value"] 3 sp_is_place) (d_is_text_of_signs : Df P w K mg base "is_text_of_signs" ["text", "most"] 2 sp_is_text_of_signs) (d_number_in : DfX P w K mg base "number_in" ["sheet", "place"] 4 (sp_number_in mg)) : FnOk P w K mg base CX0 5 f fd ["sheet", "edit"] spX_can_be_done := by
  refine F.ok sc_can_be_done (fun vs H Q E h => by exact SpR.len h) (fun cdv A outer s H vs Q E hr h => ?_)
  obtain ⟨ds, d, hl, rs, ⟨l, x, rfl, hs, hsm, hR⟩, q⟩ := h
  obtain ⟨v, r, rfl, h1, h2⟩ := rps_cons.mp rs
  obtain ⟨v2, r2, rfl, h3, h2⟩ := rps_cons.mp h2
  rw [rps_nil.mp h2, rp_str.mp h1]
  have hs1 := hs.1
  refine ⟨_, (pss_cons (ps_if (PW.pt (pw_or (pt_not (pt_val (pe_callB call_isi (by rfl) m_isinstance (by decide +kernel) (pa_cons (pv 1) (pa_cons (pe_bltn (v := .ty "tuple") (by rfl) m_tuple (by decide +kernel) rfl) pa_nil))))) (pw_or1 (pt_cmpR op_ne (pe_callB call_len_seq (by rfl) m_len PySem.boot_len (pa_cons (pv 1) pa_nil)) pe_int (nomark _)))))
        (pss_one (ps_ret pe_bl))
        pss_nil)
      (pss_cons (ps_asg (pv 1) (pg_tup rfl (pgs_cons (pg_name (i := 2) sc_can_be_done.nd rfl (.inl rfl)) (pgs_cons (pg_name (i := 3) sc_can_be_done.nd rfl (.inl rfl)) (pgs_cons (pg_name (i := 4) sc_can_be_done.nd rfl (.inl rfl)) pgs_nil)))))
      (pss_cons (ps_if (PW.pt (pw_or (pt_not (pt_val (d_is_place.pe (hr.mono (by decide)) (pa_cons (pv 0) (pa_cons (pv 2) pa_nil))))) (pw_or (pt_not (pt_val (d_is_place.pe (hr.mono (by decide)) (pa_cons (pv 0) (pa_cons (pv 3) pa_nil))))) (pw_or1 (pt_not (pt_val (d_is_text_of_signs.pe (hr.mono (by decide)) (pa_cons (pv 4) (pa_cons (pe_glob (v := .int 40) (by rfl) c_MOST_PUT ⟨_, rfl⟩) pa_nil)))))))))
        (pss_one (ps_ret pe_bl))
        pss_nil)
      (pss_cons (ps_set (i := 5) sc_can_be_done.nd rfl (.inl rfl) (pe_op op_sub (d_number_in.pe (E := E0) (hx := passX0) (hr.mono (by decide)) (pa_cons (pv 0) (pa_cons (pv 3) pa_nil))) (d_number_in.pe (E := E0) (hx := passX0) (hr.mono (by decide)) (pa_cons (pv 0) (pa_cons (pv 2) pa_nil)))))
      (pss_one (ps_ret (pe_and (pe_cmpR op_ge (pv 5) pe_int (nomark _)) (pe_one (pe_cmpR op_le (pe_op op_add (pe_op op_sub (pe_callB call_len_str (by rfl) m_len PySem.boot_len (pa_cons (pv 0) pa_nil)) (pv 5)) (pe_callB call_len_str (by rfl) m_len PySem.boot_len (pa_cons (pv 4) pa_nil))) (pe_glob (v := .int 200) (by rfl) c_MOST_SIGNS ⟨_, rfl⟩) (nomark _)))))))))), ?_⟩
  have retF : NoEd l x → ∀ {H1 : Hp} {σ : L2.St} {D' : Ends}, D'.rt = Q → Ex H H1 → tRet (tC (.bl false)) D' σ H1 := fun hn {H1 σ D'} hD e1 => by
    rcases hR with ⟨e, hc, hx, _⟩ | ⟨_, rfl⟩
    · exact absurd hx (hn e hc)
    · show D'.rt _ _
      rw [hD]
      exact q _ H1 e1 (rp_bl.mpr rfl)
  have shape : (∃ b e p, x = .tup [b, e, p]) ∨ ((∀ b e p, x ≠ .tup [b, e, p]) ∧ ((kitB (tyD x) "tuple" = some false) ∨ ∃ ds, x = .tup ds ∧ ds.length ≠ 3)) := by
    match x with
    | .int _ => exact .inr ⟨(fun _ _ _ z => by cases z), .inl k_it⟩
    | .bl _ => exact .inr ⟨(fun _ _ _ z => by cases z), .inl k_bt⟩
    | .non => exact .inr ⟨(fun _ _ _ z => by cases z), .inl k_nt⟩
    | .str _ => exact .inr ⟨(fun _ _ _ z => by cases z), .inl k_st⟩
    | .lst _ => exact .inr ⟨(fun _ _ _ z => by cases z), .inl k_lt⟩
    | .tup [] => exact .inr ⟨(fun _ _ _ z => by cases z), .inr ⟨_, rfl, by simp⟩⟩
    | .tup [_] => exact .inr ⟨(fun _ _ _ z => by cases z), .inr ⟨_, rfl, by simp⟩⟩
    | .tup [_, _] => exact .inr ⟨(fun _ _ _ z => by cases z), .inr ⟨_, rfl, by simp⟩⟩
    | .tup [b, e, p] => exact .inl ⟨b, e, p, rfl⟩
    | .tup (_ :: _ :: _ :: _ :: _) => exact .inr ⟨(fun _ _ _ z => by cases z), .inr ⟨_, rfl, by simp⟩⟩
  rcases shape with ⟨xb, xe, xp, rfl⟩ | ⟨hno, hk⟩
  case inr =>
    have hn : NoEd l x := fun e _ z => hno _ _ _ z
    rcases hk with hk | ⟨ds, rfl, hd⟩
    · exact q_when (et_or (a := true) (b := true) (et_yes (et_B (ed_isi (ed_var rfl h3) hk))) fun z => by cases z) (fun _ H1 e1 => retF hn rfl e1) fun z => by cases z
    · exact q_when (et_or0 (et_no (et_B (ed_isi (ed_var rfl h3) k_tt))) (et_is (et_test (ev_op (ed_lenT (ed_var rfl h3)) ev_c rv_neI)) (show (!decide ((ds.length : Int) = 3)) = true by rw [decide_eq_false (by omega)]; rfl))) (fun _ H1 e1 => retF hn rfl e1) fun z => by cases z
  refine q_when (et_or0 (et_no (et_B (ed_isi (ed_var rfl h3) k_tt))) (et_is (et_test (ev_op (ed_lenT (ed_var rfl h3)) ev_c rv_neI)) rfl)) (fun z => by cases z) fun _ H1 e1 => ?_
  refine qd_un3 (ed_var rfl (h3.ex e1)) fun w1 w2 w3 H2 e2 r1 r2 r3 => ?_
  have e12 := e1.trans e2
  have ht : ∀ {H'}, Ex H2 H' → EvT (tB (tCall sp_is_text_of_signs [] E0 (tCons (tVar 4) (tCons (tC (.int 40)) tNil)))) [some (.str (S l)), some v2, some w1, some w2, some w3, none] H' (txtB xp) := fun e3 => et_B (EvD.b (by
    cases xp with
    | str p => exact ed_call (eda_cons (ed_var rfl (r3.ex e3)) (eda_cons (ed_i ev_c) eda_nil)) (.inl ⟨p, 40, rfl, by have := hsm _ _ _ rfl; omega, rfl⟩)
    | int p => exact ed_call (eda_cons (ed_var rfl (r3.ex e3)) (eda_cons (ed_i ev_c) eda_nil)) (.inr ⟨_, 40, rfl, rfl, rfl⟩)
    | bl p => exact ed_call (eda_cons (ed_var rfl (r3.ex e3)) (eda_cons (ed_i ev_c) eda_nil)) (.inr ⟨_, 40, rfl, rfl, rfl⟩)
    | non => exact ed_call (eda_cons (ed_var rfl (r3.ex e3)) (eda_cons (ed_i ev_c) eda_nil)) (.inr ⟨_, 40, rfl, rfl, rfl⟩)
    | tup p => exact ed_call (eda_cons (ed_var rfl (r3.ex e3)) (eda_cons (ed_i ev_c) eda_nil)) (.inr ⟨_, 40, rfl, rfl, rfl⟩)
    | lst p => exact ed_call (eda_cons (ed_var rfl (r3.ex e3)) (eda_cons (ed_i ev_c) eda_nil)) (.inr ⟨_, 40, rfl, rfl, rfl⟩)))
  refine q_when (et_or (et_not (et_B (EvD.b (ed_call (eda_cons (ed_s (ev_var rfl)) (eda_cons (ed_var rfl r1) eda_nil)) ⟨l, xb, rfl, by omega, rfl⟩)))) fun _ => et_or (et_not (et_B (EvD.b (ed_call (eda_cons (ed_s (ev_var rfl)) (eda_cons (ed_var rfl r2) eda_nil)) ⟨l, xe, rfl, by omega, rfl⟩)))) fun _ => et_not (ht (Ex.refl _))) (fun hb H3 e3 => ?_) fun hb H3 e3 => ?_
  · refine retF (fun e hc z => ?_) rfl (e12.trans e3)
    injection z with z
    injection z with z1 z
    injection z with z2 z
    injection z with z3 _
    have c1 := hc.1
    have c2 := hc.2.1
    rw [z1, z2, z3, place_pos (by omega), place_pos (by omega), txtB_of hc] at hb
    cases hb
  · have hb : placeB l xb = true ∧ placeB l xe = true ∧ txtB xp = true := by
      revert hb
      cases placeB l xb <;> cases placeB l xe <;> cases txtB xp <;> simp
    obtain ⟨n, hn, rfl⟩ := place_is hb.1
    obtain ⟨m, hm, rfl⟩ := place_is hb.2.1
    obtain ⟨p, rfl, hp⟩ := txtB_is hb.2.2
    have hp1 := hp.1
    obtain rfl := rp_str.mp r3
    refine q_asg (ev_op (EvD.i (ed_callX (eda_cons (ed_s (ev_var rfl)) (eda_cons (ed_var rfl (r2.ex e3)) eda_nil)) (.inl ⟨l, m, rfl, by omega, hm, rfl⟩))) (EvD.i (ed_callX (eda_cons (ed_s (ev_var rfl)) (eda_cons (ed_var rfl (r1.ex e3)) eda_nil)) (.inl ⟨l, n, rfl, by omega, hn, rfl⟩))) rv_I0) fun H4 e4 => ?_
    have hd : d = .bl (decide ((0 : Int) ≤ (m : Int) - (n : Int)) && decide ((l.length : Int) - ((m : Int) - (n : Int)) + (p.length : Int) ≤ 200)) := by
      rcases hR with ⟨e, hc, hx, rfl⟩ | ⟨hn', rfl⟩
      · have : (⟨n, m, p⟩ : Ed) = e := edD_inj (s := l) hx hn hm (Nat.le_trans hc.1 hc.2.1) hc.2.1
        subst this
        have c1 : n ≤ m := hc.1
        have c4 : (put l n m p).length ≤ 200 := hc.2.2.2
        rw [put_len c1 hm] at c4
        rw [decide_eq_true (by omega), decide_eq_true (by omega)]
        rfl
      · by_cases c1 : n ≤ m
        · by_cases c2 : (l.length : Int) - ((m : Int) - (n : Int)) + (p.length : Int) ≤ 200
          · exact absurd rfl (hn' ⟨n, m, p⟩ ⟨c1, hm, hp, by show (put l n m p).length ≤ 200; rw [put_len c1 hm]; omega⟩)
          · rw [decide_eq_false c2, Bool.and_false]
        · rw [decide_eq_false (show ¬ (0 : Int) ≤ (m : Int) - (n : Int) by omega), Bool.false_and]
    rw [hd] at q
    exact sd_ret (ed_b (ev_andV (ev_op (ev_var rfl) ev_c rv_I0) fun _ => ev_op (ev_op (ev_op (ev_lenS (ev_var rfl) (by omega)) (ev_var rfl) rv_I0) (ev_lenS (ev_var rfl) (by omega)) rv_I0) ev_c rv_I0)) fun v H5 e5 r5 => q v H5 (((e12.trans e3).trans e4).trans e5) r5
def EdsBad (s : List Nat) (xs : List D) (o : Out) : Prop := (okT 200 s ∧ ∃ es x r, xs = (st s es).map edx ++ x :: r ∧ Ch s es ∧ es.length ≤ 8 ∧ (es.length = 8 ∨ NoEd (fin s es) x) ∧ o = .inr ("BadEdit", some [("number", .int (es.length : Nat))])) ∨ (¬ okT 200 s ∧ o = .inr ("BadSheet", none))
theorem EdsBad.out {s : List Nat} {xs : List D} {o : Out} (h : EdsBad s xs o) : ∃ nm fl, o = .inr (nm, fl) := by
  rcases h with ⟨_, _, _, _, _, _, _, _, h⟩ | ⟨_, h⟩
  · exact ⟨_, _, h⟩
  · exact ⟨_, _, h⟩
def EdsOut (f : List Nat → List Ed → D) : List D → Out → Prop := fun ds o => ∃ s xs, ds = [.str s, .lst xs] ∧ s.length ≤ 40000 ∧ (∀ x ∈ xs, smallE x) ∧ ((okT 200 s ∧ ∃ es, xs = (st s es).map edx ∧ Ch s es ∧ es.length ≤ 8 ∧ o = .inl (f s es)) ∨ EdsBad s xs o)
def spX_spans_of (mg : Str → Option Value) : Sp := SpX mg 2 (EdsOut fun s es => .lst ((st s es).map spn))
theorem num_txt : ∀ n : Nat, n ≤ 8 → (Str.ofString (toString (n : Int))).length ≤ 1000 := by decide +kernel
theorem num_log : ∀ n : Nat, n ≤ 8 → (n : Int).natAbs.log2 < 1920 := by decide +kernel
theorem sc_spans_of : FnScope ["sheet", "edits", "spans", "number", "edit", "begin", "end", "put", "span"] ["sheet", "edits"] (defScope (topS 32)) := ⟨rfl, rfl, rfl, by decide +kernel, rfl, by decide +kernel, by decide +kernel⟩
theorem ok_spans_of {f : Addr} {fd : FuncData} (F : Fun K "spans_of" "spans_of" (topS 32) f fd) (m_enumerate : mg "enumerate" = none) {t_MOST_EDITS : Tok} (c_MOST_EDITS : mg "MOST_EDITS" = some (.int 8 t_MOST_EDITS)) {C_BadEdit f_BadEdit : Addr} {fd_BadEdit : FuncData} (xi_BadEdit : Xi P w K mg base "BadEdit" "number" C_BadEdit f_BadEdit fd_BadEdit) (d_check_sheet : DfX P w K mg base "check_sheet" ["sheet"] 3 (sp_check_sheet mg)) (d_can_be_done : Df P w K mg base "can_be_done" ["sheet", "edit"] 5 spX_can_be_done) (d_number_in : DfX P w K mg base "number_in" ["sheet", "place"] 4 (sp_number_in mg)) (d_behind : Df P w K mg base "behind" ["span"] 1 sp_behind) : FnOk P w K mg base (L2.CX P w) 6 f fd ["sheet", "edits"] (spX_spans_of mg) := by
  refine F.okX sc_spans_of (fun vs H Q E h => by exact SpX.len h) (fun cdv A outer s H vs Q E hr h => ?_)
  obtain ⟨ds, o, hl, rs, ⟨l, xs, rfl, hz0, hsm, hR⟩, hq⟩ := h
  obtain ⟨v, r, rfl, h1, h2⟩ := rps_cons.mp rs
  obtain ⟨v2, r2, rfl, h3, h4⟩ := rps_cons.mp h2
  obtain ⟨ea, evs, rfl, he, hes⟩ := rp_lst.mp h3
  obtain rfl := rps_nil.mp h4
  obtain rfl := rp_str.mp h1
  refine ⟨_, (pss_cons (ps_expr (d_check_sheet.pe (E := E) (hx := passes_call (takes_of rfl rfl rfl rfl) (fun _ _ _ _ h => h)) (hr.mono (by decide)) (pa_cons (pv 0) pa_nil)))
      (pss_cons (ps_set (i := 2) sc_spans_of.nd rfl (.inl rfl) (pe_lst pa_nil))
      (pss_cons (ps_for (passes_of rfl) rfl (pi_enum (by rfl) m_enumerate (pa_cons (pv 1) pa_nil)) (pg_tup rfl (pgs_cons (pg_name (i := 3) sc_spans_of.nd rfl (.inl rfl)) (pgs_cons (pg_name (i := 4) sc_spans_of.nd rfl (.inl rfl)) pgs_nil)))
        (pss_cons (ps_if (PW.pt (pw_or (pt_cmpR op_eq (pv 3) (pe_glob (v := .int 8) (by rfl) c_MOST_EDITS ⟨_, rfl⟩) (nomark _)) (pw_or1 (pt_not (pt_val (d_can_be_done.pe (hr.mono (by decide)) (pa_cons (pv 0) (pa_cons (pv 4) pa_nil))))))))
        (pss_one (ps_raise rfl (takes_of rfl rfl rfl rfl) (pmk_oex (ds := []) (dvs := []) xi_BadEdit.oex xi_BadEdit.ini xi_BadEdit.tyI xi_BadEdit.F (hr.mono (by decide)) xi_BadEdit.bd .nil pass0 rfl xi_BadEdit.g (pa_cons (pv 3) pa_nil))))
        pss_nil)
      (pss_cons (ps_asg (pv 4) (pg_tup rfl (pgs_cons (pg_name (i := 5) sc_spans_of.nd rfl (.inl rfl)) (pgs_cons (pg_name (i := 6) sc_spans_of.nd rfl (.inl rfl)) (pgs_cons (pg_name (i := 7) sc_spans_of.nd rfl (.inl rfl)) pgs_nil)))))
      (pss_cons (ps_set (i := 8) sc_spans_of.nd rfl (.inl rfl) (pe_tup (pa_cons (pv 0) (pa_cons (d_number_in.pe (E := E) (hx := passes_call (takes_of rfl rfl rfl rfl) (fun _ _ _ _ h => h)) (hr.mono (by decide)) (pa_cons (pv 0) (pa_cons (pv 5) pa_nil))) (pa_cons (d_number_in.pe (E := E) (hx := passes_call (takes_of rfl rfl rfl rfl) (fun _ _ _ _ h => h)) (hr.mono (by decide)) (pa_cons (pv 0) (pa_cons (pv 6) pa_nil))) (pa_cons (pv 7) pa_nil))))))
      (pss_cons (ps_expr (pe_bm PySem.F.plainAttrs_list PySem.F.slot_list_append PySem.F.type_list_append mt_append (pv 2) (pa_cons (pv 8) pa_nil)))
      (pss_one (ps_set (i := 0) sc_spans_of.nd rfl (.inl rfl) (d_behind.pe (hr.mono (by decide)) (pa_cons (pv 8) pa_nil)))))))))
      (pss_one (ps_ret (pv 2)))))), ?_⟩
  have cases3 : (¬ okT 200 l ∧ o = .inr ("BadSheet", none)) ∨ (okT 200 l ∧ ∃ es tl, xs = (st l es).map edx ++ tl ∧ Ch l es ∧ es.length ≤ 8 ∧ ((tl = [] ∧ o = .inl (.lst ((st l es).map spn))) ∨ ∃ x r, tl = x :: r ∧ (es.length = 8 ∨ NoEd (fin l es) x) ∧ o = .inr ("BadEdit", some [("number", .int (es.length : Nat))]))) := by
    rcases hR with ⟨hs, es, hx, hc, h8, ho⟩ | ⟨hs, es, x, r, hx, hc, h8, hb, ho⟩ | h
    · exact .inr ⟨hs, es, [], by rw [hx, List.append_nil], hc, h8, .inl ⟨rfl, ho⟩⟩
    · exact .inr ⟨hs, es, _, hx, hc, h8, .inr ⟨x, r, rfl, hb, ho⟩⟩
    · exact .inl h
  rcases cases3 with ⟨hs, rfl⟩ | ⟨hs, es, tl, rfl, hc, h8, hE⟩
  · have q : ∀ C d H', mg "BadSheet" = some (.ref C) → Ex H H' → XdIs none d H H' → E (.ref C) d H' := hq
    exact qx_drop (ex_call (eda_cons (ed_s (ev_var rfl)) eda_nil) ⟨l, rfl, hz0, .inr ⟨hs, rfl⟩⟩ q)
  have hz := hs.1
  have hel : evs.length = es.length + tl.length := by rw [rps_len hes, List.length_append, List.length_map, st_len]
  refine qd_drop (ed_callX (eda_cons (ed_s (ev_var rfl)) eda_nil) ⟨l, rfl, by omega, .inl ⟨hs, rfl⟩⟩) fun H1 e1 => ?_
  refine q_asgL (el_lst ea_nil (by simp)) fun sp H2 hsp e2 hsp2 => ?_
  have e12 : Ex H H2 := e1.trans e2
  have hspn : H sp = none := fresh_back e1 hsp
  refine q_forE (xs := evs) (ev_var rfl) (sq_of (e12 _ _ he)) (fun i σ' H' => i ≤ es.length ∧ ∃ ws y3 y4 y5 y6 y7 y8, σ' = [some (.str (S (fin l (es.take i)))), some (.ref ea), some (.ref sp), y3, y4, y5, y6, y7, y8] ∧ Ex H H' ∧ H' sp = some (.lst ws) ∧ Rps H' (((st l es).take i).map spn) ws)
    (fun H3 e3 => ⟨Nat.zero_le _, [], none, none, none, none, none, none, rfl, e12.trans e3, e3 _ _ hsp2, rps_nil.mpr rfl⟩) (fun i σ' H' _ ⟨_, ws, y3, y4, y5, y6, y7, y8, _, p, _⟩ => sq_of (p _ _ he)) ?_ ?_
  · rintro i x σ' H' T hx ⟨hi0, ws, y3, y4, y5, y6, y7, y8, rfl, p1, p2, p3⟩ hT
    have eT : Ex H' (upd H' T (.tup [.int (i : Nat), x])) := Ex.new hT
    by_cases hi : i < es.length
    case neg =>
      have hie : i = es.length := by omega
      subst hie
      rcases hE with ⟨rfl, _⟩ | ⟨xb, rr, rfl, hbad, rfl⟩
      · have := (List.getElem?_eq_some_iff.mp hx).1
        rw [hel, List.length_nil] at this
        omega
      have q : ∀ C d H', mg "BadEdit" = some (.ref C) → Ex H H' → XdIs (some [("number", .int (es.length : Nat))]) d H H' → E (.ref C) d H' := hq
      obtain ⟨x', hx', rx⟩ := rps_get (i := es.length) (d := xb) hes (by rw [List.getElem?_append_right (by rw [List.length_map, st_len]; exact Nat.le_refl _), List.length_map, st_len, Nat.sub_self]; rfl)
      rw [hx] at hx'
      cases hx'
      have rx := (rx.ex p1).ex eT
      have hfa : es.take es.length = es := List.take_of_length_le (Nat.le_refl _)
      rw [hfa]
      have hok := fin_ok es.length hs hc
      rw [hfa] at hok
      have rz : ∀ {H3 : Hp} {D' : Ends} {σ : L2.St}, Ex (upd H' T (.tup [.int (es.length : Nat), x])) H3 → σ[3]? = some (some (.int (es.length : Nat))) → tMkO C_BadEdit (sp_init C_BadEdit "number") [] (tCons (tVar 3) tNil) σ H3 fun cls d H' => E cls d H' := fun {H3 D' σ} e3 hσ => by
        have eH := (p1.trans eT).trans e3
        exact sx_raiseN (ev_var hσ) (num_log _ h8) (num_txt _ h8) xi_BadEdit.g fun C d H4 hC e4 x4 => q C d H4 hC (eH.trans e4) (x4.ex eH)
      by_cases h8' : es.length = 8
      · exact q_when (et_or (a := true) (b := true) (et_is (et_test (ev_op (ev_var rfl) ev_c rv_eqI)) (decide_eq_true (by rw [h8']; rfl))) fun z => by cases z) (fun _ H3 e3 => rz (D' := { nx := fun _ _ => True, rt := fun _ _ => True }) e3 rfl) fun z => by cases z
      · have hno := hbad.resolve_left h8'
        exact q_when (et_or0 (et_is (et_test (ev_op (ev_var rfl) ev_c rv_eqI)) (decide_eq_false (by omega))) (et_yes (et_B (EvD.b (ed_call (eda_cons (ed_s (ev_var rfl)) (eda_cons (ed_var rfl rx) eda_nil)) ⟨_, xb, rfl, hok, hsm _ (by simp), .inr ⟨hno, rfl⟩⟩))))) (fun _ H3 e3 => rz (D' := { nx := fun _ _ => True, rt := fun _ _ => True }) e3 rfl) fun z => by cases z
    have hei : es[i]? = some es[i] := List.getElem?_eq_getElem hi
    have hst := st_get l es i _ hei
    have hcan := hc.get hei
    have hok := fin_ok i hs hc
    have hxi : ((st l es).map edx ++ tl)[i]? = some (edx (fin l (es.take i), es[i])) := by rw [List.getElem?_append_left (by rw [List.length_map, st_len]; exact hi), List.getElem?_map, hst]; rfl
    obtain ⟨x', hx', rx⟩ := rps_get (i := i) (d := edx (fin l (es.take i), es[i])) hes hxi
    rw [hx] at hx'
    cases hx'
    have rx : Rp (upd H' T (.tup [.int (i : Nat), x])) (edD (fin l (es.take i)) es[i]) x := (rx.ex p1).ex eT
    have hlen := hok.1
    have c1 := hcan.1
    have c2 := hcan.2.1
    have c3 := hcan.2.2.1.1
    have nlp : nl (spn (fin l (es.take i), es[i])) = true := rfl
    refine q_when (et_or0 (et_is (et_test (ev_op (ev_var rfl) ev_c rv_eqI)) (decide_eq_false (by omega))) (et_no (et_B (EvD.b (ed_call (eda_cons (ed_s (ev_var rfl)) (eda_cons (ed_var rfl rx) eda_nil)) ⟨_, _, rfl, hok, hsm _ (List.mem_of_getElem? hxi), .inl ⟨es[i], hcan, rfl, rfl⟩⟩))))) (fun z => by cases z) fun _ H3 e3 => ?_
    refine qd_un3 (ed_var rfl (rx.ex e3)) fun w1 w2 w3 H4 e4 r1 r2 r3 => ?_
    rw [rp_str.mp r3]
    refine qd_asg (d := spn (fin l (es.take i), es[i])) (ed_tup (eda_cons (ed_s (ev_var rfl)) (eda_cons (ed_callX (eda_cons (ed_s (ev_var rfl)) (eda_cons (ed_var rfl r1) eda_nil)) (.inl ⟨_, es[i].a, rfl, by omega, by omega, rfl⟩)) (eda_cons (ed_callX (eda_cons (ed_s (ev_var rfl)) (eda_cons (ed_var rfl r2) eda_nil)) (.inl ⟨_, es[i].b, rfl, by omega, by omega, rfl⟩)) (eda_cons (ed_s (ev_var rfl)) eda_nil))))) fun w4 H5 e5 r5 => ?_
    have e35 : Ex (upd H' T (.tup [.int (i : Nat), x])) H5 := (e3.trans e4).trans e5
    have p2' : H5 sp = some (.lst ws) := e35 _ _ (eT _ _ p2)
    refine qd_app p2' (ev_var rfl) (ed_var rfl r5) ?_ fun w5 H6 e6 r6 => ?_
    · have := rps_len p3
      rw [List.length_map, List.length_take] at this
      omega
    have p2'' : H6 sp = some (.lst ws) := e6 _ _ p2'
    have tx : Tx H6 (upd H6 sp (.lst (ws ++ [w5]))) := Tx.lst p2''
    refine sd_asg (ed_call (eda_cons (ed_var rfl ((r5.ex e6).tx tx nlp)) eda_nil) ⟨fin l (es.take i), es[i].a, es[i].b, es[i].q, rfl, by omega, by omega, by omega, by omega, rfl⟩) fun w6 H7 e7 r7 => ?_
    rw [rp_str.mp r7]
    refine ⟨by omega, ws ++ [w5], some (.int (i : Nat)), some x, some w1, some w2, some (.str (S es[i].q)), some w4, ?_, ?_, e7 _ _ upd_same, ?_⟩
    · rw [fin_succ l es i _ hei]
      rfl
    · exact ((p1.trans (eT.trans (e35.trans e6))).mut hspn).trans e7
    · rw [List.take_add_one, hst, List.map_append]
      refine (rps_app (Rps.tx tx (nls_all fun d hd => ?_) (p3.ex (eT.trans (e35.trans e6)))) (rps_cons.mpr ⟨w5, [], rfl, r6.tx tx nlp, rps_nil.mpr rfl⟩)).ex e7
      obtain ⟨y, _, rfl⟩ := List.mem_map.mp hd
      rfl
  · rintro σ' H' ⟨hi0, ws, y3, y4, y5, y6, y7, y8, rfl, p1, p2, p3⟩
    rcases hE with ⟨rfl, rfl⟩ | ⟨xb, rr, rfl, _⟩
    case inr => rw [hel, List.length_cons] at hi0; omega
    have q : ∀ v H', Ex H H' → Rp H' (.lst ((st l es).map spn)) v → Q v H' := hq
    refine sd_ret (d := .lst ((st l es).map spn)) (ed_var rfl (rp_lst.mpr ⟨sp, ws, rfl, p2, ?_⟩)) fun v H8 e8 r8 => q v H8 (p1.trans e8) r8
    rw [hel, List.length_nil, Nat.add_zero, List.take_of_length_le (by rw [st_len]; exact Nat.le_refl _)] at p3
    exact p3
def spX_edited (mg : Str → Option Value) : Sp := SpX mg 2 (EdsOut fun s es => .str (fin s es))
theorem sc_edited : FnScope ["sheet", "edits", "spans"] ["sheet", "edits"] (defScope (topS 20)) := ⟨rfl, rfl, rfl, by decide +kernel, rfl, by decide +kernel, by decide +kernel⟩
theorem ok_edited {f : Addr} {fd : FuncData} (F : Fun K "edited" "edited" (topS 20) f fd) (d_spans_of : DfX P w K mg base "spans_of" ["sheet", "edits"] 6 (spX_spans_of mg)) (d_behind : Df P w K mg base "behind" ["span"] 1 sp_behind) : FnOk P w K mg base (L2.CX P w) 7 f fd ["sheet", "edits"] (spX_edited mg) := by
  refine F.okX sc_edited (fun vs H Q E h => by exact SpX.len h) (fun cdv A outer s H vs Q E hr h => ?_)
  obtain ⟨ds, o, hl, rs, ⟨l, xs, rfl, hz, hsm, hR⟩, hq⟩ := h
  obtain ⟨v, r, rfl, h1, h2⟩ := rps_cons.mp rs
  obtain ⟨v2, r2, rfl, h3, h4⟩ := rps_cons.mp h2
  rw [rps_nil.mp h4, rp_str.mp h1]
  refine ⟨_, (pss_cons (ps_set (i := 2) sc_edited.nd rfl (.inl rfl) (d_spans_of.pe (E := E) (hx := passes_call (takes_of rfl rfl rfl rfl) (fun _ _ _ _ h => h)) (hr.mono (by decide)) (pa_cons (pv 0) (pa_cons (pv 1) pa_nil))))
      (pss_one (ps_ret (pe_ifExp (pt_truth (pv 2) (by intro _; rfl)) (d_behind.pe (hr.mono (by decide)) (pa_cons (pe_ix (r := rIxL K) ix_list (pv 2) (pe_un un_neg pe_int) (fun _ _ => rfl)) pa_nil)) (pv 0))))), ?_⟩
  rcases hR with ⟨hs, es, rfl, hc, h8, rfl⟩ | hB
  case inr =>
    obtain ⟨nm, fl, rfl⟩ := hB.out
    have q : ∀ C d H', mg nm = some (.ref C) → Ex H H' → XdIs fl d H H' → E (.ref C) d H' := hq
    exact qx_asg (ex_call (eda_cons (ed_s (ev_var rfl)) (eda_cons (ed_var rfl h3) eda_nil)) ⟨l, xs, rfl, hz, hsm, .inr hB⟩ q)
  have q : ∀ v H', Ex H H' → Rp H' (.str (fin l es)) v → Q v H' := hq
  refine qd_asg (ed_callX (eda_cons (ed_s (ev_var rfl)) (eda_cons (ed_var rfl h3) eda_nil)) ⟨l, _, rfl, hz, hsm, .inl ⟨hs, es, rfl, hc, h8, rfl⟩⟩) fun w1 H1 e1 r1 => ?_
  refine sd_ret (ed_if (et_truL (ed_var rfl r1)) (fun hb => ?_) fun hb => ?_) fun v H2 e2 r2 => q v H2 (e1.trans e2) r2
  · have hp : 0 < es.length := by
      cases es with
      | nil => cases hb
      | cons _ _ => simp
    obtain ⟨s', e', g1, g2, g3, g4⟩ := st_last l hp hs hc
    have a1 := g3.1
    have a2 := g4.1
    have a3 := g4.2.1
    have a4 := g4.2.2.1.1
    rw [← g2]
    exact ed_call (eda_cons (d := spn (s', e')) (ed_ixL (ed_var rfl r1) (ev_un ev_c ru_neg) (by rw [atI_m1 (by rw [List.length_map, st_len]; exact hp), List.getElem?_map, List.length_map, st_len, g1]; rfl)) eda_nil) ⟨s', e'.a, e'.b, e'.q, rfl, by omega, by omega, by omega, by omega, rfl⟩
  · have hp : es = [] := by
      cases es with
      | nil => rfl
      | cons _ _ => cases hb
    subst hp
    exact ed_s (ev_var rfl)
def EdsNo : List D → Out → Prop := fun ds o => ∃ s xs, ds = [.str s, .lst xs] ∧ s.length ≤ 40000 ∧ (∀ x ∈ xs, smallE x) ∧ EdsBad s xs o
def spX_together (mg : Str → Option Value) : Sp := SpX mg 2 EdsNo
theorem sc_together : FnScope ["sheet", "edits", "after", "first", "kept", "last", "put"] ["sheet", "edits"] (defScope (topS 21)) := ⟨rfl, rfl, rfl, by decide +kernel, rfl, by decide +kernel, by decide +kernel⟩
theorem ok_together {f : Addr} {fd : FuncData} (F : Fun K "together" "together" (topS 21) f fd) (m_len : mg "len" = none) (d_edited : DfX P w K mg base "edited" ["sheet", "edits"] 7 (spX_edited mg)) (d_same_at_begin : Df P w K mg base "same_at_begin" ["one", "other"] 1 sp_same_at_begin) (d_place_in : DfX P w K mg base "place_in" ["sheet", "number"] 2 (sp_place_in mg)) : FnOk P w K mg base (L2.CX P w) 8 f fd ["sheet", "edits"] (spX_together mg) := by
  refine F.okX sc_together (fun vs H Q E h => by exact SpX.len h) (fun cdv A outer s H vs Q E hr h => ?_)
  obtain ⟨ds, o, hl, rs, ⟨l, xs, rfl, hz, hsm, hB⟩, hq⟩ := h
  obtain ⟨v, r, rfl, h1, h2⟩ := rps_cons.mp rs
  obtain ⟨v2, r2, rfl, h3, h4⟩ := rps_cons.mp h2
  rw [rps_nil.mp h4, rp_str.mp h1]
  refine ⟨_, (pss_cons (ps_set (i := 2) sc_together.nd rfl (.inl rfl) (d_edited.pe (E := E) (hx := passes_call (takes_of rfl rfl rfl rfl) (fun _ _ _ _ h => h)) (hr.mono (by decide)) (pa_cons (pv 0) (pa_cons (pv 1) pa_nil))))
      (pss_cons (ps_if (pt_cmpR op_eq (pv 2) (pv 0) (nomark _))
        (pss_one (ps_ret pe_non))
        pss_nil)
      (pss_cons (ps_set (i := 3) sc_together.nd rfl (.inl rfl) (d_same_at_begin.pe (hr.mono (by decide)) (pa_cons (pv 0) (pa_cons (pv 2) pa_nil))))
      (pss_cons (ps_set (i := 4) sc_together.nd rfl (.inl rfl) (d_same_at_begin.pe (hr.mono (by decide)) (pa_cons (pe_revS (pe_slice sl_str (pv 0) (po_some (pv 3)) po_none)) (pa_cons (pe_revS (pe_slice sl_str (pv 2) (po_some (pv 3)) po_none)) pa_nil))))
      (pss_cons (ps_set (i := 5) sc_together.nd rfl (.inl rfl) (pe_op op_sub (pe_callB call_len_str (by rfl) m_len PySem.boot_len (pa_cons (pv 0) pa_nil)) (pv 4)))
      (pss_cons (ps_set (i := 6) sc_together.nd rfl (.inl rfl) (pe_slice sl_str (pv 2) (po_some (pv 3)) (po_some (pe_op op_sub (pe_callB call_len_str (by rfl) m_len PySem.boot_len (pa_cons (pv 2) pa_nil)) (pv 4)))))
      (pss_one (ps_ret (pe_tup (pa_cons (d_place_in.pe (E := E) (hx := passes_call (takes_of rfl rfl rfl rfl) (fun _ _ _ _ h => h)) (hr.mono (by decide)) (pa_cons (pv 0) (pa_cons (pv 3) pa_nil))) (pa_cons (d_place_in.pe (E := E) (hx := passes_call (takes_of rfl rfl rfl rfl) (fun _ _ _ _ h => h)) (hr.mono (by decide)) (pa_cons (pv 0) (pa_cons (pv 5) pa_nil))) (pa_cons (pv 6) pa_nil)))))))))))), ?_⟩
  obtain ⟨nm, fl, rfl⟩ := hB.out
  have q : ∀ C d H', mg nm = some (.ref C) → Ex H H' → XdIs fl d H H' → E (.ref C) d H' := hq
  exact qx_asg (ex_call (eda_cons (ed_s (ev_var rfl)) (eda_cons (ed_var rfl h3) eda_nil)) ⟨l, xs, rfl, hz, hsm, .inr hB⟩ q)
theorem sc_undoing : FnScope ["span", "sheet", "first", "last", "put", "begin", "end"] ["span"] (defScope (topS 36)) := ⟨rfl, rfl, rfl, by decide +kernel, rfl, by decide +kernel, by decide +kernel⟩
theorem ok_undoing {f : Addr} {fd : FuncData} (F : Fun K "undoing" "undoing" (topS 36) f fd) (m_len : mg "len" = none) (d_place_in : DfX P w K mg base "place_in" ["sheet", "number"] 2 (sp_place_in mg)) (d_behind : Df P w K mg base "behind" ["span"] 1 sp_behind) : FnOk P w K mg base CX0 3 f fd ["span"] sp_undoing := by
  refine F.ok sc_undoing (fun vs H Q E h => by exact SpR.len h) (fun cdv A outer s H vs Q E hr h => ?_)
  obtain ⟨ds, d, hl, rs, ⟨⟨l, e⟩, rfl, hs, hc, rfl⟩, q⟩ := h
  obtain ⟨v, r, rfl, h1, h2⟩ := rps_cons.mp rs
  rw [rps_nil.mp h2]
  have h1 : Rp H (spanD l e.a e.b e.q) v := h1
  have a1 : l.length ≤ 200 := hs.1
  have a2 : e.a ≤ e.b := hc.1
  have a3 : e.b ≤ l.length := hc.2.1
  have a4 : e.q.length ≤ 40 := hc.2.2.1.1
  have a5 : (put l e.a e.b e.q).length ≤ 200 := hc.2.2.2
  have a6 := put_len (q := e.q) a2 a3
  refine ⟨_, (pss_cons (ps_asg (pv 0) (pg_tup rfl (pgs_cons (pg_name (i := 1) sc_undoing.nd rfl (.inl rfl)) (pgs_cons (pg_name (i := 2) sc_undoing.nd rfl (.inl rfl)) (pgs_cons (pg_name (i := 3) sc_undoing.nd rfl (.inl rfl)) (pgs_cons (pg_name (i := 4) sc_undoing.nd rfl (.inl rfl)) pgs_nil))))))
      (pss_cons (ps_set (i := 5) sc_undoing.nd rfl (.inl rfl) (d_place_in.pe (E := E0) (hx := passX0) (hr.mono (by decide)) (pa_cons (pv 1) (pa_cons (pv 2) pa_nil))))
      (pss_cons (ps_set (i := 6) sc_undoing.nd rfl (.inl rfl) (d_place_in.pe (E := E0) (hx := passX0) (hr.mono (by decide)) (pa_cons (d_behind.pe (hr.mono (by decide)) (pa_cons (pv 0) pa_nil)) (pa_cons (pe_op op_add (pv 2) (pe_callB call_len_str (by rfl) m_len PySem.boot_len (pa_cons (pv 4) pa_nil))) pa_nil))))
      (pss_one (ps_ret (pe_tup (pa_cons (pv 5) (pa_cons (pv 6) (pa_cons (pe_slice sl_str (pv 1) (po_some (pv 2)) (po_some (pv 3))) pa_nil))))))))), ?_⟩
  refine qd_un4 (ed_var rfl h1) fun w1 w2 w3 w4 H1 e1 r1 r2 r3 r4 => ?_
  rw [rp_str.mp r1, rp_int.mp r2, rp_int.mp r3, rp_str.mp r4]
  refine qd_asg (ed_callX (eda_cons (ed_s (ev_var rfl)) (eda_cons (ed_i (ev_var rfl)) eda_nil)) (.inl ⟨l, e.a, rfl, by omega, by omega, rfl⟩)) fun w5 H2 e2 r5 => ?_
  refine qd_asg (ed_callX (eda_cons (ed_call (eda_cons (ed_var rfl ((h1.ex e1).ex e2)) eda_nil) ⟨l, e.a, e.b, e.q, rfl, by omega, by omega, by omega, by omega, rfl⟩) (eda_cons (ed_i (ev_op (ev_var rfl) (ev_lenS (ev_var rfl) (by omega)) rv_I0)) eda_nil)) (.inl ⟨put l e.a e.b e.q, e.a + e.q.length, rfl, by omega, by omega, rfl⟩)) fun w6 H3 e3 r6 => ?_
  exact sd_ret (d := undo (l, e)) (ed_tup (eda_cons (ed_var rfl (r5.ex e3)) (eda_cons (ed_var rfl r6) (eda_cons (ed_s (ev_mid (l := l) (a := e.a) (b := e.b) (ev_var rfl) (ev_var rfl) (ev_var rfl) (by omega) a2 a3)) eda_nil)))) fun v H5 e5 r5 => q v H5 (((e1.trans e2).trans e3).trans e5) r5
def spX_back (mg : Str → Option Value) : Sp := SpX mg 2 EdsNo
theorem sc_back : FnScope ["sheet", "edits", "span"] ["sheet", "edits"] (defScope (topS 22)) := ⟨rfl, rfl, rfl, by decide +kernel, rfl, by decide +kernel, by decide +kernel⟩
theorem ok_back {f : Addr} {fd : FuncData} (F : Fun K "back" "back" (topS 22) f fd) (m_reversed : mg "reversed" = none) (d_spans_of : DfX P w K mg base "spans_of" ["sheet", "edits"] 6 (spX_spans_of mg)) (d_undoing : Df P w K mg base "undoing" ["span"] 3 sp_undoing) : FnOk P w K mg base (L2.CX P w) 7 f fd ["sheet", "edits"] (spX_back mg) := by
  refine F.okX sc_back (fun vs H Q E h => by exact SpX.len h) (fun cdv A outer s H vs Q E hr h => ?_)
  obtain ⟨ds, o, hl, rs, ⟨l, xs, rfl, hz, hsm, hB⟩, hq⟩ := h
  obtain ⟨v, r, rfl, h1, h2⟩ := rps_cons.mp rs
  obtain ⟨v2, r2, rfl, h3, h4⟩ := rps_cons.mp h2
  rw [rps_nil.mp h4, rp_str.mp h1]
  refine ⟨_, (pss_one (ps_ret (pe_lc (own := [("span", 2)]) (g := gName 2) (tt := tYes) rfl sc_back.nd (pi_reversed (by rfl) m_reversed (pa_cons (d_spans_of.pe (E := E) (hx := passes_call (takes_of rfl rfl rfl rfl) (fun _ _ _ _ h => h)) (hr.mono (by decide)) (pa_cons (pv 0) (pa_cons (pv 1) pa_nil))) pa_nil)) (blkOk_by (own := [("span", 2)]) (N := ["sheet", "edits", "span"]) (sc := defScope (topS 22)) (by decide +kernel)) (fun _ _ _ _ _ => (pg_name (i := 2) sc_back.nd rfl (.inl rfl))) (fun _ _ _ _ _ => pts_nil) (fun _ _ _ _ _ => (d_undoing.pe (hr.mono (by decide)) (pa_cons (pv 2) pa_nil)))))), ?_⟩
  obtain ⟨nm, fl, rfl⟩ := hB.out
  have q : ∀ C d H', mg nm = some (.ref C) → Ex H H' → XdIs fl d H H' → E (.ref C) d H' := hq
  exact (ex_call (eda_cons (ed_s (ev_var rfl)) (eda_cons (ed_var rfl h3) eda_nil)) ⟨l, xs, rfl, hz, hsm, .inr hB⟩ q) H (Ex.refl _) _
def spX_moved (mg : Str → Option Value) : Sp := SpX mg 3 fun ds o => ∃ s xs y, ds = [.str s, .lst xs, y] ∧ s.length ≤ 40000 ∧ (∀ x ∈ xs, smallE x) ∧ EdsBad s xs o
theorem sc_moved : FnScope ["sheet", "edits", "place", "spans", "number", "span"] ["sheet", "edits", "place"] (defScope (topS 23)) := ⟨rfl, rfl, rfl, by decide +kernel, rfl, by decide +kernel, by decide +kernel⟩
theorem ok_moved {f : Addr} {fd : FuncData} (F : Fun K "moved" "moved" (topS 23) f fd) (d_spans_of : DfX P w K mg base "spans_of" ["sheet", "edits"] 6 (spX_spans_of mg)) (d_number_in : DfX P w K mg base "number_in" ["sheet", "place"] 4 (sp_number_in mg)) (d_number_behind : Df P w K mg base "number_behind" ["span", "number"] 1 sp_number_behind) (d_place_in : DfX P w K mg base "place_in" ["sheet", "number"] 2 (sp_place_in mg)) (d_behind : Df P w K mg base "behind" ["span"] 1 sp_behind) : FnOk P w K mg base (L2.CX P w) 7 f fd ["sheet", "edits", "place"] (spX_moved mg) := by
  refine F.okX sc_moved (fun vs H Q E h => by exact SpX.len h) (fun cdv A outer s H vs Q E hr h => ?_)
  obtain ⟨ds, o, hl, rs, ⟨l, xs, y, rfl, hz, hsm, hB⟩, hq⟩ := h
  obtain ⟨v, r, rfl, h1, h2⟩ := rps_cons.mp rs
  obtain ⟨v2, r2, rfl, h3, h4⟩ := rps_cons.mp h2
  obtain ⟨v3, r3, rfl, h5, h4⟩ := rps_cons.mp h4
  rw [rps_nil.mp h4, rp_str.mp h1]
  refine ⟨_, (pss_cons (ps_set (i := 3) sc_moved.nd rfl (.inl rfl) (d_spans_of.pe (E := E) (hx := passes_call (takes_of rfl rfl rfl rfl) (fun _ _ _ _ h => h)) (hr.mono (by decide)) (pa_cons (pv 0) (pa_cons (pv 1) pa_nil))))
      (pss_cons (ps_set (i := 4) sc_moved.nd rfl (.inl rfl) (d_number_in.pe (E := E) (hx := passes_call (takes_of rfl rfl rfl rfl) (fun _ _ _ _ h => h)) (hr.mono (by decide)) (pa_cons (pv 0) (pa_cons (pv 2) pa_nil))))
      (pss_cons (ps_for (passes_of rfl) rfl (pi_list (pv 3)) (pg_name (i := 5) sc_moved.nd rfl (.inl rfl))
        (pss_cons (ps_set (i := 4) sc_moved.nd rfl (.inl rfl) (d_number_behind.pe (hr.mono (by decide)) (pa_cons (pv 5) (pa_cons (pv 4) pa_nil))))
      (pss_one (ps_if (pt_cmpR op_isN (pv 4) pe_non (nomark _))
        (pss_one (ps_ret pe_non))
        pss_nil))))
      (pss_one (ps_ret (d_place_in.pe (E := E) (hx := passes_call (takes_of rfl rfl rfl rfl) (fun _ _ _ _ h => h)) (hr.mono (by decide)) (pa_cons (pe_ifExp (pt_truth (pv 3) (by intro _; rfl)) (d_behind.pe (hr.mono (by decide)) (pa_cons (pe_ix (r := rIxL K) ix_list (pv 3) (pe_un un_neg pe_int) (fun _ _ => rfl)) pa_nil)) (pv 0)) (pa_cons (pv 4) pa_nil)))))))), ?_⟩
  obtain ⟨nm, fl, rfl⟩ := hB.out
  have q : ∀ C d H', mg nm = some (.ref C) → Ex H H' → XdIs fl d H H' → E (.ref C) d H' := hq
  exact qx_asg (ex_call (eda_cons (ed_s (ev_var rfl)) (eda_cons (ed_var rfl h3) eda_nil)) ⟨l, xs, rfl, hz, hsm, .inr hB⟩ q)

end
end HW

set_option Elab.async false
set_option linter.all false
set_option maxRecDepth 100000
namespace HW
open PySem PySem.Spec PyProof.Rows L2 Evl SX
section
variable {P : Program} {w : World} {K : PySem.W.Frag} {mg : Str → Option Value} {base : Heap}
theorem fmodB (x : Int) : 0 ≤ x.fmod 2147483647 ∧ x.fmod 2147483647 < 2147483647 := by
  rw [Int.fmod_eq_emod_of_nonneg _ (by decide)]
  exact ⟨Int.emod_nonneg _ (by decide), Int.emod_lt_of_pos _ (by decide)⟩
def sp__law_start (K : PySem.W.Frag) : Sp := fun vs H Q _ => ∃ sc ns, vs = [.ref sc] ∧ Scr K H sc (ns.map V.int) ∧ ∀ a H', H a = none → Ex H H' → StO K ns a H' → Q (.ref a) H'
theorem sc__law_start : FnScope ["_law_script", "_law_mixed", "_law_cell"] ["_law_script"] (defScope (topS 39)) := ⟨rfl, rfl, rfl, by decide +kernel, rfl, by decide +kernel, by decide +kernel⟩
theorem ok__law_start {f : Addr} {fd : FuncData} (F : Fun K "_law_start" "_law_start" (topS 39) f fd) : FnOk P w K mg base CX0 1 f fd ["_law_script"] (sp__law_start K) := by
  refine F.ok sc__law_start (fun vs H Q E h => by obtain ⟨sc, ns, rfl, _⟩ := h; rfl) (fun cdv A outer s H vs Q E hr h => ?_)
  obtain ⟨sc, ns, rfl, hs, q⟩ := h
  refine ⟨_, (pss_cons (ps_set (i := 1) sc__law_start.nd rfl (.inl rfl) pe_int)
      (pss_cons (ps_for PassesOwn.never rfl (pi_list (pv 0)) (pg_name (i := 2) sc__law_start.nd rfl (.inl rfl))
        (pss_one (ps_set (i := 1) sc__law_start.nd rfl (.inl rfl) (pe_op op_modN (pe_op op_add (pe_op op_add (pe_op op_mul (pv 1) pe_int) (pv 2)) pe_int) pe_int))))
      (pss_one (ps_ret (pe_lst (pa_cons (pv 0) (pa_cons pe_int (pa_cons (pv 1) (pa_cons pe_int pa_nil))))))))), ?_⟩
  refine q_asg ev_c fun H1 e1 => ?_
  refine q_forLn (ev_var rfl) (hs.ex e1).sq (fun i σ' H' => ∃ m y, 0 ≤ m ∧ m < 2147483647 ∧ σ' = [some (.ref sc), some (.int m), y] ∧ Ex H H') (fun H2 e2 => ⟨1, none, by decide, by decide, rfl, e1.trans e2⟩) (fun i σ' H' _ ⟨_, _, _, _, _, p⟩ => (hs.ex p).sq) ?_ ?_
  · rintro i x σ' H' hx ⟨m, y, m0, m1, rfl, p⟩
    rw [List.getElem?_map] at hx
    obtain ⟨z, hz, rfl⟩ := Option.map_eq_some_iff.mp hx
    refine s_asg (ev_op (ev_op (ev_op (ev_op (ev_var rfl) ev_c (rv_I (.inl ⟨by omega, by omega⟩))) (ev_var rfl) rv_I0) ev_c rv_I0) ev_c (rv_I (by decide))) fun H2 e2 => ?_
    exact ⟨_, _, (fmodB _).1, (fmodB _).2, rfl, p.trans e2⟩
  · rintro σ' H' ⟨m, y, m0, m1, rfl, p⟩
    refine s_retL (el_lst (ea_cons (ev_var rfl) (ea_cons ev_c (ea_cons (ev_var rfl) (ea_cons ev_c ea_nil)))) (by simp)) fun a H2 ha e2 h2 => ?_
    exact q a H2 (fresh_back p ha) (p.trans e2) ⟨sc, 0, m, 0, h2, hs.ex (p.trans e2), by decide, m0, m1, by decide⟩
theorem fmodP {x m : Int} (h : 1 ≤ m) : 0 ≤ x.fmod m ∧ x.fmod m < m := by
  rw [Int.fmod_eq_emod_of_nonneg _ (by omega)]
  exact ⟨Int.emod_nonneg _ (by omega), Int.emod_lt_of_pos _ (by omega)⟩
theorem sc__law_drawn : FnScope ["_law_state", "_law_many", "_law_found", "_law_cell"] ["_law_state", "_law_many"] (defScope (topS 40)) := ⟨rfl, rfl, rfl, by decide +kernel, rfl, by decide +kernel, by decide +kernel⟩
theorem ok__law_drawn {f : Addr} {fd : FuncData} (F : Fun K "_law_drawn" "_law_drawn" (topS 40) f fd) (m_len : mg "len" = none) : FnOk P w K mg base CX0 1 f fd ["_law_state", "_law_many"] (spDrawn K) := by
  refine F.ok sc__law_drawn (fun vs H Q E h => by obtain ⟨a, m, ns, rfl, _⟩ := h; rfl) (fun cdv A outer s H vs Q E hr h => ?_)
  obtain ⟨a, m, ns, rfl, hst, m1, m2, q⟩ := h
  obtain ⟨sc, i, mx, r, ha, hs, i0, x0, x1, r0⟩ := hst.ex
  have hdv : ∀ x : Int, CDivW x m := fun x => wide_div (b := 61) (by omega) (by omega) (by decide) (by decide)
  refine ⟨_, (pss_cons (ps_if (pt_cmpR op_gt (pe_ix (r := rIxL K) ix_list (pv 0) pe_int (fun _ _ => rfl)) pe_int (nomark _))
        (pss_cons (ps_set (i := 2) sc__law_drawn.nd rfl (.inl rfl) (pe_op op_modN (pe_ix (r := rIxL K) ix_list (pv 0) pe_int (fun _ _ => rfl)) (pv 1)))
      (pss_cons (ps_asg (pe_op op_fdivW (pe_ix (r := rIxL K) ix_list (pv 0) pe_int (fun _ _ => rfl)) (pv 1)) (pg_sub (pv 0) pe_int set_list))
      (pss_one (ps_ret (pv 2)))))
        pss_nil)
      (pss_cons (ps_asg (pe_op op_add (pe_ix (r := rIxL K) ix_list (pv 0) pe_int (fun _ _ => rfl)) pe_int) (pg_sub (pv 0) pe_int set_list))
      (pss_cons (ps_if (pt_cmpR op_le (pe_ix (r := rIxL K) ix_list (pv 0) pe_int (fun _ _ => rfl)) (pe_callB call_len_seq (by rfl) m_len PySem.boot_len (pa_cons (pe_ix (r := rIxL K) ix_list (pv 0) pe_int (fun _ _ => rfl)) pa_nil)) (nomark _))
        (pss_cons (ps_set (i := 3) sc__law_drawn.nd rfl (.inl rfl) (pe_ix (r := rIxL K) ix_list (pe_ix (r := rIxL K) ix_list (pv 0) pe_int (fun _ _ => rfl)) (pe_op op_sub (pe_ix (r := rIxL K) ix_list (pv 0) pe_int (fun _ _ => rfl)) pe_int) (fun _ _ => rfl)))
      (pss_cons (ps_asg (pe_ifExp (pt_cmpR op_ge (pv 3) (pe_op op_pow pe_int pe_int) (nomark _)) (pe_op op_fdivW (pv 3) (pv 1)) pe_int) (pg_sub (pv 0) pe_int set_list))
      (pss_one (ps_ret (pe_op op_modN (pv 3) (pv 1))))))
        pss_nil)
      (pss_cons (ps_asg (pe_op op_modN (pe_op op_add (pe_op op_mul (pe_ix (r := rIxL K) ix_list (pv 0) pe_int (fun _ _ => rfl)) pe_int) pe_int) pe_int) (pg_sub (pv 0) pe_int set_list))
      (pss_one (ps_ret (pe_op op_modN (pe_op op_fdivW (pe_ix (r := rIxL K) ix_list (pv 0) pe_int (fun _ _ => rfl)) pe_int) (pv 1)))))))), ?_⟩
  have it : ∀ {H' : Hp} {i' mx' r' : Int} {j : Nat} {v : V} {te : TE} {σ : L2.St}, H' a = some (.lst [.ref sc, .int i', .int mx', .int r']) → σ[0]? = some (some (.ref a)) → Ev te σ H' (.int (j : Int)) → [V.ref sc, .int i', .int mx', .int r'][j]? = some v → Ev (tOp (rIxL K) (tVar 0) te) σ H' v := fun h1 h2 h3 h4 => ev_op (ev_var h2) h3 (rv_ixL (sq_of h1) (atI_nat h4))
  refine q_when (et_test (ev_op (it (j := 3) ha rfl ev_c rfl) ev_c rv_I0)) (fun hb H1 e1 => ?_) fun hb H1 e1 => ?_
  · have ha1 := e1 _ _ ha
    refine q_asg (ev_op (it (j := 3) ha1 rfl ev_c rfl) (ev_var rfl) (rv_I (by omega))) fun H2 e2 => ?_
    have ha2 := e2 _ _ ha1
    refine q_setL (j := 3) ha2 (ev_op (it (j := 3) ha2 rfl ev_c rfl) (ev_var rfl) (rv_I (hdv _))) (ev_var rfl) ev_c (by simp) fun H3 e3 => ?_
    have e13 := (e1.trans e2).trans e3
    refine s_ret (ev_var rfl) fun H4 e4 => q _ H4 (fmodP m1).1 (fmodP m1).2 (((ExB.of e13).trans (ExB.upd _ _ _)).trans (.of e4)) ⟨sc, i, mx, r / m, e4 _ _ upd_same, ((ExB.upd _ _ _).seq (e13 _ _ ha) (hs.ex e13)).ex e4, i0, x0, x1, Int.ediv_nonneg r0 (by omega)⟩
  · have ha1 := e1 _ _ ha
    refine q_setL (j := 1) ha1 (ev_op (it (j := 1) ha1 rfl ev_c rfl) ev_c rv_I0) (ev_var rfl) ev_c (by simp) fun H2 e2 => ?_
    have e12 := e1.trans e2
    have ha3 : (upd H2 a (.lst ([V.ref sc, .int i, .int mx, .int r].set 1 (.int (i + 1))))) a = some (.lst [V.ref sc, .int (i + 1), .int mx, .int r]) := upd_same
    have hs3 : Scr K (upd H2 a (.lst ([V.ref sc, .int i, .int mx, .int r].set 1 (.int (i + 1))))) sc (ns.map V.int) := (ExB.upd _ _ _).seq (e12 _ _ ha) (hs.ex e12)
    have x3 : ExB a H (upd H2 a (.lst ([V.ref sc, .int i, .int mx, .int r].set 1 (.int (i + 1))))) := (ExB.of e12).trans (ExB.upd _ _ _)
    generalize (upd H2 a (.lst ([V.ref sc, .int i, .int mx, .int r].set 1 (.int (i + 1))))) = H3 at *
    have hln : Ev (tCB (fun xs H Q => ∃ p ys, xs = [.ref p] ∧ (SqL K H p ys ∨ SqT K H p ys) ∧ Q (.int ys.length) H) (tCons (tOp (rIxL K) (tVar 0) (tC (.int 0))) tNil)) [some (.ref a), some (.int m), none, none] H3 (.int (ns.length : Int)) := fun H4 e4 Q q =>
      it (j := 0) ha3 rfl ev_c rfl H4 e4 _ fun H5 e5 => ⟨sc, ns.map V.int, rfl, .inl (hs3.ex (e4.trans e5)).sq, by rw [List.length_map]; exact q H5 e5⟩
    refine q_when (et_test (ev_op (it (j := 1) ha3 rfl ev_c rfl) hln rv_I0)) (fun hb H4 e4 => ?_) fun hb H4 e4 => ?_
    · have hle : i + 1 ≤ (ns.length : Int) := of_decide_eq_true hb
      have ha4 := e4 _ _ ha3
      have hs4 : Scr K H4 sc (ns.map V.int) := hs3.ex e4
      have hi : i.toNat < ns.length := by omega
      have hcell : (ns.map V.int)[i.toNat]? = some (.int ns[i.toNat]) := by rw [List.getElem?_map, List.getElem?_eq_getElem hi]; rfl
      refine q_asg (ev_op (y := .int (i.toNat : Int)) (it (j := 0) ha4 rfl ev_c rfl) (ev_is (v := .int (i + 1 - 1)) (ev_op (it (j := 1) ha4 rfl ev_c rfl) ev_c rv_I0) (by show V.int (i + 1 - 1) = V.int (i.toNat : Int); congr 1; omega)) (rv_ixL hs4.sq (atI_nat hcell))) fun H5 e5 => ?_
      have ha5 := e5 _ _ ha4
      have hs5 : Scr K H5 sc (ns.map V.int) := hs4.ex e5
      have hpow : Ev (tOp (rI CPow fun i j => .int (i ^ j.toNat)) (tC (.int 10)) (tC (.int 18))) [some (.ref a), some (.int m), none, some (.int ns[i.toNat])] H5 (.int (10 ^ 18)) := ev_is (ev_op ev_c ev_c (rv_I ⟨by decide, by decide, by decide⟩)) rfl
      have hx : ∃ z, 0 ≤ z ∧ Ev (tIf (tTest (tOp (rI0 fun i j => .bl (decide (j ≤ i))) (tVar 3) (tOp (rI CPow fun i j => .int (i ^ j.toNat)) (tC (.int 10)) (tC (.int 18))))) (tOp (rI CDivW fun i j => .int (i / j)) (tVar 3) (tVar 1)) (tC (.int 0))) [some (.ref a), some (.int m), none, some (.int ns[i.toNat])] H5 (.int z) := by
        by_cases hc : (10 : Int) ^ 18 ≤ ns[i.toNat]
        · exact ⟨ns[i.toNat] / m, Int.ediv_nonneg (by omega) (by omega), ev_if (b := true) (et_is (et_test (ev_op (ev_var rfl) hpow rv_I0)) (decide_eq_true hc)) (fun _ => ev_op (ev_var rfl) (ev_var rfl) (rv_I (hdv _))) fun z => by cases z⟩
        · exact ⟨0, by decide, ev_if (b := false) (et_is (et_test (ev_op (ev_var rfl) hpow rv_I0)) (decide_eq_false hc)) (fun z => by cases z) fun _ => ev_c⟩
      obtain ⟨z, z0, hz⟩ := hx
      refine q_setL (j := 3) ha5 hz (ev_var rfl) ev_c (by simp) fun H6 e6 => ?_
      have e46 := (e4.trans e5).trans e6
      refine s_ret (ev_op (ev_var rfl) (ev_var rfl) (rv_I (by omega))) fun H7 e7 => q _ H7 (fmodP m1).1 (fmodP m1).2 ((x3.trans ((ExB.of e46).trans (ExB.upd _ _ _))).trans (.of e7)) ⟨sc, i + 1, mx, z, e7 _ _ upd_same, ((ExB.upd _ _ _).seq (e46 _ _ ha3) (hs3.ex e46)).ex e7, by omega, x0, x1, z0⟩
    · have ha4 := e4 _ _ ha3
      have hs4 : Scr K H4 sc (ns.map V.int) := hs3.ex e4
      refine q_setL (j := 2) ha4 (ev_op (ev_op (ev_op (it (j := 2) ha4 rfl ev_c rfl) ev_c (rv_I (.inl ⟨by omega, by omega⟩))) ev_c rv_I0) ev_c (rv_I (by decide))) (ev_var rfl) ev_c (by simp) fun H5 e5 => ?_
      have ha6 : (upd H5 a (.lst ([V.ref sc, .int (i + 1), .int mx, .int r].set 2 (.int ((mx * 48271 + 11).fmod 2147483647))))) a = some (.lst [V.ref sc, .int (i + 1), .int ((mx * 48271 + 11).fmod 2147483647), .int r]) := upd_same
      refine s_ret (ev_op (ev_op (it (j := 2) ha6 rfl ev_c rfl) ev_c (rv_I ⟨by decide, by decide⟩)) (ev_var rfl) (rv_I (by omega))) fun H7 e7 => q _ H7 (fmodP m1).1 (fmodP m1).2 ((x3.trans ((ExB.of (e4.trans e5)).trans (ExB.upd _ _ _))).trans (.of e7)) ⟨sc, i + 1, _, r, e7 _ _ upd_same, ((ExB.upd _ _ _).seq ((e4.trans e5) _ _ ha3) (hs3.ex (e4.trans e5))).ex e7, by omega, (fmodB _).1, (fmodB _).2, r0⟩

end
end HW

set_option Elab.async false
set_option linter.all false
set_option maxRecDepth 100000
namespace HW
open PySem PySem.Spec PyProof.Rows L2 Evl SX
section
variable {P : Program} {w : World} {K : PySem.W.Frag} {mg : Str → Option Value} {base : Heap}
def everyS : Str := Str.ofString " !\"#$&'()*+,-./0123456789:;<=>?@ABCDEFGHIJKLMNOPQRSTUVWXYZ[]^_`abcdefghijklmnopqrstuvwxyz{|}~\n"
def everyL : List Nat := everyS.cps.toList
theorem every_S : S everyL = everyS := S_tl _
theorem every_ok : everyL.all sgn = true := by decide +kernel
theorem every_len : everyL.length = 94 := by decide +kernel
theorem es_fdiv {ns : List Int} {a : Addr} {σ : L2.St} {H : Hp} {ta : TE} {m j : Int} (hj : 0 < j) (hj2 : j < 1000) (h : EvS K ns a ta σ H fun v => ∃ k, v = .int k ∧ 0 ≤ k ∧ k < m) :
    EvS K ns a (tOp (rI CDivW fun i j => .int (i / j)) ta (tC (.int j))) σ H (fun v => ∃ k, v = .int (k / j) ∧ 0 ≤ k ∧ k < m) :=
  es_op h (es_of (P := fun v => v = .int j) (fun _ _ => ev_c) rfl) fun x y ⟨k, hx, k0, k1⟩ hy => by
    subst hx hy
    exact ⟨.int (k / j), fun H => rv_I (C := CDivW) (g := fun i j => .int (i / j)) (wide_div (b := 10) hj (by omega) (by decide) (by decide)), k, rfl, k0, k1⟩
def sp__law_sign (K : PySem.W.Frag) : Sp := SpS K 1 fun us v => us = [] ∧ ∃ c, sgn c = true ∧ v = .str (S [c])
theorem sc__law_sign : FnScope ["_law_state", "_law_every"] ["_law_state"] (defScope (topS 44)) := ⟨rfl, rfl, rfl, by decide +kernel, rfl, by decide +kernel, by decide +kernel⟩
theorem ok__law_sign {f : Addr} {fd : FuncData} (F : Fun K "_law_sign" "_law_sign" (topS 44) f fd) (m_len : mg "len" = none) (d__law_drawn : Df P w K mg base "_law_drawn" ["_law_state", "_law_many"] 1 (spDrawn K)) : FnOk P w K mg base CX0 2 f fd ["_law_state"] (sp__law_sign K) := by
  refine F.ok sc__law_sign (fun vs H Q E h => by exact SpS.len h) (fun cdv A outer s H vs Q E hr h => ?_)
  obtain ⟨a, ns, us, rfl, hn, hs, ⟨v0, rfl, _⟩, q⟩ := h
  refine ⟨_, (pss_cons (ps_set (i := 1) sc__law_sign.nd rfl (.inl rfl) pe_str)
      (pss_one (ps_ret (pe_ix (r := rIxL K) ix_list (pe_lst (pa_cons (pe_ix ix_str pe_str (d__law_drawn.pe (hr.mono (by decide)) (pa_cons (pv 0) (pa_cons pe_int pa_nil))) (fun _ _ => rfl)) (pa_cons (pe_ix ix_str (pv 1) (d__law_drawn.pe (hr.mono (by decide)) (pa_cons (pv 0) (pa_cons (pe_callB call_len_str (by rfl) m_len PySem.boot_len (pa_cons (pv 1) pa_nil)) pa_nil))) (fun _ _ => rfl)) pa_nil))) (pe_op op_fdivW (d__law_drawn.pe (hr.mono (by decide)) (pa_cons (pv 0) (pa_cons pe_int pa_nil))) pe_int) (fun _ _ => rfl))))), ?_⟩
  refine q_asg (v := .str (S everyL)) (by rw [every_S]; exact ev_c) fun H1 e1 => ?_
  have hs1 := hs.mono e1
  refine ss_ret (P := fun v => ∃ c, sgn c = true ∧ v = .str (S [c])) (es_pick (n := 2) (PS := fun us => ∃ v us', us = v :: us' ∧ (∃ c ∈ [97, 98, 32, 10], v = .str (S [c])) ∧ ∃ v us, us' = v :: us ∧ (∃ c ∈ everyL, v = .str (S [c])) ∧ us = [])
    (esa_cons (es_ixS (fun _ _ => ev_c (v := .str (S [97, 98, 32, 10]))) (by decide) (es_drawn rfl (es_of (fun _ _ => ev_c) rfl) (by decide) (by decide)))
      (esa_cons (es_ixS (fun _ _ => ev_var rfl) (by rw [every_len]; decide) (es_drawn rfl (es_of (fun _ _ => ev_lenS (ev_var rfl) (by rw [every_len]; decide)) rfl) (by rw [every_len]; decide) (by rw [every_len]; decide))) esa_nil)) ?_ (by decide) ?_) hs1 fun v H2 x2 s2 p => q v H2 ⟨rfl, p⟩ ((ExB.of e1).trans x2) s2
  · rintro us ⟨v1, us1, rfl, ⟨c1, hc1, rfl⟩, v2, us2, rfl, ⟨c2, hc2, rfl⟩, rfl⟩
    refine ⟨rfl, fun v hv => ?_⟩
    rcases List.mem_cons.mp hv with rfl | hv
    · refine ⟨c1, ?_, rfl⟩
      have := List.all_eq_true.mp (show [97, 98, 32, 10].all sgn = true by decide) c1 hc1
      exact this
    · rw [List.mem_singleton.mp hv]
      exact ⟨c2, List.all_eq_true.mp every_ok c2 hc2, rfl⟩
  · exact (es_fdiv (m := 4) (by decide) (by decide) (es_drawn rfl (es_of (fun _ _ => ev_c) rfl) (by decide) (by decide))).imp fun v ⟨k, hv, k0, k1⟩ => ⟨k / 3, hv, by omega, by omega⟩
def okP (m : Nat) : V → Prop := fun v => ∃ l, v = .str (S l) ∧ okT m l
def sp__law_put (K : PySem.W.Frag) : Sp := SpS K 2 fun us v => ∃ m : Nat, us = [.int (m : Int)] ∧ okP m v
def wordsL : List (List Nat) := [[97], [97, 98], [98], [97, 98, 97], [32], [10], [44], [97, 98, 99, 100, 101, 102, 103, 104], []]
theorem sc__law_put : FnScope ["_law_state", "_law_most", "_law_words", "_law_found", "_law_k"] ["_law_state", "_law_most"] (defScope (topS 45)) := ⟨rfl, rfl, rfl, by decide +kernel, rfl, by decide +kernel, by decide +kernel⟩
theorem ok__law_put {f : Addr} {fd : FuncData} (F : Fun K "_law_put" "_law_put" (topS 45) f fd) (m_range : mg "range" = none) (d__law_drawn : Df P w K mg base "_law_drawn" ["_law_state", "_law_many"] 1 (spDrawn K)) (d__law_sign : Df P w K mg base "_law_sign" ["_law_state"] 2 (sp__law_sign K)) : FnOk P w K mg base CX0 3 f fd ["_law_state", "_law_most"] (sp__law_put K) := by
  refine F.ok sc__law_put (fun vs H Q E h => by exact SpS.len h) (fun cdv A outer s H vs Q E hr h => ?_)
  obtain ⟨a, ns, us, rfl, hn, hs, ⟨v0, m, rfl, _⟩, q⟩ := h
  refine ⟨_, (pss_cons (ps_set (i := 2) sc__law_put.nd rfl (.inl rfl) (pe_lst (pa_cons pe_str (pa_cons pe_str (pa_cons pe_str (pa_cons pe_str (pa_cons pe_str (pa_cons pe_str (pa_cons pe_str (pa_cons pe_str (pa_cons pe_str pa_nil)))))))))))
      (pss_cons (ps_set (i := 3) sc__law_put.nd rfl (.inl rfl) pe_str)
      (pss_cons (ps_for PassesOwn.never rfl (pi_range1 (by rfl) m_range (pa_cons (d__law_drawn.pe (hr.mono (by decide)) (pa_cons (pv 0) (pa_cons (pe_ix (r := rIxL K) ix_list (pe_lst (pa_cons pe_int (pa_cons pe_int (pa_cons pe_int pa_nil)))) (d__law_drawn.pe (hr.mono (by decide)) (pa_cons (pv 0) (pa_cons pe_int pa_nil))) (fun _ _ => rfl)) pa_nil))) pa_nil)) (pg_name (i := 4) sc__law_put.nd rfl (.inl rfl))
        (pss_one (ps_set (i := 3) sc__law_put.nd rfl (.inl rfl) (pe_op op_add_str (pv 3) (pe_ix (r := rIxL K) ix_list (pe_lst (pa_cons (pe_ix (r := rIxL K) ix_list (pv 2) (d__law_drawn.pe (hr.mono (by decide)) (pa_cons (pv 0) (pa_cons pe_int pa_nil))) (fun _ _ => rfl)) (pa_cons (d__law_sign.pe (hr.mono (by decide)) (pa_cons (pv 0) pa_nil)) pa_nil))) (pe_op op_fdivW (d__law_drawn.pe (hr.mono (by decide)) (pa_cons (pv 0) (pa_cons pe_int pa_nil))) pe_int) (fun _ _ => rfl))))))
      (pss_one (ps_ret (pe_slice sl_str (pv 3) po_none (po_some (pv 1)))))))), ?_⟩
  refine q_asgL (xs := wordsL.map fun l => V.str (S l)) (el_lst (ea_cons ev_c (ea_cons ev_c (ea_cons ev_c (ea_cons ev_c (ea_cons ev_c (ea_cons ev_c (ea_cons ev_c (ea_cons ev_c (ea_cons ev_c ea_nil))))))))) (by simp [wordsL])) fun wl H1 hwl e1 hw1 => ?_
  refine q_asg (v := .str (S [])) ev_c fun H2 e2 => ?_
  have e12 := e1.trans e2
  have hs2 := hs.mono e12
  have hw2 := e2 _ _ hw1
  have hwa : wl ≠ a := fun z => by
    obtain ⟨_, _, _, _, h1, _⟩ := hs.ex
    rw [z, h1] at hwl
    cases hwl
  refine qs_forR (B := 30) (by decide) (ns := ns) (a := a) ((es_drawnP (P1 := fun v => v = .int 3 ∨ v = .int 8 ∨ v = .int 30) rfl (es_pick (n := 3) (PS := fun us => us = [.int 3, .int 8, .int 30]) ?_ ?_ (by decide) ((es_drawn (m := 3) rfl (es_of (fun _ _ => ev_c) rfl) (by decide) (by decide)))) ?_).imp ?_) hs2
    (fun i σ' H' => ∃ l y, σ' = [some (.ref a), some (.int (m : Int)), some (.ref wl), some (.str (S l)), y] ∧ l.length ≤ 8 * i ∧ i ≤ 1000 ∧ l.all sgn = true ∧ ExB a H H' ∧ StO K ns a H' ∧ H' wl = some (.lst (wordsL.map fun l => V.str (S l)))) ?_ ?_ ?_
  · exact fun H3 x3 s3 Q q => q _ H3 (ExB.refl _ _) s3 rfl
  · rintro us rfl
    refine ⟨rfl, fun v hv => ?_⟩
    rcases List.mem_cons.mp hv with rfl | hv
    · exact .inl rfl
    rcases List.mem_cons.mp hv with rfl | hv
    · exact .inr (.inl rfl)
    · exact .inr (.inr (List.mem_singleton.mp hv))
  · rintro v (rfl | rfl | rfl)
    · exact ⟨_, rfl, by decide, by decide⟩
    · exact ⟨_, rfl, by decide, by decide⟩
    · exact ⟨_, rfl, by decide, by decide⟩
  · rintro v ⟨k, m', rfl, k0, k1, hm⟩
    refine ⟨k, rfl, k0, ?_⟩
    have : m' ≤ 30 := by
      rcases hm with h | h | h <;> (injection h with h; omega)
    omega
  · exact fun H3 x3 s3 => ⟨[], none, rfl, by simp, by omega, rfl, (ExB.of e12).trans x3, s3, x3 _ _ hwa hw2⟩
  · rintro i σ' H' hi ⟨l, y, rfl, hl, hi2, ho, x, s, hw⟩
    refine ss_asg (P := fun v => ∃ l', v = .str (S l') ∧ l'.length ≤ 8 * (i + 1) ∧ l'.all sgn = true) (es_op (P1 := fun v => v = .str (S l)) (P2 := fun v => ∃ l, v = .str (S l) ∧ l.length ≤ 8 ∧ l.all sgn = true) (es_of (fun _ _ => ev_var rfl) rfl) (es_pick (n := 2) (PS := fun us => ∃ v us', us = v :: us' ∧ (∃ l, v = .str (S l) ∧ l.length ≤ 8 ∧ l.all sgn = true) ∧ ∃ v us, us' = v :: us ∧ (∃ us0, us0 = [] ∧ us0 = [] ∧ ∃ c, sgn c = true ∧ v = .str (S [c])) ∧ us = [])
      (esa_cons (es_ixL hw hwa (fun _ _ => ev_var rfl) ?_ (es_drawn rfl (es_of (fun _ _ => ev_c) rfl) (by decide) (by decide))) (esa_cons (es_call (PS := fun us => us = []) rfl esa_nil ?_) esa_nil)) ?_ (by decide) ?_) ?_) s fun v H3 x3 s3 p => ?_
    · intro v hv
      obtain ⟨l', hl', rfl⟩ := List.mem_map.mp hv
      refine ⟨l', rfl, ?_⟩
      have := List.all_eq_true.mp (show wordsL.all (fun l => decide (l.length ≤ 8) && l.all sgn) = true by decide) l' hl'
      rw [Bool.and_eq_true] at this
      exact ⟨of_decide_eq_true this.1, this.2⟩
    · rintro us rfl
      exact ⟨rfl, _, rfl, 32, by decide, rfl⟩
    · rintro us ⟨v1, us1, rfl, p1, v2, us2, rfl, ⟨us0, _, _, c, hc, rfl⟩, rfl⟩
      refine ⟨rfl, fun v hv => ?_⟩
      rcases List.mem_cons.mp hv with rfl | hv
      · exact p1
      · rw [List.mem_singleton.mp hv]
        exact ⟨[c], rfl, by simp, by simp [hc]⟩
    · exact (es_fdiv (m := 3) (by decide) (by decide) (es_drawn rfl (es_of (fun _ _ => ev_c) rfl) (by decide) (by decide))).imp fun v ⟨k, hv, k0, k1⟩ => ⟨k / 2, hv, by omega, by omega⟩
    · rintro x y rfl ⟨l', rfl, h8, h9⟩
      exact ⟨_, fun H => rv_addS (by omega), l ++ l', rfl, by rw [List.length_append]; omega, by rw [List.all_append, ho, h9]; rfl⟩
    · obtain ⟨l', rfl, h8, h9⟩ := p
      exact ⟨l', some (.int (i : Int)), rfl, h8, by omega, h9, x.trans x3, s3, x3 _ _ hwa hw⟩
  · rintro n σ' H' _ ⟨l, y, rfl, hl, hi2, ho, x, s, hw⟩
    refine s_ret (ev_to (n := m) (ev_var rfl) (ev_var rfl) (by omega)) fun H3 e3 => q _ H3 ⟨m, rfl, _, rfl, ?_, ?_⟩ (x.trans (.of e3)) (s.mono e3)
    · rw [List.length_take]; omega
    · exact List.all_eq_true.mpr fun c hc => List.all_eq_true.mp ho c (List.mem_of_mem_take hc)
theorem fold_rep {α : Type} (x : Array α) : ∀ (k : Nat) (acc : Array α), ((List.replicate k x).foldl (· ++ ·) acc).toList = acc.toList ++ (List.replicate k x.toList).flatten
  | 0, acc => by simp
  | k + 1, acc => by
    rw [List.replicate_succ, List.foldl_cons, fold_rep x k (acc ++ x), Array.toList_append, List.replicate_succ, List.flatten_cons, List.append_assoc]
theorem mul_S {l : List Nat} {n : Int} (h1 : 1 ≤ n) (h2 : n ≤ 100) (hl : l.length ≤ 1000) : MulOk (S l) n ∧ Txt.mul (S l) n = S (List.replicate n.toNat l).flatten := by
  refine ⟨⟨?_, fun _ _ => ?_, fun _ _ => ?_⟩, ?_⟩
  · rw [decide_eq_false (by omega), decide_eq_false (by omega)]; rfl
  · rw [S_len]
    have : (92233720368547758 : Int) ≤ (2 ^ 63 - 1) / n := by
      rw [Int.le_ediv_iff_mul_le (by omega)]
      omega
    omega
  · refine decide_eq_false fun z => ?_
    have h3 : l.length * n.toNat ≤ 1000 * 100 := Nat.mul_le_mul hl (by omega)
    rw [S_len] at z
    have h4 : 1000 * 100 ≤ sizeLine := by decide
    omega
  · unfold Txt.mul
    rw [if_neg (by omega)]
    by_cases hc : (n == 1 || (S l).length == 0) = true
    · rw [if_pos hc]
      rw [Bool.or_eq_true] at hc
      rcases hc with hc | hc
      · have : n = 1 := eq_of_beq hc
        subst this
        simp
      · have : l = [] := by
          have h := eq_of_beq hc
          rw [S_len] at h
          exact List.length_eq_zero_iff.mp h
        subst this
        simp
    · rw [if_neg hc]
      refine TL.ext_tl ?_
      show ((List.replicate n.toNat l.toArray).foldl (· ++ ·) #[]).toList = _
      rw [fold_rep]
      simp
theorem flat_len {l : List Nat} : ∀ (k : Nat), (List.replicate k l).flatten.length = k * l.length
  | 0 => by simp
  | k + 1 => by
    rw [List.replicate_succ, List.flatten_cons, List.length_append, flat_len k, Nat.succ_mul]
    omega
theorem flat_all {l : List Nat} (h : l.all sgn = true) : ∀ (k : Nat), (List.replicate k l).flatten.all sgn = true
  | 0 => rfl
  | k + 1 => by rw [List.replicate_succ, List.flatten_cons, List.all_append, h, flat_all h k]; rfl
def sp__law_sheet (K : PySem.W.Frag) : Sp := SpS K 1 fun us v => us = [] ∧ okP 200 v
theorem sc__law_sheet : FnScope ["_law_state"] ["_law_state"] (defScope (topS 46)) := ⟨rfl, rfl, rfl, by decide +kernel, rfl, by decide +kernel, by decide +kernel⟩
theorem ok__law_sheet {f : Addr} {fd : FuncData} (F : Fun K "_law_sheet" "_law_sheet" (topS 46) f fd) (d__law_put : Df P w K mg base "_law_put" ["_law_state", "_law_most"] 3 (sp__law_put K)) (d__law_drawn : Df P w K mg base "_law_drawn" ["_law_state", "_law_many"] 1 (spDrawn K)) : FnOk P w K mg base CX0 4 f fd ["_law_state"] (sp__law_sheet K) := by
  refine F.ok sc__law_sheet (fun vs H Q E h => by exact SpS.len h) (fun cdv A outer s H vs Q E hr h => ?_)
  obtain ⟨a, ns, us, rfl, hn, hs, ⟨v0, rfl, _⟩, q⟩ := h
  refine ⟨_, (pss_one (ps_ret (pe_slice sl_str (pe_op op_mulS (d__law_put.pe (hr.mono (by decide)) (pa_cons (pv 0) (pa_cons pe_int pa_nil))) (pe_op op_add pe_int (d__law_drawn.pe (hr.mono (by decide)) (pa_cons (pv 0) (pa_cons pe_int pa_nil))))) po_none (po_some (pe_ix (r := rIxL K) ix_list (pe_lst (pa_cons pe_int (pa_cons pe_int pa_nil))) (d__law_drawn.pe (hr.mono (by decide)) (pa_cons (pv 0) (pa_cons pe_int pa_nil))) (fun _ _ => rfl)))))), ?_⟩
  refine ss_ret (P := okP 200) (es_to (P1 := fun v => ∃ l, v = .str (S l) ∧ l.length ≤ 300 ∧ l.all sgn = true) (P2 := fun v => v = .int 200 ∨ v = .int 20)
    (es_op (P1 := fun v => ∃ us : List V, us = [V.int (60 : Nat)] ∧ ∃ m : Nat, us = [V.int (m : Int)] ∧ okP m v) (P2 := fun v => ∃ k, v = .int (1 + k) ∧ 0 ≤ k ∧ k < 5)
      (es_call (PS := fun us => us = [V.int (60 : Nat)]) rfl (fun H3 x3 s3 Q q => q _ H3 (ExB.refl _ _) s3 rfl) ?_)
      (es_op (P1 := fun v => v = .int 1) (P2 := fun v => ∃ k, v = .int k ∧ 0 ≤ k ∧ k < 5) (es_of (fun _ _ => ev_c) rfl) (es_drawn rfl (es_of (fun _ _ => ev_c) rfl) (by decide) (by decide)) ?_) ?_)
    (es_pick (n := 2) (PS := fun us => us = [.int 200, .int 20]) (fun H3 x3 s3 Q q => q _ H3 (ExB.refl _ _) s3 rfl) ?_ (by decide) (es_drawn (m := 2) rfl (es_of (fun _ _ => ev_c) rfl) (by decide) (by decide))) ?_) hs fun v H2 x2 s2 p => q v H2 ⟨rfl, p⟩ x2 s2
  · rintro us rfl
    exact ⟨rfl, .str (S []), 60, rfl, [], rfl, by simp, rfl⟩
  · rintro x y rfl ⟨k, rfl, k0, k1⟩
    exact ⟨.int (1 + k), fun H => rv_I0 (g := fun i j => V.int (i + j)), k, rfl, k0, k1⟩
  · rintro x y ⟨us, rfl, m, hm, l, rfl, hl, ho⟩ ⟨k, rfl, k0, k1⟩
    have hm : m = 60 := by
      injection hm with hm _
      injection hm with hm
      omega
    subst hm
    obtain ⟨m1, m2⟩ := mul_S (l := l) (n := 1 + k) (by omega) (by omega) (by omega)
    refine ⟨.str (S (List.replicate (1 + k).toNat l).flatten), fun H H1 _ Q q => ⟨S l, 1 + k, rfl, rfl, m1, by rw [m2]; exact q H1 (Ex.refl _)⟩, _, rfl, ?_, flat_all ho _⟩
    rw [flat_len]
    have : (1 + k).toNat * l.length ≤ 5 * 60 := Nat.mul_le_mul (by omega) hl
    omega
  · rintro us rfl
    refine ⟨rfl, fun v hv => ?_⟩
    rcases List.mem_cons.mp hv with rfl | hv
    · exact .inl rfl
    · exact .inr (List.mem_singleton.mp hv)
  · rintro x y ⟨l, rfl, hl, ho⟩ hy
    have : ∃ n : Nat, y = .int (n : Int) ∧ n ≤ 200 := by
      rcases hy with rfl | rfl
      · exact ⟨200, rfl, by decide⟩
      · exact ⟨20, rfl, by decide⟩
    obtain ⟨n, rfl, hn⟩ := this
    refine ⟨l, n, rfl, rfl, by omega, _, rfl, ?_, List.all_eq_true.mpr fun c hc => List.all_eq_true.mp ho c (List.mem_of_mem_take hc)⟩
    rw [List.length_take]
    omega
/-! ### _law_at -/
theorem ev_intB {σ : L2.St} {H : Hp} {ta : TE} {b : Bool} (h : Ev ta σ H (.bl b)) : Ev (tCB (fun xs H Q => (∃ i, xs = [.int i] ∧ Q (.int i) H) ∨ ∃ k, xs = [.bl k] ∧ Q (.int (if k then 1 else 0)) H) (tCons ta tNil)) σ H (.int (if b then 1 else 0)) := fun H1 e Q q =>
  h H1 e _ fun H2 e2 => .inr ⟨b, rfl, q H2 e2⟩
/-- [(r, c + 1), (r + 1, 0)][int(sign == '\n')] -/
theorem ed_step {σ : L2.St} {H : Hp} {tr tc ts : TE} {p : Nat × Nat} {c : Nat} (hr : Ev tr σ H (.int p.1)) (hc : Ev tc σ H (.int p.2)) (hs : Ev ts σ H (.str (S [c]))) :
    EvD (tOp (rIxL K) (tLst (tCons (tTup (tCons tr (tCons (tOp (rI0 fun i j => .int (i + j)) tc (tC (.int 1))) tNil))) (tCons (tTup (tCons (tOp (rI0 fun i j => .int (i + j)) tr (tC (.int 1))) (tCons (tC (.int 0)) tNil))) tNil)))
      (tCB (fun xs H Q => (∃ i, xs = [.int i] ∧ Q (.int i) H) ∨ ∃ k, xs = [.bl k] ∧ Q (.int (if k then 1 else 0)) H) (tCons (tOp rEq ts (tC (.str (Str.ofString "\n")))) tNil))) σ H (pl (stp p c)) := by
  refine ed_ixL (ds := [.tup [.int p.1, .int (p.2 + 1)], .tup [.int (p.1 + 1), .int 0]]) (ed_lst (eda_cons (ed_tup (eda_cons (ed_i hr) (eda_cons (ed_i (ev_op hc ev_c rv_I0)) eda_nil))) (eda_cons (ed_tup (eda_cons (ed_i (ev_op hr ev_c rv_I0)) (eda_cons (ed_i ev_c) eda_nil))) eda_nil))) (ev_intB (ev_op hs (ev_c (v := .str (S [10]))) rv_eqS)) ?_
  by_cases h : c = 10
  · subst h
    rw [decide_eq_true rfl]
    show some (D.tup [.int ((p.1 : Int) + 1), .int 0]) = _
    unfold stp pl
    rw [if_pos rfl]
    rfl
  · rw [decide_eq_false (fun z => h (by injection z))]
    show some (D.tup [.int (p.1 : Int), .int ((p.2 : Int) + 1)]) = _
    unfold stp pl
    rw [if_neg h]
    rfl
def sp__law_at : Sp := SpR 2 fun ds d => ∃ s n, ds = [.str s, .int (n : Nat)] ∧ s.length ≤ 40000 ∧ d = pl (pos s n)
theorem sc__law_at : FnScope ["_law_sheet_here", "_law_number", "_law_row", "_law_column", "_law_sign_here"] ["_law_sheet_here", "_law_number"] (defScope (topS 47)) := ⟨rfl, rfl, rfl, by decide +kernel, rfl, by decide +kernel, by decide +kernel⟩
theorem ok__law_at {f : Addr} {fd : FuncData} (F : Fun K "_law_at" "_law_at" (topS 47) f fd) (m_int : mg "int" = none) : FnOk P w K mg base CX0 1 f fd ["_law_sheet_here", "_law_number"] sp__law_at := by
  refine F.ok sc__law_at (fun vs H Q E h => by exact SpR.len h) (fun cdv A outer s H vs Q E hr h => ?_)
  obtain ⟨ds, d, hl, rs, ⟨l, n, rfl, hz, rfl⟩, q⟩ := h
  obtain ⟨v, r, rfl, h1, h2⟩ := rps_cons.mp rs
  obtain ⟨v2, r2, rfl, h3, h4⟩ := rps_cons.mp h2
  rw [rps_nil.mp h4, rp_str.mp h1, rp_int.mp h3]
  refine ⟨_, (pss_cons (ps_asg (pe_tup (pa_cons pe_int (pa_cons pe_int pa_nil))) (pg_tup rfl (pgs_cons (pg_name (i := 2) sc__law_at.nd rfl (.inl rfl)) (pgs_cons (pg_name (i := 3) sc__law_at.nd rfl (.inl rfl)) pgs_nil))))
      (pss_cons (ps_for PassesOwn.never rfl (pi_str (pe_slice sl_str (pv 0) po_none (po_some (pv 1)))) (pg_name (i := 4) sc__law_at.nd rfl (.inl rfl))
        (pss_one (ps_asg (pe_ix (r := rIxL K) ix_list (pe_lst (pa_cons (pe_tup (pa_cons (pv 2) (pa_cons (pe_op op_add (pv 3) pe_int) pa_nil))) (pa_cons (pe_tup (pa_cons (pe_op op_add (pv 2) pe_int) (pa_cons pe_int pa_nil))) pa_nil))) (pe_callTy call_int1 (by rfl) m_int (by decide +kernel) (pa_cons (pe_cmpR op_eq (pv 4) pe_str (nomark _)) pa_nil)) (fun _ _ => rfl)) (pg_tup rfl (pgs_cons (pg_name (i := 2) sc__law_at.nd rfl (.inl rfl)) (pgs_cons (pg_name (i := 3) sc__law_at.nd rfl (.inl rfl)) pgs_nil))))))
      (pss_one (ps_ret (pe_tup (pa_cons (pv 2) (pa_cons (pv 3) pa_nil))))))), ?_⟩
  refine qd_un2 (ed_tup (eda_cons (ed_i ev_c) (eda_cons (ed_i ev_c) eda_nil))) fun u1 u2 H0 e0 a1 a2 => ?_
  rw [rp_int.mp a1, rp_int.mp a2]
  refine q_forS (l := l.take n) (ev_to (ev_var rfl) (ev_var rfl) (by omega)) (fun i σ' H' => ∃ y, σ' = [some (.str (S l)), some (.int (n : Nat)), some (.int (pos (l.take n) i).1), some (.int (pos (l.take n) i).2), y] ∧ Ex H H') (fun H1 e1 => ⟨none, rfl, e0.trans e1⟩) ?_ ?_
  · rintro i c σ' H' hc ⟨y, rfl, p⟩
    refine sd_un2 (d1 := .int (pos (l.take n) (i + 1)).1) (d2 := .int (pos (l.take n) (i + 1)).2) ?_ fun v1 v2 H1 e1 r1 r2 => ⟨some (.str (S [c])), ?_, p.trans e1⟩
    · rw [pos_succ hc]
      exact ed_step (p := pos (l.take n) i) (ev_var rfl) (ev_var rfl) (ev_var rfl)
    · rw [rp_int.mp r1, rp_int.mp r2]
      rfl
  · rintro σ' H' ⟨y, rfl, p⟩
    have e : pos (l.take n) (l.take n).length = pos l n := by
      unfold pos
      rw [List.take_of_length_le (Nat.le_refl _)]
    rw [e]
    exact sd_ret (ed_tup (eda_cons (ed_i (ev_var rfl)) (eda_cons (ed_i (ev_var rfl)) eda_nil))) fun v H2 e2 r2 => q v H2 (p.trans e2) r2

end
end HW

set_option Elab.async false
set_option linter.all false
set_option maxRecDepth 100000
namespace HW
open PySem PySem.Spec PyProof.Rows L2 Evl SX
section
variable {P : Program} {w : World} {K : PySem.W.Frag} {mg : Str → Option Value} {base : Heap}
/-! ### _law_numbers -/
def nkey (p : Nat × Nat) : List Key := [.inl p.1, .inl p.2]
def ent (s : List Nat) (n : Nat) : List Key × V := (nkey (pos s n), .int n)
def nums (s : List Nat) (i : Nat) : List (List Key × V) := (List.range (i + 1)).map (ent s)
theorem nkey_inj {p q : Nat × Nat} (h : nkey p = nkey q) : p = q := by
  unfold nkey at h
  injection h with h1 h2
  injection h2 with h2 _
  have a1 := Sum.inl.inj h1
  have a2 := Sum.inl.inj h2
  exact Prod.ext (by omega) (by omega)
theorem nums_val {s : List Nat} {n : Nat} (hn : n ≤ s.length) : ∀ (xs : List Nat), (∀ x ∈ xs, x ≤ s.length) → valV (xs.map (ent s)) (nkey (pos s n)) = if n ∈ xs then some (.int n) else none
  | [], _ => by simp [valV]
  | x :: xs, h => by
    rw [List.map_cons]
    by_cases e : x = n
    · subst e
      rw [valV_pos (p := ent s x) (k := nkey (pos s x)) rfl, if_pos List.mem_cons_self]
      rfl
    · have ne : ¬ (ent s x).1 = nkey (pos s n) := fun z => e (pos_inj (h x List.mem_cons_self) hn (nkey_inj z))
      rw [valV_neg ne, nums_val hn xs fun y hy => h y (List.mem_cons_of_mem _ hy)]
      by_cases hm : n ∈ xs
      · rw [if_pos hm, if_pos (List.mem_cons_of_mem _ hm)]
      · rw [if_neg hm, if_neg fun z => (List.mem_cons.mp z).elim (fun z => e z.symm) hm]
theorem nums_get {s : List Nat} {n : Nat} (hn : n ≤ s.length) : valV (nums s s.length) (nkey (pos s n)) = some (.int n) := by
  unfold nums
  rw [nums_val hn _ (fun x hx => by have := List.mem_range.mp hx; omega), if_pos (List.mem_range.mpr (by omega))]
theorem nums_put {s : List Nat} {i : Nat} (hi : i < s.length) : putK (nums s i) (nkey (pos s (i + 1))) (.int ((i + 1 : Nat) : Int)) = nums s (i + 1) := by
  rw [putK_new]
  · unfold nums
    rw [List.range_succ (n := i + 1), List.map_append]
    rfl
  · unfold nums
    rw [nums_val (by omega) _ (fun x hx => by have := List.mem_range.mp hx; omega), if_neg (fun z => by have := List.mem_range.mp z; omega)]
def sp__law_numbers : Sp := fun vs H Q _ => ∃ s, vs = [.str (S s)] ∧ s.length ≤ 1000 ∧ ∀ p H', H p = none → Ex H H' → H' p = some (.dT (nums s s.length)) → Q (.ref p) H'
theorem sc__law_numbers : FnScope ["_law_sheet_here", "_law_found", "_law_row", "_law_column", "_law_number", "_law_sign_here"] ["_law_sheet_here"] (defScope (topS 48)) := ⟨rfl, rfl, rfl, by decide +kernel, rfl, by decide +kernel, by decide +kernel⟩
theorem ok__law_numbers {f : Addr} {fd : FuncData} (F : Fun K "_law_numbers" "_law_numbers" (topS 48) f fd) (m_enumerate : mg "enumerate" = none) (m_int : mg "int" = none) : FnOk P w K mg base CX0 1 f fd ["_law_sheet_here"] (sp__law_numbers) := by
  refine F.ok sc__law_numbers (fun vs H Q E h => by obtain ⟨s, rfl, _⟩ := h; rfl) (fun cdv A outer s H vs Q E hr h => ?_)
  obtain ⟨l, rfl, hl, q⟩ := h
  refine ⟨_, (pss_cons (ps_par3 (i := 1) (j := 2) (l := 3) rfl sc__law_numbers.nd rfl rfl rfl (by decide) (by decide) (by decide) rfl rfl rfl (pa_cons (pe_dispT1 (hu_of hr) (pe_tup (pa_cons pe_int (pa_cons pe_int pa_nil))) pe_int) (pa_cons pe_int (pa_cons pe_int pa_nil))) (by rfl))
      (pss_cons (ps_for PassesOwn.never rfl (pi_enumS (by rfl) m_enumerate (pa_cons (pv 0) pa_nil)) (pg_tup rfl (pgs_cons (pg_name (i := 4) sc__law_numbers.nd rfl (.inl rfl)) (pgs_cons (pg_name (i := 5) sc__law_numbers.nd rfl (.inl rfl)) pgs_nil)))
        (pss_cons (ps_asg (pe_ix (r := rIxL K) ix_list (pe_lst (pa_cons (pe_tup (pa_cons (pv 2) (pa_cons (pe_op op_add (pv 3) pe_int) pa_nil))) (pa_cons (pe_tup (pa_cons (pe_op op_add (pv 2) pe_int) (pa_cons pe_int pa_nil))) pa_nil))) (pe_callTy call_int1 (by rfl) m_int (by decide +kernel) (pa_cons (pe_cmpR op_eq (pv 5) pe_str (nomark _)) pa_nil)) (fun _ _ => rfl)) (pg_tup rfl (pgs_cons (pg_name (i := 2) sc__law_numbers.nd rfl (.inl rfl)) (pgs_cons (pg_name (i := 3) sc__law_numbers.nd rfl (.inl rfl)) pgs_nil))))
      (pss_one (ps_dput (hu_of hr) (pv 1) (pe_tup (pa_cons (pv 2) (pa_cons (pv 3) pa_nil))) (pe_op op_add (pv 4) pe_int) rfl))))
      (pss_one (ps_ret (pv 1))))), ?_⟩
  refine fun p hp => ?_
  refine ⟨by show 2 ≤ sizeLine; decide, fun b hb => ?_⟩
  have hbp : b ≠ p := fun z => by rw [z, upd_same] at hb; cases hb
  have eb : Ex H (upd (upd H p (.dT [])) b (.tup [.int 0, .int 0])) := (Ex.new hp).trans (Ex.new hb)
  refine ⟨b, nkey (0, 0), rfl, upd_same, by rw [upd_ne hbp.symm, upd_same], ?_⟩
  refine ⟨_, _, _, rfl, ?_⟩
  refine q_forES (l := l) (ev_var rfl) (fun i σ' H' => ∃ y4 y5, σ' = [some (.str (S l)), some (.ref p), some (.int (pos l i).1), some (.int (pos l i).2), y4, y5] ∧ Ex H H' ∧ H' p = some (.dT (nums l i))) (fun H1 e1 => ⟨none, none, rfl, (eb.mut hp).trans e1, e1 _ _ upd_same⟩) ?_ ?_
  · rintro i c σ' H' T hc ⟨y4, y5, rfl, x, hd⟩ hT
    have hi : i < l.length := (List.getElem?_eq_some_iff.mp hc).1
    refine qd_un2 (d1 := .int (pos l (i + 1)).1) (d2 := .int (pos l (i + 1)).2) ?_ fun v1 v2 H1 e1 r1 r2 => ?_
    · rw [pos_succ hc]
      exact ed_step (p := pos l i) (ev_var rfl) (ev_var rfl) (ev_var rfl)
    · rw [rp_int.mp r1, rp_int.mp r2]
      have hd1 : H1 p = some (.dT (nums l i)) := e1 _ _ (Ex.new hT _ _ hd)
      refine ev_op (ev_var rfl) ev_c rv_I0 H1 (Ex.refl _) _ fun H2 e2 => ⟨_, rfl, ?_⟩
      refine ed_tup (eda_cons (ed_i (i := (pos l (i + 1)).1) (ev_var rfl)) (eda_cons (ed_i (i := (pos l (i + 1)).2) (ev_var rfl)) eda_nil)) (by simp) H2 (Ex.refl _) _ fun v H3 e3 r3 => ?_
      obtain ⟨b3, vs3, rfl, g1, g2⟩ := rp_tup.mp r3
      obtain ⟨a1, t1, rfl, a2, g2⟩ := rps_cons.mp g2
      obtain ⟨a3, t3, rfl, a4, g2⟩ := rps_cons.mp g2
      rw [rps_nil.mp g2, rp_int.mp a2, rp_int.mp a4] at g1
      have hd3 : H3 p = some (.dT (nums l i)) := e3 _ _ (e2 _ _ hd1)
      refine ⟨p, _, rfl, DPut.t (k := nkey (pos l (i + 1))) hd3 g1 ?_, ?_⟩
      · unfold nums
        rw [List.length_map, List.length_range]
        exact sz_lt (by omega)
      · have e5 : ((i : Nat) : Int) + 1 = ((i + 1 : Nat) : Int) := by omega
        rw [e5, nums_put hi]
        exact ⟨_, _, rfl, (x.trans ((Ex.new hT).trans (e1.trans (e2.trans e3)))).mut hp, upd_same⟩
  · rintro σ' H' ⟨y4, y5, rfl, x, hd⟩
    exact s_ret (ev_var rfl) fun H1 e1 => q p H1 hp (x.trans e1) (e1 _ _ hd)
theorem ev_dgT {σ : L2.St} {H : Hp} {td tk : TE} {p : Addr} {kvs : List (List Key × V)} {r : Nat × Nat} {v : V} (h : Ev td σ H (.ref p)) (hd : H p = some (.dT kvs)) (hk : EvD tk σ H (pl r)) (hv : valV kvs (nkey r) = some v) : Ev (tDGet td tk) σ H v := fun H1 e Q q =>
  h H1 e _ fun H2 e2 => hk H2 (e.trans e2) _ fun u H3 e3 r3 => by
    obtain ⟨b3, vs3, rfl, g1, g2⟩ := rp_tup.mp r3
    obtain ⟨a1, t1, rfl, a2, g2⟩ := rps_cons.mp g2
    obtain ⟨a3, t3, rfl, a4, g2⟩ := rps_cons.mp g2
    rw [rps_nil.mp g2, rp_int.mp a2, rp_int.mp a4] at g1
    have := DGet.t (k := nkey r) (((e.trans e2).trans e3) _ _ hd) g1
    rw [hv] at this
    exact ⟨p, v, rfl, this, q H3 (e2.trans e3)⟩
theorem eq_numbers {σ : L2.St} {H : Hp} {ta : TE} {E : XK} {l : List Nat} {D' : Ends} {tz : TS} {i : Nat} (h : Ev ta σ H (.str (S l))) (hl : l.length ≤ 1000) (k : ∀ p H1, H p = none → Ex H H1 → H1 p = some (.dT (nums l l.length)) → tz D' (σ.set i (some (.ref p))) H1) :
    tSeq (tAsg (tCall sp__law_numbers [] E (tCons ta tNil)) (gName i)) tz D' σ H := h H (Ex.refl _) _ fun H1 e1 => ⟨l, rfl, hl, fun p H2 hp e2 h2 => k p H2 (fresh_back e1 hp) (e1.trans e2) h2⟩
def sp__law_after : Sp := SpR 2 fun ds d => ∃ s e, ds = [.str s, edD s e] ∧ s.length ≤ 1000 ∧ e.a ≤ s.length ∧ e.b ≤ s.length ∧ e.q.length ≤ 1000 ∧ d = .str (e.on s)
theorem sc__law_after : FnScope ["_law_sheet_here", "_law_one", "_law_known", "_law_start_here", "_law_end"] ["_law_sheet_here", "_law_one"] (defScope (topS 50)) := ⟨rfl, rfl, rfl, by decide +kernel, rfl, by decide +kernel, by decide +kernel⟩
theorem ok__law_after {f : Addr} {fd : FuncData} (F : Fun K "_law_after" "_law_after" (topS 50) f fd) (d__law_numbers : Df P w K mg base "_law_numbers" ["_law_sheet_here"] 1 (sp__law_numbers)) : FnOk P w K mg base CX0 2 f fd ["_law_sheet_here", "_law_one"] sp__law_after := by
  refine F.ok sc__law_after (fun vs H Q E h => by exact SpR.len h) (fun cdv A outer s H vs Q E hr h => ?_)
  obtain ⟨ds, d, hl, rs, ⟨l, e, rfl, hs, ha, hb, hq, rfl⟩, q⟩ := h
  obtain ⟨v, r, rfl, h1, h2⟩ := rps_cons.mp rs
  obtain ⟨v2, r2, rfl, h3, h4⟩ := rps_cons.mp h2
  rw [rps_nil.mp h4, rp_str.mp h1]
  refine ⟨_, (pss_cons (ps_set (i := 2) sc__law_after.nd rfl (.inl rfl) (d__law_numbers.pe (hr.mono (by decide)) (pa_cons (pv 0) pa_nil)))
      (pss_cons (ps_par (i := 3) (j := 4) rfl sc__law_after.nd rfl rfl (by decide) rfl rfl (pa_cons (pe_dget (hu_of hr) (pv 2) (pe_ix (r := rIxT K) ix_tup (pv 1) pe_int (fun _ _ => rfl)) (fun _ _ => rfl)) (pa_cons (pe_dget (hu_of hr) (pv 2) (pe_ix (r := rIxT K) ix_tup (pv 1) pe_int (fun _ _ => rfl)) (fun _ _ => rfl)) pa_nil)) (by rfl))
      (pss_one (ps_ret (pe_op op_add_str (pe_op op_add_str (pe_slice sl_str (pv 0) po_none (po_some (pv 3))) (pe_ix (r := rIxT K) ix_tup (pv 1) pe_int (fun _ _ => rfl))) (pe_slice sl_str (pv 0) (po_some (pv 4)) po_none)))))), ?_⟩
  refine eq_numbers (ev_var rfl) hs fun p H1 hp e1 hd => ?_
  have h3' := h3.ex e1
  refine q_par (ev_dgT (ev_var rfl) hd (ed_ixT (ed_var rfl h3') ev_c rfl) (nums_get ha)) (ev_dgT (ev_var rfl) hd (ed_ixT (ed_var rfl h3') ev_c rfl) (nums_get hb)) fun H2 e2 => ?_
  refine sd_ret (ed_s (ev_op (ev_op (ev_to (ev_var rfl) (ev_var rfl) (by omega)) (EvD.s (ed_ixT (ed_var rfl (h3'.ex e2)) ev_c rfl)) (rv_addS ?_)) (ev_from (ev_var rfl) (ev_var rfl) (by omega)) (rv_addS ?_))) fun v H3 e3 r3 => q v H3 ((e1.trans e2).trans e3) r3
  · rw [List.length_take]; omega
  · rw [List.length_append, List.length_take, List.length_drop]; omega

end
end HW

set_option Elab.async false
set_option linter.all false
set_option maxRecDepth 100000
namespace HW
open PySem PySem.Spec PyProof.Rows L2 Evl SX
section
variable {P : Program} {w : World} {K : PySem.W.Frag} {mg : Str → Option Value} {base : Heap}
def sp__law_edit (K : PySem.W.Frag) : Sp := fun vs H Q _ => ∃ a s ns, vs = [.ref a, .str (S s)] ∧ okT 200 s ∧ StO K ns a H ∧ ∀ (e : Ed) v H', e.can s → Rp H' (edD s e) v → ExB a H H' → StO K ns a H' → Q v H'
theorem sc__law_edit : FnScope ["_law_state", "_law_sheet_here", "_law_some", "_law_put_here"] ["_law_state", "_law_sheet_here"] (defScope (topS 49)) := ⟨rfl, rfl, rfl, by decide +kernel, rfl, by decide +kernel, by decide +kernel⟩
theorem ok__law_edit {f : Addr} {fd : FuncData} (F : Fun K "_law_edit" "_law_edit" (topS 49) f fd) (m_len : mg "len" = none) (m_sorted : mg "sorted" = none) (m_min : mg "min" = none) (d__law_drawn : Df P w K mg base "_law_drawn" ["_law_state", "_law_many"] 1 (spDrawn K)) (d__law_put : Df P w K mg base "_law_put" ["_law_state", "_law_most"] 3 (sp__law_put K)) (d__law_at : Df P w K mg base "_law_at" ["_law_sheet_here", "_law_number"] 1 sp__law_at) : FnOk P w K mg base CX0 4 f fd ["_law_state", "_law_sheet_here"] (sp__law_edit K) := by
  refine F.ok sc__law_edit (fun vs H Q E h => by obtain ⟨a, s, ns, rfl, _⟩ := h; rfl) (fun cdv A outer s H vs Q E hr h => ?_)
  obtain ⟨a, l, ns, rfl, ⟨hl, ho⟩, hs, q⟩ := h
  refine ⟨_, (pss_cons (ps_set (i := 2) sc__law_edit.nd rfl (.inl rfl) (pe_callB cr_sorted (by rfl) m_sorted (by decide +kernel) (pa_cons (pe_lst (pa_cons (d__law_drawn.pe (hr.mono (by decide)) (pa_cons (pv 0) (pa_cons (pe_op op_add (pe_callB call_len_str (by rfl) m_len PySem.boot_len (pa_cons (pv 1) pa_nil)) pe_int) pa_nil))) (pa_cons (d__law_drawn.pe (hr.mono (by decide)) (pa_cons (pv 0) (pa_cons (pe_op op_add (pe_callB call_len_str (by rfl) m_len PySem.boot_len (pa_cons (pv 1) pa_nil)) pe_int) pa_nil))) pa_nil))) pa_nil)))
      (pss_cons (ps_if (pt_cmpR op_gt (d__law_drawn.pe (hr.mono (by decide)) (pa_cons (pv 0) (pa_cons pe_int pa_nil))) pe_int (nomark _))
        (pss_one (ps_asg (pe_callB (call_min2 rfl) (by rfl) m_min (by decide +kernel) (pa_cons (pe_callB call_len_str (by rfl) m_len PySem.boot_len (pa_cons (pv 1) pa_nil)) (pa_cons (pe_op op_add (pe_ix (r := rIxL K) ix_list (pv 2) pe_int (fun _ _ => rfl)) (d__law_drawn.pe (hr.mono (by decide)) (pa_cons (pv 0) (pa_cons pe_int pa_nil)))) pa_nil))) (pg_sub (pv 2) pe_int set_list)))
        pss_nil)
      (pss_cons (ps_set (i := 3) sc__law_edit.nd rfl (.inl rfl) (d__law_put.pe (hr.mono (by decide)) (pa_cons (pv 0) (pa_cons (pe_callB (call_min2 rfl) (by rfl) m_min (by decide +kernel) (pa_cons pe_int (pa_cons (pe_op op_sub (pe_op op_add (pe_op op_sub pe_int (pe_callB call_len_str (by rfl) m_len PySem.boot_len (pa_cons (pv 1) pa_nil))) (pe_ix (r := rIxL K) ix_list (pv 2) pe_int (fun _ _ => rfl))) (pe_ix (r := rIxL K) ix_list (pv 2) pe_int (fun _ _ => rfl))) pa_nil))) pa_nil))))
      (pss_one (ps_ret (pe_tup (pa_cons (d__law_at.pe (hr.mono (by decide)) (pa_cons (pv 1) (pa_cons (pe_ix (r := rIxL K) ix_list (pv 2) pe_int (fun _ _ => rfl)) pa_nil))) (pa_cons (d__law_at.pe (hr.mono (by decide)) (pa_cons (pv 1) (pa_cons (pe_ix (r := rIxL K) ix_list (pv 2) pe_int (fun _ _ => rfl)) pa_nil))) (pa_cons (pv 3) pa_nil))))))))), ?_⟩
  have hlen : ∀ {H1 σ}, σ[1]? = some (some (.str (S l))) → Ev (tOp (rI0 fun i j => .int (i + j)) (tCB (fun xs H Q => ∃ z, xs = [.str z] ∧ z.length ≤ sizeLine ∧ Q (.int z.length) H) (tCons (tVar 1) tNil)) (tC (.int 1))) σ H1 (.int ((l.length : Int) + 1)) := fun h => ev_op (ev_lenS (ev_var h) (by omega)) ev_c rv_I0
  refine qs_sort2 (m := (l.length : Int) + 1) (es_drawn rfl (es_of (fun _ _ => hlen rfl) rfl) (by omega) (by omega)) (es_drawn rfl (es_of (fun _ _ => hlen rfl) rfl) (by omega) (by omega)) hs fun u v p H2 u0 huv hvl hpn hpa x2 s2 hp2 => ?_
  have mutp : ∀ {H3 : Hp} {o : HO}, ExB a H H3 → ExB a H (upd H3 p o) := fun x b o n hb => by
    rw [upd_ne (ne_of_none hb hpn)]
    exact x b o n hb
  have cont : ∀ (u v : Int) H3, 0 ≤ u → u ≤ v → v ≤ (l.length : Int) → H3 p = some (.lst [.int u, .int v]) → ExB a H H3 → StO K ns a H3 →
      tSeq (tAsg (tCall (sp__law_put K) [] E0 (tCons (tVar 0) (tCons (tCB (fun xs H Q => ∃ i j, xs = [.int i, .int j] ∧ Q (.int (if j < i then j else i)) H) (tCons (tC (.int 40)) (tCons (tOp (rI0 fun i j => .int (i - j)) (tOp (rI0 fun i j => .int (i + j)) (tOp (rI0 fun i j => .int (i - j)) (tC (.int 200)) (tCB (fun xs H Q => ∃ z, xs = [.str z] ∧ z.length ≤ sizeLine ∧ Q (.int z.length) H) (tCons (tVar 1) tNil))) (tOp (rIxL K) (tVar 2) (tC (.int 1)))) (tOp (rIxL K) (tVar 2) (tC (.int 0)))) tNil))) tNil))) (gName 3))
        (tRet (tTup (tCons (tCall sp__law_at [] E0 (tCons (tVar 1) (tCons (tOp (rIxL K) (tVar 2) (tC (.int 0))) tNil))) (tCons (tCall sp__law_at [] E0 (tCons (tVar 1) (tCons (tOp (rIxL K) (tVar 2) (tC (.int 1))) tNil))) (tCons (tVar 3) tNil)))))
        { nx := fun _ H' => Q .non H', rt := Q } [some (.ref a), some (.str (S l)), some (.ref p), none] H3 := by
    intro u v H3 u0 huv hvl hp3 x3 s3
    have ix : ∀ {H' : Hp} {σ : L2.St} {j : Nat} {z : V}, H' p = some (.lst [.int u, .int v]) → σ[2]? = some (some (.ref p)) → [V.int u, V.int v][j]? = some z → Ev (tOp (rIxL K) (tVar 2) (tC (.int (j : Int)))) σ H' z := fun h1 h2 h3 => ev_op (ev_var h2) ev_c (rv_ixL (sq_of h1) (atI_nat h3))
    refine qs_asg (P := fun z => ∃ us, us = [V.int ((min 40 (200 - l.length + (v - u).toNat) : Nat) : Int)] ∧ ∃ m : Nat, us = [V.int (m : Int)] ∧ okP m z) (es_call (PS := fun us => us = [V.int ((min 40 (200 - l.length + (v - u).toNat) : Nat) : Int)]) rfl ?_ ?_) s3 fun z H4 x4 s4 pz => ?_
    · intro H4 x4 s4 Q' q'
      have hp4 := x4 p _ hpa hp3
      refine ev_is (ev_min2 ev_c (ev_op (ev_op (ev_op ev_c (ev_lenS (ev_var rfl) (by omega)) rv_I0) (ix (j := 1) hp4 rfl rfl) rv_I0) (ix (j := 0) hp4 rfl rfl) rv_I0)) ?_ H4 (Ex.refl _) _ fun H5 e5 => q' _ H5 (.of e5) (s4.mono e5) rfl
      show V.int (min 40 (200 - (l.length : Int) + v - u)) = _
      congr 1
      omega
    · rintro us rfl
      exact ⟨rfl, .str (S []), _, rfl, [], rfl, Nat.zero_le _, rfl⟩
    · obtain ⟨us, rfl, m, hm, q', rfl, hq, hqo⟩ := pz
      have hm : (min 40 (200 - l.length + (v - u).toNat) : Nat) = m := by
        injection hm with hm _
        injection hm with hm
        omega
      have hp4 := x4 p _ hpa hp3
      have eu : ((u.toNat : Nat) : Int) = u := Int.toNat_of_nonneg u0
      have ev : ((v.toNat : Nat) : Int) = v := Int.toNat_of_nonneg (by omega)
      refine sd_ret (d := edD l ⟨u.toNat, v.toNat, q'⟩) (ed_tup (eda_cons (ed_call (eda_cons (ed_s (ev_var rfl)) (eda_cons (ed_i (ix (j := 0) hp4 rfl rfl)) eda_nil)) ⟨l, u.toNat, by rw [eu], by omega, rfl⟩) (eda_cons (ed_call (eda_cons (ed_s (ev_var rfl)) (eda_cons (ed_i (ix (j := 1) hp4 rfl rfl)) eda_nil)) ⟨l, v.toNat, by rw [ev], by omega, rfl⟩) (eda_cons (ed_s (ev_var rfl)) eda_nil)))) fun z H5 e5 r5 => q ⟨u.toNat, v.toNat, q'⟩ z H5 ⟨?_, ?_, ⟨?_, hqo⟩, ?_⟩ r5 ((x3.trans x4).trans (.of e5)) (s4.mono e5)
      · show u.toNat ≤ v.toNat; omega
      · show v.toNat ≤ l.length; omega
      · show q'.length ≤ 40; omega
      · show (put l u.toNat v.toNat q').length ≤ 200
        rw [put_len (by omega) (by omega)]
        omega
  have ix0 : ∀ {H' : Hp} {σ : L2.St}, H' p = some (.lst [.int u, .int v]) → σ[2]? = some (some (.ref p)) → Ev (tOp (rIxL K) (tVar 2) (tC (.int 0))) σ H' (.int u) := fun h1 h2 => ev_op (ev_var h2) ev_c (rv_ixL (sq_of h1) (atI_nat (j := 0) rfl))
  refine qs_if (es_op (es_drawn rfl (es_of (fun _ _ => ev_c) rfl) (by decide) (by decide)) (es_of (P := fun v => v = .int 0) (fun _ _ => ev_c) rfl) ?_) s2 (fun H3 x3 s3 => ?_) fun H3 x3 s3 => cont u v H3 u0 huv (by omega) (x3 p _ hpa hp2) (x2.trans x3) s3
  · rintro x y ⟨k, rfl, _, _⟩ rfl
    exact ⟨_, fun H => rv_I0 (g := fun i j => V.bl (decide (j < i))), _, rfl⟩
  · have hp3 := x3 p _ hpa hp2
    refine ss_setL (j := 1) hp3 hpa (P := fun z => ∃ k, z = .int k ∧ u ≤ k ∧ k ≤ (l.length : Int)) (es_cb2 (P1 := fun v => v = .int (l.length : Int)) (P2 := fun v => ∃ k, v = .int (u + k) ∧ 0 ≤ k ∧ k < 4) (es_of (fun _ _ => ev_lenS (ev_var rfl) (by omega)) rfl) (es_op (P1 := fun v => v = .int u) (es_of (fun H4 x4 => ix0 (x4 p _ hpa hp3) rfl) rfl) (es_drawn rfl (es_of (fun _ _ => ev_c) rfl) (by decide) (by decide)) ?_) ?_) (fun _ _ => ev_var rfl) (fun _ _ => ev_c) (by simp) s3 fun z H4 x4 s4 pz hp4 => ?_
    · rintro x y rfl ⟨k, rfl, k0, k1⟩
      exact ⟨_, fun H => rv_I0 (g := fun i j => V.int (i + j)), k, rfl, k0, k1⟩
    · rintro x y rfl ⟨k, rfl, k0, k1⟩
      refine ⟨.int (if u + k < (l.length : Int) then u + k else (l.length : Int)), ⟨_, rfl, ?_, ?_⟩, fun H Q q => ⟨_, _, rfl, q⟩⟩
      · split <;> omega
      · split <;> omega
    · obtain ⟨k, rfl, k0, k1⟩ := pz
      exact cont u k _ u0 k0 k1 upd_same (mutp ((x2.trans x3).trans x4)) (s4.upd hp4 hpa)

end
end HW

set_option Elab.async false
set_option linter.all false
set_option maxRecDepth 100000
namespace HW
open PySem PySem.Spec PyProof.Rows L2 Evl SX
section
variable {P : Program} {w : World} {K : PySem.W.Frag} {mg : Str → Option Value} {base : Heap}
theorem st_snoc : ∀ (s : List Nat) (es : List Ed) (e : Ed), st s (es ++ [e]) = st s es ++ [(fin s es, e)]
  | _, [], _ => rfl
  | s, e :: es, e' => by
    rw [List.cons_append, st, st, fin, st_snoc]
    rfl
theorem fin_snoc : ∀ (s : List Nat) (es : List Ed) (e : Ed), fin s (es ++ [e]) = e.on (fin s es)
  | _, [], _ => rfl
  | s, e :: es, e' => by
    rw [List.cons_append, fin, fin, fin_snoc]
theorem ch_snoc : ∀ {s : List Nat} {es : List Ed} {e : Ed}, Ch s es → e.can (fin s es) → Ch s (es ++ [e])
  | _, [], _, _, h => ⟨h, trivial⟩
  | s, e :: es, e', c, h => ⟨c.1, ch_snoc c.2 h⟩
theorem fin_all {s : List Nat} {es : List Ed} (h : okT 200 s) (c : Ch s es) : okT 200 (fin s es) := by
  have := fin_ok es.length h c
  rw [List.take_of_length_le (Nat.le_refl _)] at this
  exact this
def editsD (s : List Nat) (es : List Ed) : D := .lst ((st s es).map edx)
theorem nls_edx (xs : List (List Nat × Ed)) : nls (xs.map edx) = true := nls_all fun d hd => by
  obtain ⟨y, _, rfl⟩ := List.mem_map.mp hd
  rfl
def sp__law_edits (K : PySem.W.Frag) : Sp := fun vs H Q _ => ∃ a s ns, ∃ m : Int, vs = [.ref a, .str (S s), .int m] ∧ (0 ≤ m ∧ m ≤ 8) ∧ okT 200 s ∧ StO K ns a H ∧ ∀ (es : List Ed) v H', Ch s es → es.length ≤ 8 → Rp H' (.tup [editsD s es, .str (fin s es)]) v → ExB a H H' → StO K ns a H' → Q v H'
theorem sc__law_edits : FnScope ["_law_state", "_law_sheet_here", "_law_most", "_law_found", "_law_k"] ["_law_state", "_law_sheet_here", "_law_most"] (defScope (topS 51)) := ⟨rfl, rfl, rfl, by decide +kernel, rfl, by decide +kernel, by decide +kernel⟩
theorem ok__law_edits {f : Addr} {fd : FuncData} (F : Fun K "_law_edits" "_law_edits" (topS 51) f fd) (m_range : mg "range" = none) (d__law_drawn : Df P w K mg base "_law_drawn" ["_law_state", "_law_many"] 1 (spDrawn K)) (d__law_edit : Df P w K mg base "_law_edit" ["_law_state", "_law_sheet_here"] 4 (sp__law_edit K)) (d__law_after : Df P w K mg base "_law_after" ["_law_sheet_here", "_law_one"] 2 sp__law_after) : FnOk P w K mg base CX0 5 f fd ["_law_state", "_law_sheet_here", "_law_most"] (sp__law_edits K) := by
  refine F.ok sc__law_edits (fun vs H Q E h => by obtain ⟨a, s, ns, m, rfl, _⟩ := h; rfl) (fun cdv A outer s H vs Q E hr h => ?_)
  obtain ⟨a, l, ns, mm, rfl, ⟨hm0, hm8⟩, hl, hs, q⟩ := h
  refine ⟨_, (pss_cons (ps_set (i := 3) sc__law_edits.nd rfl (.inl rfl) (pe_lst pa_nil))
      (pss_cons (ps_for PassesOwn.never rfl (pi_range1 (by rfl) m_range (pa_cons (d__law_drawn.pe (hr.mono (by decide)) (pa_cons (pv 0) (pa_cons (pe_op op_add (pv 2) pe_int) pa_nil))) pa_nil)) (pg_name (i := 4) sc__law_edits.nd rfl (.inl rfl))
        (pss_cons (ps_expr (pe_bm PySem.F.plainAttrs_list PySem.F.slot_list_append PySem.F.type_list_append mt_append (pv 3) (pa_cons (d__law_edit.pe (hr.mono (by decide)) (pa_cons (pv 0) (pa_cons (pv 1) pa_nil))) pa_nil)))
      (pss_one (ps_set (i := 1) sc__law_edits.nd rfl (.inl rfl) (d__law_after.pe (hr.mono (by decide)) (pa_cons (pv 1) (pa_cons (pe_ix (r := rIxL K) ix_list (pv 3) (pe_un un_neg pe_int) (fun _ _ => rfl)) pa_nil)))))))
      (pss_one (ps_ret (pe_tup (pa_cons (pv 3) (pa_cons (pv 1) pa_nil))))))), ?_⟩
  refine q_asgL (el_lst ea_nil (by simp)) fun fa H1 hfn e1 hf1 => ?_
  have hfa : fa ≠ a := fun z => by
    obtain ⟨_, _, _, _, h1, _⟩ := hs.ex
    rw [z, h1] at hfn
    cases hfn
  have s1 := hs.mono e1
  refine qs_forR (B := 8) (by decide) ((es_drawn (m := mm + 1) rfl (es_of (fun _ _ => ev_op (ev_var rfl) ev_c rv_I0) rfl) (by omega) (by omega)).imp fun v ⟨k, hv, k0, k1⟩ => ⟨k, hv, k0, by omega⟩) s1
    (fun i σ' H' => ∃ es ws y, es.length = i ∧ Ch l es ∧ σ' = [some (.ref a), some (.str (S (fin l es))), some (.int mm), some (.ref fa), y] ∧ ExB a H H' ∧ StO K ns a H' ∧ H' fa = some (.lst ws) ∧ Rps H' ((st l es).map edx) ws)
    (fun H2 x2 s2 => ⟨[], [], none, rfl, trivial, rfl, (ExB.of e1).trans x2, s2, x2 _ _ hfa hf1, rps_nil.mpr rfl⟩) ?_ ?_
  · rintro i σ' H' hi ⟨es, ws, y, hes, hc, rfl, x, s, hf, hr⟩
    have hok := fin_all hl hc
    have hok1 := hok.1
    refine q_appG (l := fa) (xs := ws) hf rfl ⟨_, rfl, _, rfl, a, fin l es, ns, rfl, hok, s, fun e v H2 hcan hv x2 s2 => ?_⟩
    have hf2 := x2 _ _ hfa hf
    have hwl : ws.length < 100000 := by
      rw [rps_len hr, List.length_map, st_len]
      omega
    refine ⟨fa, ws, v, rfl, rfl, hf2, sz_lt hwl, ?_⟩
    have tx : Tx H2 (upd H2 fa (.lst (ws ++ [v]))) := Tx.lst hf2
    have hrs : Rps (upd H2 fa (.lst (ws ++ [v]))) ((st l (es ++ [e])).map edx) (ws ++ [v]) := by
      rw [st_snoc, List.map_append]
      exact rps_app (Rps.tx tx (nls_edx _) (Rps.tx (x2.tx s) (nls_edx _) hr)) (rps_cons.mpr ⟨v, [], rfl, Rp.tx tx rfl hv, rps_nil.mpr rfl⟩)
    refine sd_asg (d := .str (fin l (es ++ [e]))) ?_ fun v2 H3 e3 r3 => ⟨es ++ [e], ws ++ [v], some (.int (i : Int)), ?_, ch_snoc hc hcan, ?_, ?_, (s2.upd hf2 hfa).mono e3, e3 _ _ upd_same, hrs.ex e3⟩
    · rw [fin_snoc]
      have a1 := hcan.1
      have a2 := hcan.2.1
      have a3 := hcan.2.2.1.1
      refine ed_call (eda_cons (ed_s (ev_var rfl)) (eda_cons (d := edD (fin l es) e) (ed_ixL (ds := (st l (es ++ [e])).map edx) (ed_var rfl (rp_lst.mpr ⟨fa, _, rfl, upd_same, hrs⟩)) (ev_un ev_c ru_neg) ?_) eda_nil)) ⟨fin l es, e, rfl, by omega, by omega, a2, by omega, rfl⟩
      rw [atI_m1 (by rw [List.length_map, st_len, List.length_append]; simp), List.getElem?_map, List.length_map, st_snoc, List.length_append, List.length_singleton, Nat.add_sub_cancel, List.getElem?_append_right (Nat.le_refl _), Nat.sub_self]
      rfl
    · rw [List.length_append, hes]
      rfl
    · rw [rp_str.mp r3]
      rfl
    · refine ExB.trans (fun b o n hb => ?_) (.of e3)
      rw [upd_ne (ne_of_none hb hfn)]
      exact x2 b o n (x b o n hb)
  · rintro n σ' H' hn ⟨es, ws, y, hes, hc, rfl, x, s, hf, hr⟩
    exact sd_ret (ed_tup (eda_cons (d := editsD l es) (ed_var rfl (rp_lst.mpr ⟨fa, ws, rfl, hf, hr⟩)) (eda_cons (ed_s (ev_var rfl)) eda_nil))) fun v H2 e2 r2 => q es v H2 hc (by omega) r2 (x.trans (.of e2)) (s.mono e2)
/-! ### _law_same -/
theorem ed_nilL {σ : L2.St} {H : Hp} : EvD (tLst tNil) σ H (.lst []) := ed_lst eda_nil
theorem ev_eqNil {σ : L2.St} {H : Hp} {ta tb : TE} (h1 : EvD ta σ H (.lst [])) (h2 : EvD tb σ H (.lst [])) : Ev (tOp (rEqD K) ta tb) σ H (.bl true) := fun H1 e Q q =>
  h1 H1 e _ fun v H2 e2 r2 => h2 H2 (e.trans e2) _ fun w H3 e3 r3 => ⟨_, _, (r2.ex e3).pd, r3.pd, by rw [pd, pds]; rfl, by rw [pd, pds]; rfl, by
    have : PyData.eqv (pd (.lst [])) (pd (.lst [])) = true := by rw [pd, pds]; rfl
    rw [this]
    exact q H3 (e2.trans e3)⟩
def scalarD : D → Prop
  | .tup _ => False
  | .lst _ => False
  | _ => True
def okStep (ok : D → Prop) (d : D) : Prop := scalarD d ∨ ∃ ds, (d = .tup ds ∨ d = .lst ds) ∧ ds.length ≤ 40000 ∧ ∀ x ∈ ds, ok x
def SameSp (ok : D → Prop) : Sp := SpR 2 fun ds d => ∃ x, ds = [x, x] ∧ ok x ∧ d = .bl true
def okL : Nat → D → Prop
  | 0 => fun _ => False
  | n + 1 => okStep (okL n)
theorem sc__law_same : FnScope ["_law_found", "_law_due", "_law_k"] ["_law_found", "_law_due"] (defScope (topS 41)) := ⟨rfl, rfl, rfl, by decide +kernel, rfl, by decide +kernel, by decide +kernel⟩
theorem ok__law_same {f : Addr} {fd : FuncData} {k : Nat} {ok : D → Prop} (F : Fun K "_law_same" "_law_same" (topS 41) f fd) (m_isinstance : mg "isinstance" = none) (m_tuple : mg "tuple" = none) (m_list : mg "list" = none) (m_str : mg "str" = none) (m_bool : mg "bool" = none) (m_int : mg "int" = none) (m_len : mg "len" = none) (m_range : mg "range" = none)
    (d__law_same : Df P w K mg base "_law_same" ["_law_found", "_law_due"] k (SameSp ok)) : FnOk P w K mg base CX0 (k + 1) f fd ["_law_found", "_law_due"] (SameSp (okStep ok)) := by
  refine F.ok sc__law_same (fun vs H Q E h => by exact SpR.len h) (fun cdv A outer s H vs Q E hr h => ?_)
  obtain ⟨ds, d, hl, rs, ⟨x, rfl, hx, rfl⟩, q⟩ := h
  obtain ⟨v, r, rfl, h1, h2⟩ := rps_cons.mp rs
  obtain ⟨v2, r2, rfl, h3, h4⟩ := rps_cons.mp h2
  obtain rfl := rps_nil.mp h4
  refine ⟨_, (pss_cons (ps_if (pt_val (pe_callB call_isiT (by rfl) m_isinstance (by decide +kernel) (pa_cons (pv 1) (pa_cons (pe_tup (pa_cons (pe_bltn (v := .ty "tuple") (by rfl) m_tuple (by decide +kernel) rfl) (pa_cons (pe_bltn (v := .ty "list") (by rfl) m_list (by decide +kernel) rfl) pa_nil))) pa_nil))))
        (pss_cons (ps_if (PW.pt (pw_or (pt_not (pt_val (pe_callB call_isiT (by rfl) m_isinstance (by decide +kernel) (pa_cons (pv 0) (pa_cons (pe_tup (pa_cons (pe_bltn (v := .ty "tuple") (by rfl) m_tuple (by decide +kernel) rfl) (pa_cons (pe_bltn (v := .ty "list") (by rfl) m_list (by decide +kernel) rfl) pa_nil))) pa_nil))))) (pw_or1 (pt_cmpR op_ne (pe_callB call_isi (by rfl) m_isinstance (by decide +kernel) (pa_cons (pv 0) (pa_cons (pe_bltn (v := .ty "list") (by rfl) m_list (by decide +kernel) rfl) pa_nil))) (pe_callB call_isi (by rfl) m_isinstance (by decide +kernel) (pa_cons (pv 1) (pa_cons (pe_bltn (v := .ty "list") (by rfl) m_list (by decide +kernel) rfl) pa_nil))) (nomark _)))))
        (pss_one (ps_ret pe_bl))
        pss_nil)
      (pss_cons (ps_if (pt_cmpR op_ne (pe_callB call_len_seq (by rfl) m_len PySem.boot_len (pa_cons (pv 0) pa_nil)) (pe_callB call_len_seq (by rfl) m_len PySem.boot_len (pa_cons (pv 1) pa_nil)) (nomark _))
        (pss_one (ps_ret pe_bl))
        pss_nil)
      (pss_one (ps_ret (pe_cmpR (op_eqD hr.units) (pe_lc (own := [("_law_k", 2)]) (g := gName 2) rfl sc__law_same.nd (pi_range1 (by rfl) m_range (pa_cons (pe_callB call_len_seq (by rfl) m_len PySem.boot_len (pa_cons (pv 1) pa_nil)) pa_nil)) (blkOk_by (own := [("_law_k", 2)]) (N := ["_law_found", "_law_due", "_law_k"]) (sc := defScope (topS 41)) (by decide +kernel)) (fun _ _ _ _ _ => (pg_name (i := 2) sc__law_same.nd rfl (.inl rfl))) (fun _ _ _ _ _ => pts_one (pt_not (pt_val (d__law_same.pe hr (pa_cons (pe_ix (r := rIx K) ix_seq (pv 0) (pv 2) (fun _ _ => rfl)) (pa_cons (pe_ix (r := rIx K) ix_seq (pv 1) (pv 2) (fun _ _ => rfl)) pa_nil)))))) (fun _ _ _ _ _ => (pv 2))) (pe_lst pa_nil) (nomark _))))))
        pss_nil)
      (pss_cons (ps_if (pt_cmpR op_isN (pv 1) pe_non (nomark _))
        (pss_one (ps_ret (pe_cmpR op_isN (pv 0) pe_non (nomark _))))
        pss_nil)
      (pss_cons (ps_if (pt_val (pe_callB call_isi (by rfl) m_isinstance (by decide +kernel) (pa_cons (pv 1) (pa_cons (pe_bltn (v := .ty "str") (by rfl) m_str (by decide +kernel) rfl) pa_nil))))
        (pss_one (ps_ret (pe_and (pe_callB call_isi (by rfl) m_isinstance (by decide +kernel) (pa_cons (pv 0) (pa_cons (pe_bltn (v := .ty "str") (by rfl) m_str (by decide +kernel) rfl) pa_nil))) (pe_one (pe_cmpR op_eq (pv 0) (pv 1) (nomark _))))))
        pss_nil)
      (pss_cons (ps_if (PW.pt (pw_or (pt_val (pe_callB call_isi (by rfl) m_isinstance (by decide +kernel) (pa_cons (pv 1) (pa_cons (pe_bltn (v := .ty "bool") (by rfl) m_bool (by decide +kernel) rfl) pa_nil)))) (pw_or1 (pt_val (pe_callB call_isi (by rfl) m_isinstance (by decide +kernel) (pa_cons (pv 0) (pa_cons (pe_bltn (v := .ty "bool") (by rfl) m_bool (by decide +kernel) rfl) pa_nil)))))))
        (pss_one (ps_ret (pe_and (pe_callB call_isi (by rfl) m_isinstance (by decide +kernel) (pa_cons (pv 1) (pa_cons (pe_bltn (v := .ty "bool") (by rfl) m_bool (by decide +kernel) rfl) pa_nil))) (pe_and (pe_callB call_isi (by rfl) m_isinstance (by decide +kernel) (pa_cons (pv 0) (pa_cons (pe_bltn (v := .ty "bool") (by rfl) m_bool (by decide +kernel) rfl) pa_nil))) (pe_one (pe_cmpR op_eq (pv 0) (pv 1) (nomark _)))))))
        pss_nil)
      (pss_one (ps_ret (pe_and (pe_callB call_isi (by rfl) m_isinstance (by decide +kernel) (pa_cons (pv 0) (pa_cons (pe_bltn (v := .ty "int") (by rfl) m_int (by decide +kernel) rfl) pa_nil))) (pe_one (pe_cmpR op_eq (pv 0) (pv 1) (nomark _)))))))))), ?_⟩
  have hT : ∀ {H1 b c i}, Ex H H1 → (i = 0 ∨ i = 1) → kitB (tyD x) "tuple" = some b → kitB (tyD x) "list" = some c → EvT (tB (tCB (rIsiT K) (tCons (tVar i) (tCons (tTup (tCons (tC (.ty "tuple")) (tCons (tC (.ty "list")) tNil))) tNil)))) [some v, some v2, none] H1 (b || c) := fun e hi hb hc => et_B (by
    rcases hi with rfl | rfl
    · exact ed_isiT (ed_var rfl (h1.ex e)) (kit2 hb hc)
    · exact ed_isiT (ed_var rfl (h3.ex e)) (kit2 hb hc))
  have hI : ∀ {H1 b i n}, Ex H H1 → (i = 0 ∨ i = 1) → kitB (tyD x) n = some b → Ev (tCB (rIsi K) (tCons (tVar i) (tCons (tC (.ty n)) tNil))) [some v, some v2, none] H1 (.bl b) := fun e hi hb => by
    rcases hi with rfl | rfl
    · exact ed_isi (ed_var rfl (h1.ex e)) hb
    · exact ed_isi (ed_var rfl (h3.ex e)) hb
  rcases hx with hx | ⟨ds, hds, hlen, hok⟩
  · cases x with
    | tup _ => exact hx.elim
    | lst _ => exact hx.elim
    | non =>
      obtain rfl := rp_non.mp h1
      obtain rfl := rp_non.mp h3
      refine q_when (et_is (hT (Ex.refl _) (.inr rfl) k_nt k_nl) rfl) (fun z => by cases z) fun _ H1 e1 => ?_
      exact q_when (et_is (et_test (ev_op (ev_var rfl) ev_c rv_isN)) rfl) (fun _ H2 e2 => sd_ret (ed_b (ev_is (ev_op (ev_var rfl) ev_c rv_isN) rfl)) fun v H3 e3 r3 => q v H3 ((e1.trans e2).trans e3) r3) fun z => by cases z
    | str l =>
      obtain rfl := rp_str.mp h1
      obtain rfl := rp_str.mp h3
      refine q_when (et_is (hT (Ex.refl _) (.inr rfl) k_st k_sl) rfl) (fun z => by cases z) fun _ H1 e1 => ?_
      refine q_when (et_is (et_test (ev_op (ev_var rfl) ev_c rv_isN)) rfl) (fun z => by cases z) fun _ H2 e2 => ?_
      exact q_when (et_is (et_B (hI (e1.trans e2) (.inr rfl) k_ss)) rfl) (fun _ H3 e3 => sd_ret (ed_b (ev_is (ev_andV (hI ((e1.trans e2).trans e3) (.inl rfl) k_ss) fun _ => ev_op (ev_var rfl) (ev_var rfl) rv_eqS) (by rw [decide_eq_true rfl]; rfl))) fun v H4 e4 r4 => q v H4 (((e1.trans e2).trans e3).trans e4) r4) fun z => by cases z
    | bl b =>
      obtain rfl := rp_bl.mp h1
      obtain rfl := rp_bl.mp h3
      refine q_when (et_is (hT (Ex.refl _) (.inr rfl) k_bt k_bl) rfl) (fun z => by cases z) fun _ H1 e1 => ?_
      refine q_when (et_is (et_test (ev_op (ev_var rfl) ev_c rv_isN)) rfl) (fun z => by cases z) fun _ H2 e2 => ?_
      refine q_when (et_is (et_B (hI (e1.trans e2) (.inr rfl) k_bs)) rfl) (fun z => by cases z) fun _ H3 e3 => ?_
      exact q_when (et_is (et_or (a := true) (b := true) (et_B (hI ((e1.trans e2).trans e3) (.inr rfl) k_bb)) fun z => by cases z) rfl) (fun _ H4 e4 => sd_ret (ed_b (ev_is (ev_andV (hI (((e1.trans e2).trans e3).trans e4) (.inr rfl) k_bb) fun _ => ev_andV (hI (((e1.trans e2).trans e3).trans e4) (.inl rfl) k_bb) fun _ => ev_op (ev_var rfl) (ev_var rfl) (rv_eq rfl)) (by rw [decide_eq_true rfl]; rfl))) fun v H5 e5 r5 => q v H5 ((((e1.trans e2).trans e3).trans e4).trans e5) r5) fun z => by cases z
    | int i =>
      obtain rfl := rp_int.mp h1
      obtain rfl := rp_int.mp h3
      refine q_when (et_is (hT (Ex.refl _) (.inr rfl) k_it k_il) rfl) (fun z => by cases z) fun _ H1 e1 => ?_
      refine q_when (et_is (et_test (ev_op (ev_var rfl) ev_c rv_isN)) rfl) (fun z => by cases z) fun _ H2 e2 => ?_
      refine q_when (et_is (et_B (hI (e1.trans e2) (.inr rfl) k_is)) rfl) (fun z => by cases z) fun _ H3 e3 => ?_
      refine q_when (et_or0 (et_B (hI ((e1.trans e2).trans e3) (.inr rfl) k_ib)) (et_B (hI ((e1.trans e2).trans e3) (.inl rfl) k_ib))) (fun z => by cases z) fun _ H4 e4 => ?_
      exact sd_ret (ed_b (ev_is (ev_andV (hI (((e1.trans e2).trans e3).trans e4) (.inl rfl) k_ii) fun _ => ev_op (ev_var rfl) (ev_var rfl) (rv_eq rfl)) (by rw [decide_eq_true rfl]; rfl))) fun v H5 e5 r5 => q v H5 ((((e1.trans e2).trans e3).trans e4).trans e5) r5
  · have hpick : picked ds.length (fun _ => false) (fun _ => D.non) = [] := by unfold picked; rw [List.filter_eq_nil_iff.mpr (fun _ _ => by simp)]; rfl
    rcases hds with rfl | rfl
    · refine q_if (et_is (hT (Ex.refl _) (.inr rfl) k_tt k_tl) rfl) (fun _ H1 e1 => ?_) fun z => by cases z
      refine q_when (et_or0 (et_no (et_is (hT e1 (.inl rfl) k_tt k_tl) rfl)) (et_is (et_test (ev_op (hI e1 (.inl rfl) k_tl) (hI e1 (.inr rfl) k_tl) rv_neB)) rfl)) (fun z => by cases z) fun _ H2 e2 => ?_
      have e12 := e1.trans e2
      refine q_when (et_is (et_test (ev_op (ed_lenT (ed_var rfl (h1.ex e12))) (ed_lenT (ed_var rfl (h3.ex e12))) rv_neI)) (show (!decide ((ds.length : Int) = (ds.length : Int))) = false by simp)) (fun z => by cases z) fun _ H3 e3 => ?_
      have e13 := e12.trans e3
      have h1' := h1.ex e13
      have h3' := h3.ex e13
      refine sd_ret (ed_b (ev_eqNil ?_ ed_nilL)) fun v H4 e4 r4 => q v H4 (e13.trans e4) r4
      rw [← hpick]
      refine ed_lc (fun _ => false) _ (ei_range (ed_lenT (ed_var rfl h3')) ⟨by omega, by omega⟩) (by omega) (fun _ => rfl) (fun _ => rfl) (fun i y H4 hi e4 ry => ?_) fun _ _ _ _ _ _ z => by cases z
      have hi : i < ds.length := by omega
      obtain rfl := rp_int.mp ry
      exact et_no (et_B (EvD.b (ed_call (eda_cons (ed_ixAT (ed_var rfl (h1'.ex e4)) (ev_var rfl) (atI_nat (List.getElem?_eq_getElem hi))) (eda_cons (ed_ixAT (ed_var rfl (h3'.ex e4)) (ev_var rfl) (atI_nat (List.getElem?_eq_getElem hi))) eda_nil)) ⟨ds[i], rfl, hok _ (List.getElem_mem hi), rfl⟩)))
    · refine q_if (et_is (hT (Ex.refl _) (.inr rfl) k_lt k_ll) rfl) (fun _ H1 e1 => ?_) fun z => by cases z
      refine q_when (et_or0 (et_no (et_is (hT e1 (.inl rfl) k_lt k_ll) rfl)) (et_is (et_test (ev_op (hI e1 (.inl rfl) k_ll) (hI e1 (.inr rfl) k_ll) rv_neB)) rfl)) (fun z => by cases z) fun _ H2 e2 => ?_
      have e12 := e1.trans e2
      refine q_when (et_is (et_test (ev_op (ed_lenL (ed_var rfl (h1.ex e12))) (ed_lenL (ed_var rfl (h3.ex e12))) rv_neI)) (show (!decide ((ds.length : Int) = (ds.length : Int))) = false by simp)) (fun z => by cases z) fun _ H3 e3 => ?_
      have e13 := e12.trans e3
      have h1' := h1.ex e13
      have h3' := h3.ex e13
      refine sd_ret (ed_b (ev_eqNil ?_ ed_nilL)) fun v H4 e4 r4 => q v H4 (e13.trans e4) r4
      rw [← hpick]
      refine ed_lc (fun _ => false) _ (ei_range (ed_lenL (ed_var rfl h3')) ⟨by omega, by omega⟩) (by omega) (fun _ => rfl) (fun _ => rfl) (fun i y H4 hi e4 ry => ?_) fun _ _ _ _ _ _ z => by cases z
      have hi : i < ds.length := by omega
      obtain rfl := rp_int.mp ry
      exact et_no (et_B (EvD.b (ed_call (eda_cons (ed_ixAL (ed_var rfl (h1'.ex e4)) (ev_var rfl) (atI_nat (List.getElem?_eq_getElem hi))) (eda_cons (ed_ixAL (ed_var rfl (h3'.ex e4)) (ev_var rfl) (atI_nat (List.getElem?_eq_getElem hi))) eda_nil)) ⟨ds[i], rfl, hok _ (List.getElem_mem hi), rfl⟩)))

end
end HW

set_option Elab.async false
set_option linter.all false
set_option maxRecDepth 100000
namespace HW
open PySem PySem.Spec PyProof.Rows L2 Evl SX
section
variable {P : Program} {w : World} {K : PySem.W.Frag} {mg : Str → Option Value} {base : Heap}
/-! ### data that may be compared -/
theorem sgn_lt {c : Nat} (h : sgn c = true) : c < 127 := by
  unfold sgn at h
  simp only [Bool.or_eq_true, Bool.and_eq_true, decide_eq_true_eq] at h
  omega
theorem strOk_of {l : List Nat} (h : l.all sgn = true) : PySem.PyData.strOk (S l) = true := by
  unfold PySem.PyData.strOk
  rw [← Array.all_toList]
  exact List.all_eq_true.mpr fun c hc => decide_eq_true (by have := sgn_lt (List.all_eq_true.mp h c hc); omega)
/-- of depth at most n, its texts of signs -/
structure Sh (n : Nat) (d : D) : Prop where
  lay : (pd d).canLay0 = true
  dep : (pd d).depth ≤ n
theorem Sh.shaped {n : Nat} {d : D} (h : Sh n d) (hn : n ≤ 64) : SeqAt.shaped (pd d) = true := by
  unfold SeqAt.shaped
  rw [h.lay, decide_eq_true (Nat.le_trans h.dep hn)]
  rfl
theorem sh_int {i : Int} : Sh 0 (.int i) := ⟨by rw [pd]; rfl, by rw [pd]; exact Nat.le_refl _⟩
theorem sh_str {l : List Nat} (h : l.all sgn = true) : Sh 0 (.str l) := ⟨by rw [pd]; exact strOk_of h, by rw [pd]; exact Nat.le_refl _⟩
theorem Sh.mono {n m : Nat} {d : D} (h : Sh n d) (hm : n ≤ m) : Sh m d := ⟨h.lay, Nat.le_trans h.dep hm⟩
theorem sh_all {n : Nat} : ∀ {ds : List D}, (∀ d ∈ ds, Sh n d) → PyData.canLayAll0 (pds ds) = true ∧ PyData.depthAll (pds ds) ≤ n
  | [], _ => ⟨by rw [pds]; rfl, by rw [pds]; exact Nat.zero_le _⟩
  | d :: ds, h => by
    have h1 := h d List.mem_cons_self
    have h2 := sh_all (ds := ds) fun x hx => h x (List.mem_cons_of_mem _ hx)
    rw [pds]
    exact ⟨by rw [PyData.canLayAll0, h1.lay, h2.1]; rfl, by rw [PyData.depthAll]; exact Nat.max_le.mpr ⟨h1.dep, h2.2⟩⟩
theorem sh_tup {n : Nat} {ds : List D} (h : ∀ d ∈ ds, Sh n d) : Sh (n + 1) (.tup ds) := by
  have := sh_all h
  exact ⟨by rw [pd, PyData.canLay0]; exact this.1, by rw [pd, PyData.depth]; exact Nat.succ_le_succ this.2⟩
theorem sh_lst {n : Nat} {ds : List D} (h : ∀ d ∈ ds, Sh n d) : Sh (n + 1) (.lst ds) := by
  have := sh_all h
  exact ⟨by rw [pd, PyData.canLay0]; exact this.1, by rw [pd, PyData.depth]; exact Nat.succ_le_succ this.2⟩
theorem sh_pl (p : Nat × Nat) : Sh 1 (pl p) := sh_tup fun d hd => by
  rcases List.mem_cons.mp hd with rfl | hd
  · exact sh_int
  · rw [List.mem_singleton.mp hd]; exact sh_int
theorem sh_edD {s : List Nat} {e : Ed} (h : e.q.all sgn = true) : Sh 2 (edD s e) := sh_tup fun d hd => by
  rcases List.mem_cons.mp hd with rfl | hd
  · exact sh_pl _
  rcases List.mem_cons.mp hd with rfl | hd
  · exact sh_pl _
  · rw [List.mem_singleton.mp hd]; exact (sh_str h).mono (by decide)
theorem st_mem : ∀ {s : List Nat} {es : List Ed} {x : List Nat × Ed}, Ch s es → x ∈ st s es → x.2.can x.1
  | _, [], _, _, h => by rw [st] at h; cases h
  | s, e :: es, x, c, h => by
    rw [st] at h
    rcases List.mem_cons.mp h with rfl | h
    · exact c.1
    · exact st_mem c.2 h
theorem sh_edits {s : List Nat} {es : List Ed} (c : Ch s es) : Sh 3 (editsD s es) := sh_lst fun d hd => by
  obtain ⟨x, hx, rfl⟩ := List.mem_map.mp hd
  exact sh_edD (st_mem c hx).2.2.1.2
section
variable {σ : L2.St} {H : Hp} {ta tb : TE} {d : D} {n : Nat}
theorem ev_neD (h1 : EvD ta σ H d) (h2 : EvD tb σ H d) (hs : Sh n d) (hn : n ≤ 64 := by decide) : Ev (tOp (rNeD K) ta tb) σ H (.bl false) := fun H1 e Q q =>
  h1 H1 e _ fun v H2 e2 r2 => h2 H2 (e.trans e2) _ fun w H3 e3 r3 => ⟨_, _, (r2.ex e3).pd, r3.pd, hs.shaped hn, hs.shaped hn, by
    rw [PySem.SeqAt.eqv_refl _ hs.lay]
    exact q H3 (e2.trans e3)⟩
theorem ed_cat {ds es : List D} (h1 : EvD ta σ H (.lst ds)) (h2 : EvD tb σ H (.lst es)) (hl : ds.length + es.length ≤ 100000) : EvD (tOp rCat ta tb) σ H (.lst (ds ++ es)) := fun H1 e Q q =>
  h1 H1 e _ fun v H2 e2 r2 => h2 H2 (e.trans e2) _ fun w H3 e3 r3 => by
    obtain ⟨p, vs, rfl, g1, g2⟩ := rp_lst.mp (r2.ex e3)
    obtain ⟨p', ws, rfl, g3, g4⟩ := rp_lst.mp r3
    refine ⟨p, p', vs, ws, rfl, rfl, g1, g3, by rw [rps_len g2, rps_len g4]; exact sz_of hl, fun l hl => q _ _ ((e2.trans e3).trans (Ex.new hl)) (rp_lst.mpr ⟨l, _, rfl, upd_same, (rps_app g2 g4).ex (Ex.new hl)⟩)⟩
theorem ed_listof {ds : List D} (h1 : EvD ta σ H (.lst ds)) : EvD (tCB (fun xs H Q => ∃ p ys, xs = [.ref p] ∧ (SqL K H p ys ∨ SqT K H p ys) ∧ ∀ l, H l = none → Q (.ref l) (upd H l (.lst ys))) (tCons ta tNil)) σ H (.lst ds) := fun H1 e Q q =>
  h1 H1 e _ fun v H2 e2 r2 => by
    obtain ⟨p, vs, rfl, g1, g2⟩ := rp_lst.mp r2
    exact ⟨p, vs, rfl, .inl (sq_of g1), fun l hl => q _ _ (e2.trans (Ex.new hl)) (rp_lst.mpr ⟨l, _, rfl, upd_same, g2.ex (Ex.new hl)⟩)⟩
/-- a place not in _law_numbers(sheet) -/
theorem ev_notin {E : XK} {l : List Nat} {n : Nat} (h1 : EvD ta σ H (pl (pos l n))) (h2 : Ev tb σ H (.str (S l))) (hl : l.length ≤ 1000) (hn : n ≤ l.length) : Ev (tDNotIn ta (tCall sp__law_numbers [] E (tCons tb tNil))) σ H (.bl false) := fun H1 e Q q =>
  h1 H1 e _ fun v H2 e2 r2 => h2 H2 (e.trans e2) _ fun H3 e3 => ⟨l, rfl, hl, fun p H4 hp e4 hd => by
    have r4 := (r2.ex e3).ex e4
    obtain ⟨b3, vs3, rfl, g1, g2⟩ := rp_tup.mp r4
    obtain ⟨a1, t1, rfl, a2, g2⟩ := rps_cons.mp g2
    obtain ⟨a3, t3, rfl, a4, g2⟩ := rps_cons.mp g2
    rw [rps_nil.mp g2, rp_int.mp a2, rp_int.mp a4] at g1
    have := DGet.t (k := nkey (pos l n)) hd g1
    rw [nums_get hn] at this
    exact ⟨p, _, rfl, this, q H4 ((e2.trans e3).trans e4)⟩⟩
end
/-! ### an edit undone -/
theorem take_put {s q : List Nat} {a b : Nat} (h : a ≤ s.length) : (put s a b q).take a = s.take a := by
  unfold put
  rw [List.append_assoc, List.take_append_of_le_length (by rw [List.length_take]; omega), List.take_take, Nat.min_self]
theorem pos_put {s q : List Nat} {a b : Nat} (h : a ≤ s.length) : pos (put s a b q) a = pos s a := by
  unfold pos
  rw [take_put h]
def unEd (x : List Nat × Ed) : Ed := ⟨x.2.a, x.2.a + x.2.q.length, (x.1.drop x.2.a).take (x.2.b - x.2.a)⟩
theorem undo_ed {x : List Nat × Ed} (h : x.2.can x.1) : undo x = edD (x.2.on x.1) (unEd x) := by
  have h1 := h.1
  have h2 := h.2.1
  unfold undo edD unEd
  show D.tup [pl (pos x.1 x.2.a), _, _] = D.tup [pl (pos (put x.1 x.2.a x.2.b x.2.q) x.2.a), _, _]
  rw [pos_put (by omega)]
theorem undo_on {x : List Nat × Ed} (h : x.2.can x.1) : (unEd x).on (x.2.on x.1) = x.1 := by
  obtain ⟨s, a, b, q⟩ := x
  have h1 : a ≤ b := h.1
  have h2 : b ≤ s.length := h.2.1
  show put (put s a b q) a (a + q.length) ((s.drop a).take (b - a)) = s
  have hd : (put s a b q).drop (a + q.length) = s.drop b := by
    unfold put
    rw [List.drop_append_of_le_length (by rw [List.length_append, List.length_take]; omega), List.drop_eq_nil_of_le (by rw [List.length_append, List.length_take]; omega), List.nil_append]
  show (put s a b q).take a ++ (s.drop a).take (b - a) ++ (put s a b q).drop (a + q.length) = s
  rw [take_put (by omega), hd]
  have e : s.drop b = (s.drop a).drop (b - a) := by
    rw [List.drop_drop]
    congr 1
    omega
  rw [e, List.append_assoc, List.take_append_drop, List.take_append_drop]
theorem okL_mono : ∀ {n : Nat} {d : D}, okL n d → okL (n + 1) d
  | 0, _, h => h.elim
  | n + 1, d, h => by
    rcases h with h | ⟨ds, h1, h2, h3⟩
    · exact .inl h
    · exact .inr ⟨ds, h1, h2, fun x hx => okL_mono (h3 x hx)⟩
theorem okL_pl (p : Nat × Nat) : okL 2 (pl p) := .inr ⟨_, .inl rfl, by simp, fun x hx => by
  rcases List.mem_cons.mp hx with rfl | hx
  · exact .inl trivial
  · rw [List.mem_singleton.mp hx]; exact .inl trivial⟩
theorem okL_tog (s t : List Nat) : okL 3 (togD s t) := by
  unfold togD
  by_cases h : t = s
  · rw [if_pos h]; exact .inl trivial
  · rw [if_neg h]
    refine .inr ⟨_, .inl rfl, by simp, fun x hx => ?_⟩
    rcases List.mem_cons.mp hx with rfl | hx
    · exact okL_pl _
    rcases List.mem_cons.mp hx with rfl | hx
    · exact okL_pl _
    · rw [List.mem_singleton.mp hx]; exact .inl trivial
theorem qs_editsM {ns : List Int} {a : Addr} {σ : L2.St} {H : Hp} {E : XK} {tm : TE} {l : List Nat} {p q i j : Nat} {D' : Ends} {tz : TS} (hp : σ[p]? = some (some (.ref a))) (hq : σ[q]? = some (some (.str (S l)))) (hm : EvS K ns a tm σ H fun v => ∃ m : Int, v = .int m ∧ 0 ≤ m ∧ m ≤ 8) (hl : okT 200 l) (s : StO K ns a H)
    (k : ∀ es v H1, Ch l es → es.length ≤ 8 → ExB a H H1 → StO K ns a H1 → Rp H1 (editsD l es) v → tz D' ((σ.set i (some v)).set j (some (.str (S (fin l es))))) H1) :
    tSeq (tAsg (tCall (sp__law_edits K) [] E (tCons (tVar p) (tCons (tVar q) (tCons tm tNil)))) (gTup K 2 (gCons (gName i) (gCons (gName j) gNil)))) tz D' σ H :=
  ⟨_, hp, _, hq, hm H (ExB.refl _ _) s _ fun vm H0 x0 s0 ⟨m, hv, m0, m8⟩ => by
    subst hv
    refine ⟨a, l, ns, m, rfl, ⟨m0, m8⟩, hl, s0, fun es v H1 hc h8 hv x1 s1 => ?_⟩
    obtain ⟨p, vs, rfl, h2, h3⟩ := rp_tup.mp hv
    obtain ⟨v1, r1, rfl, a1, h3⟩ := rps_cons.mp h3
    obtain ⟨v2, r2, rfl, a2, h3⟩ := rps_cons.mp h3
    rw [rps_nil.mp h3] at h2
    refine ⟨p, [v1, v2], rfl, st_of h2, rfl, v1, [v2], rfl, v2, [], rfl, rfl, ?_⟩
    rw [rp_str.mp a2]
    exact k es v1 H1 hc h8 (x0.trans x1) s1 a1⟩
theorem qs_edits {ns : List Int} {a : Addr} {σ : L2.St} {H : Hp} {E : XK} {l : List Nat} {p q i j : Nat} {D' : Ends} {tz : TS} (hp : σ[p]? = some (some (.ref a))) (hq : σ[q]? = some (some (.str (S l)))) (hl : okT 200 l) (s : StO K ns a H)
    (k : ∀ es v H1, Ch l es → es.length ≤ 8 → ExB a H H1 → StO K ns a H1 → Rp H1 (editsD l es) v → tz D' ((σ.set i (some v)).set j (some (.str (S (fin l es))))) H1) :
    tSeq (tAsg (tCall (sp__law_edits K) [] E (tCons (tVar p) (tCons (tVar q) (tCons (tC (.int 8)) tNil)))) (gTup K 2 (gCons (gName i) (gCons (gName j) gNil)))) tz D' σ H :=
  qs_editsM hp hq (es_of (fun _ _ => ev_c) ⟨8, rfl, by decide, by decide⟩) hl s k

end
end HW

set_option Elab.async false
set_option linter.all false
set_option maxRecDepth 100000
namespace HW
open PySem PySem.Spec PyProof.Rows L2 Evl SX
section
variable {P : Program} {w : World} {K : PySem.W.Frag} {mg : Str → Option Value} {base : Heap}
/-! ### the word of a refusal -/
def nameL (j : Nat) : List Nat := (Str.ofString (wNames.getD j "")).cps.toList
theorem name_S (j : Nat) : S (nameL j) = Str.ofString (wNames.getD j "") := S_tl _
def wOut (j : Nat) (n : Int) : D := .tup [.str (nameL j), .int n]
def XdFor (j : Nat) (fl : Option (List (Str × V))) (n : Int) : Prop := (j ≠ 2 ∧ j ≠ 13 ∧ fl = none ∧ n = 0) ∨ (j = 2 ∧ fl = some [(Str.ofString "number", V.int n)]) ∨ (j = 13 ∧ fl = some [(Str.ofString "row", V.int n)])
def kdV (j : Nat) : List V := (List.range 14).map fun i => V.bl (decide (i = j))
def kdD (j : Nat) : List D := (List.range 14).map fun i => D.bl (decide (i = j))
def nmD : List D := (List.range 14).map fun i => D.str (nameL i)
theorem kd_count : ∀ j, j < 14 → (kdV j).countP (fun z => eqV z (.bl true)) = 1 := by decide
theorem kd_flat : ∀ j, j < 14 → (kdV j).all flatV = true := by decide
theorem kd_at : ∀ j, j < 14 → (kdV j)[j]? = some (.bl true) := by decide
theorem kd_no : ∀ j, j < 14 → ∀ m, m < j → (kdV j)[m]? = some (.bl false) := by decide
theorem kd_rp {H : Hp} {j : Nat} {v : V} (r : Rp H (.lst (kdD j)) v) : ∃ p, v = .ref p ∧ H p = some (.lst (kdV j)) := by
  obtain ⟨p, vs, rfl, h1, h2⟩ := rp_lst.mp r
  have e : kdD j = ((List.range 14).map fun i => decide (i = j)).map D.bl := by unfold kdD; rw [List.map_map]; rfl
  rw [e] at h2
  rw [rps_bls h2, List.map_map] at h1
  exact ⟨p, rfl, h1⟩
def sp__law_word (P : Program) (w : World) (K : PySem.W.Frag) (mg : Str → Option Value) (base : Heap) : Sp := fun vs H Q _ => ∃ f j fl n, vs = [.ref f] ∧ j < 14 ∧ XdFor j fl n ∧ Raises P w K mg base 12 H f (Str.ofString (wNames.getD j "")) fl ∧ ∀ v H', Ex H H' → Rp H' (wOut j n) v → Q v H'
theorem kc {H : Hp} {σ : L2.St} {s : String} {k : List Nat} (h : S k = Str.ofString s) : EvD (tC (.str (Str.ofString s))) σ H (.str k) := ed_s (by rw [h]; exact ev_c)
theorem sc__law_word : FnScope ["_law_work", "e", "_law_kinds", "_law_words", "_law_word_here"] ["_law_work"] (defScope (topS 42)) := ⟨rfl, rfl, rfl, by decide +kernel, rfl, by decide +kernel, by decide +kernel⟩
theorem ok__law_word {f : Addr} {fd : FuncData} (F : Fun K "_law_word" "_law_word" (topS 42) f fd) (m_isinstance : mg "isinstance" = none) (m_ValueError : mg "ValueError" = none) {c0 c1 c2 c3 c4 c5 c6 c7 c8 c9 c10 c11 c12 c13 CW : Addr} (wk : Wk K mg [c0, c1, c2, c3, c4, c5, c6, c7, c8, c9, c10, c11, c12, c13] CW) (xfE : XfC K c2) (noE : PySem.W.findIn K (.ref c2) "number" = some none) (xfT : XfC K c13) (noT : PySem.W.findIn K (.ref c13) "row" = some none) : FnOk P w K mg base CX0 13 f fd ["_law_work"] (sp__law_word P w K mg base) := by
  refine F.ok sc__law_word (fun vs H Q E h => by obtain ⟨f, j, fl, n, rfl, _⟩ := h; rfl) (fun cdv A outer s H vs Q E hr h => ?_)
  obtain ⟨g, j, fl, n, rfl, hj, hfl, hra, q⟩ := h
  refine ⟨_, (pss_one (ps_try_as (tb := fun W => tRet (tWork P w K mg base 12 0 W)) (i := 1) rfl rfl sc__law_word.nd rfl rfl ⟨rfl, by decide, .inl wk.w⟩ LamX.takes0 (fun W pn xe tk _ => pss_one (ps_ret (pe_work (k := 12) (a := "_law_work") tk (hr.mono (by decide)) rfl (.inl rfl)))) (fun a oe cls d pn hz hf => (pss_cons (ps_set (i := 2) sc__law_word.nd rfl (.inl rfl) (pe_lst (pa_cons (pe_callB (call_isX hz hf) (by rfl) m_isinstance (by decide +kernel) (pa_cons (pv 1) (pa_cons (pe_glob (v := .ref c0) (by rfl) (wk.nm 0 _ _ rfl rfl) rfl) pa_nil))) (pa_cons (pe_callB (call_isX hz hf) (by rfl) m_isinstance (by decide +kernel) (pa_cons (pv 1) (pa_cons (pe_glob (v := .ref c1) (by rfl) (wk.nm 1 _ _ rfl rfl) rfl) pa_nil))) (pa_cons (pe_callB (call_isX hz hf) (by rfl) m_isinstance (by decide +kernel) (pa_cons (pv 1) (pa_cons (pe_glob (v := .ref c2) (by rfl) (wk.nm 2 _ _ rfl rfl) rfl) pa_nil))) (pa_cons (pe_callB (call_isX hz hf) (by rfl) m_isinstance (by decide +kernel) (pa_cons (pv 1) (pa_cons (pe_glob (v := .ref c3) (by rfl) (wk.nm 3 _ _ rfl rfl) rfl) pa_nil))) pa_nil))))))
      (pss_cons (ps_set (i := 2) sc__law_word.nd rfl (.inl rfl) (pe_op op_cat (pv 2) (pe_lst (pa_cons (pe_callB (call_isX hz hf) (by rfl) m_isinstance (by decide +kernel) (pa_cons (pv 1) (pa_cons (pe_glob (v := .ref c4) (by rfl) (wk.nm 4 _ _ rfl rfl) rfl) pa_nil))) (pa_cons (pe_callB (call_isX hz hf) (by rfl) m_isinstance (by decide +kernel) (pa_cons (pv 1) (pa_cons (pe_glob (v := .ref c5) (by rfl) (wk.nm 5 _ _ rfl rfl) rfl) pa_nil))) (pa_cons (pe_callB (call_isX hz hf) (by rfl) m_isinstance (by decide +kernel) (pa_cons (pv 1) (pa_cons (pe_glob (v := .ref c6) (by rfl) (wk.nm 6 _ _ rfl rfl) rfl) pa_nil))) (pa_cons (pe_callB (call_isX hz hf) (by rfl) m_isinstance (by decide +kernel) (pa_cons (pv 1) (pa_cons (pe_glob (v := .ref c7) (by rfl) (wk.nm 7 _ _ rfl rfl) rfl) pa_nil))) pa_nil)))))))
      (pss_cons (ps_set (i := 2) sc__law_word.nd rfl (.inl rfl) (pe_op op_cat (pv 2) (pe_lst (pa_cons (pe_callB (call_isX hz hf) (by rfl) m_isinstance (by decide +kernel) (pa_cons (pv 1) (pa_cons (pe_glob (v := .ref c8) (by rfl) (wk.nm 8 _ _ rfl rfl) rfl) pa_nil))) (pa_cons (pe_callB (call_isX hz hf) (by rfl) m_isinstance (by decide +kernel) (pa_cons (pv 1) (pa_cons (pe_glob (v := .ref c9) (by rfl) (wk.nm 9 _ _ rfl rfl) rfl) pa_nil))) (pa_cons (pe_callB (call_isX hz hf) (by rfl) m_isinstance (by decide +kernel) (pa_cons (pv 1) (pa_cons (pe_glob (v := .ref c10) (by rfl) (wk.nm 10 _ _ rfl rfl) rfl) pa_nil))) (pa_cons (pe_callB (call_isX hz hf) (by rfl) m_isinstance (by decide +kernel) (pa_cons (pv 1) (pa_cons (pe_glob (v := .ref c11) (by rfl) (wk.nm 11 _ _ rfl rfl) rfl) pa_nil))) pa_nil)))))))
      (pss_cons (ps_set (i := 2) sc__law_word.nd rfl (.inl rfl) (pe_op op_cat (pv 2) (pe_lst (pa_cons (pe_callB (call_isX hz hf) (by rfl) m_isinstance (by decide +kernel) (pa_cons (pv 1) (pa_cons (pe_glob (v := .ref c12) (by rfl) (wk.nm 12 _ _ rfl rfl) rfl) pa_nil))) (pa_cons (pe_callB (call_isX hz hf) (by rfl) m_isinstance (by decide +kernel) (pa_cons (pv 1) (pa_cons (pe_glob (v := .ref c13) (by rfl) (wk.nm 13 _ _ rfl rfl) rfl) pa_nil))) pa_nil)))))
      (pss_cons (ps_set (i := 3) sc__law_word.nd rfl (.inl rfl) (pe_lst (pa_cons pe_str (pa_cons pe_str (pa_cons pe_str (pa_cons pe_str (pa_cons pe_str (pa_cons pe_str (pa_cons pe_str (pa_cons pe_str (pa_cons pe_str (pa_cons pe_str pa_nil))))))))))))
      (pss_cons (ps_set (i := 3) sc__law_word.nd rfl (.inl rfl) (pe_op op_cat (pv 3) (pe_lst (pa_cons pe_str (pa_cons pe_str (pa_cons pe_str (pa_cons pe_str pa_nil)))))))
      (pss_cons (ps_if (PW.pt (pw_or (pt_cmpR op_ne (show PE _ _ (tBM K "list" (rCountL K) _ _) from (pe_bm PySem.F.plainAttrs_list PySem.F.slot_list_count PySem.F.type_list_count mt_countL (pv 2) (pa_cons pe_bl pa_nil))) pe_int (nomark _)) (pw_or1 (pt_not (pt_val (pe_callB (call_isX hz hf) (by rfl) m_isinstance (by decide +kernel) (pa_cons (pv 1) (pa_cons (pe_bltn (v := .ty "ValueError") (by rfl) m_ValueError (by decide +kernel) rfl) pa_nil))))))))
        (pss_one (ps_ret (pe_tup (pa_cons pe_str (pa_cons pe_int pa_nil)))))
        pss_nil)
      (pss_cons (ps_set (i := 4) sc__law_word.nd rfl (.inl rfl) (pe_ix (r := rIxL K) ix_list (pv 3) (show PE _ _ (tBM K "list" (rIndex K) _ _) from (pe_bm PySem.F.plainAttrs_list PySem.F.slot_list_index PySem.F.type_list_index mt_index (pv 2) (pa_cons pe_bl pa_nil))) (fun _ _ => rfl)))
      (pss_one (ps_ret (pe_tup (pa_cons (pv 4) (pa_cons (pe_ifExp (pt_cmpR op_eq (pv 4) pe_str (nomark _)) (pe_xf xfE noE hz hf (pv 1)) (pe_ifExp (pt_cmpR op_eq (pv 4) pe_str (nomark _)) (pe_xf xfT noT hz hf (pv 1)) pe_int)) pa_nil)))))))))))))))), ?_⟩
  refine ⟨g, rfl, hra H (Ex.refl _) _ _ fun C d H2 hC e2 x2 => ?_⟩
  have hjl : j < [c0, c1, c2, c3, c4, c5, c6, c7, c8, c9, c10, c11, c12, c13].length := hj
  have hCj : [c0, c1, c2, c3, c4, c5, c6, c7, c8, c9, c10, c11, c12, c13][j]? = some C := by
    have h1 := wk.nm j (wNames.getD j "") _ (by rw [List.getD_eq_getElem?_getD, List.getElem?_eq_getElem (show j < wNames.length from hj)]; rfl) (List.getElem?_eq_getElem hjl)
    rw [hC] at h1
    rw [List.getElem?_eq_getElem hjl]
    injection h1 with h1
    injection h1 with h1
    rw [h1]
  obtain ⟨hE, hx, hv, hkit⟩ := wk.at hCj
  refine ⟨true, hx, fun _ a ha => ?_, fun z => by cases z⟩
  have hdd : ∀ {H' : Hp}, Ex H2 H' → (d = none ∨ ∃ dd fs, d = some dd ∧ H' dd = some (.xd fs)) := fun e => by
    cases fl with
    | none => exact .inl x2
    | some fs =>
      obtain ⟨dd, h1, _, h3⟩ := x2
      exact .inr ⟨dd, fs, h1, e _ _ h3⟩
  have is : ∀ (i : Nat) {ci : Addr} {σ' : L2.St} {H' : Hp}, [c0, c1, c2, c3, c4, c5, c6, c7, c8, c9, c10, c11, c12, c13][i]? = some ci → σ'[1]? = some (some (.ref a)) → Ex H2 H' → EvD (tCB (rIsX K (.ref C) d a) (tCons (tVar 1) (tCons (tC (.ref ci)) tNil))) σ' H' (.bl (decide (i = j))) := fun i {ci σ' H'} hi hs e => ed_b fun H1 e1 Q q => ⟨.ref a, hs, C, .ref ci, .ref ci, _, rfl, hE, hdd (e.trans e1), rfl, fun u r => r, hkit i ci hi, q H1 (Ex.refl _)⟩
  refine qd_asg (ed_lst (eda_cons (is 0 rfl rfl (Ex.refl _)) (eda_cons (is 1 rfl rfl (Ex.refl _)) (eda_cons (is 2 rfl rfl (Ex.refl _)) (eda_cons (is 3 rfl rfl (Ex.refl _)) eda_nil))))) fun w1 H3 e3 r3 => ?_
  refine qd_asg (ed_cat (ed_var rfl r3) (ed_lst (eda_cons (is 4 rfl rfl e3) (eda_cons (is 5 rfl rfl e3) (eda_cons (is 6 rfl rfl e3) (eda_cons (is 7 rfl rfl e3) eda_nil))))) (by simp)) fun w2 H4 e4 r4 => ?_
  have e34 := e3.trans e4
  refine qd_asg (ed_cat (ed_var rfl r4) (ed_lst (eda_cons (is 8 rfl rfl e34) (eda_cons (is 9 rfl rfl e34) (eda_cons (is 10 rfl rfl e34) (eda_cons (is 11 rfl rfl e34) eda_nil))))) (by simp)) fun w3 H5 e5 r5 => ?_
  have e35 := e34.trans e5
  refine qd_asg (ed_cat (ed_var rfl r5) (ed_lst (eda_cons (is 12 rfl rfl e35) (eda_cons (is 13 rfl rfl e35) eda_nil))) (by simp)) fun w4 H6 e6 r6 => ?_
  have r6 : Rp H6 (.lst (kdD j)) w4 := r6
  obtain ⟨p, rfl, hp⟩ := kd_rp r6
  have e36 := e35.trans e6
  refine qd_asg (ed_lst (eda_cons (kc (name_S 0)) (eda_cons (kc (name_S 1)) (eda_cons (kc (name_S 2)) (eda_cons (kc (name_S 3)) (eda_cons (kc (name_S 4)) (eda_cons (kc (name_S 5)) (eda_cons (kc (name_S 6)) (eda_cons (kc (name_S 7)) (eda_cons (kc (name_S 8)) (eda_cons (kc (name_S 9)) eda_nil))))))))))) fun w5 H7 e7 r7 => ?_
  refine qd_asg (ed_cat (ed_var rfl r7) (ed_lst (eda_cons (kc (name_S 10)) (eda_cons (kc (name_S 11)) (eda_cons (kc (name_S 12)) (eda_cons (kc (name_S 13)) eda_nil))))) (by simp)) fun w6 H8 e8 r8 => ?_
  have r8 : Rp H8 (.lst nmD) w6 := r8
  have e68 := e7.trans e8
  have e38 := e36.trans e68
  have hcnt : ∀ {H' : Hp} {σ' : L2.St}, σ'[2]? = some (some (.ref p)) → Ex H6 H' → Ev (tBM K "list" (rCountL K) (tVar 2) (tCons (tC (.bl true)) tNil)) σ' H' (.int 1) := fun hs e H1 e1 Q q => ⟨.ref p, hs, Or.inl ⟨rfl, _, sq_of ((e.trans e1) _ _ hp)⟩, p, kdV j, .bl true, rfl, rfl, sq_of ((e.trans e1) _ _ hp), rfl, kd_flat j hj, by rw [kd_count j hj]; exact q H1 (Ex.refl _)⟩
  have hval : ∀ {σ' : L2.St} {H' : Hp}, σ'[1]? = some (some (.ref a)) → Ex H2 H' → Ev (tCB (rIsX K (.ref C) d a) (tCons (tVar 1) (tCons (tC (.ty "ValueError")) tNil))) σ' H' (.bl true) := fun hs e H1 e1 Q q => ⟨.ref a, hs, C, .ty "ValueError", .type "ValueError", true, rfl, hE, hdd (e.trans e1), rfl, fun u r => r, hv, q H1 (Ex.refl _)⟩
  refine q_when (et_or0 (et_is (et_test (ev_op (hcnt rfl e68) ev_c rv_neI)) rfl) (et_no (et_B (hval rfl e38)))) (fun z => by cases z) fun _ H9 e9 => ?_
  have e69 := e68.trans e9
  have hix : ∀ {H' : Hp} {σ' : L2.St}, σ'[2]? = some (some (.ref p)) → Ex H6 H' → Ev (tBM K "list" (rIndex K) (tVar 2) (tCons (tC (.bl true)) tNil)) σ' H' (.int (j : Nat)) := fun hs e H1 e1 Q q => ⟨.ref p, hs, Or.inl ⟨rfl, _, sq_of ((e.trans e1) _ _ hp)⟩, p, kdV j, .bl true, j, .bl true, rfl, rfl, sq_of ((e.trans e1) _ _ hp), rfl, kd_flat j hj, kd_at j hj, rfl, fun m z hm hz => by rw [kd_no j hj m hm] at hz; cases hz; rfl, q H1 (Ex.refl _)⟩
  refine q_asg (v := .str (S (nameL j))) (EvD.s (ed_ixL (ed_var rfl (r8.ex e9)) (hix rfl e69) (atI_nat (by unfold nmD; rw [List.getElem?_map, List.getElem?_range hj]; rfl)))) fun H10 e10 => ?_
  have e310 := (e38.trans e9).trans e10
  have hQ : ∀ {v H'}, Ex H10 H' → Rp H' (wOut j n) v → Q v H' := fun e r => q _ _ ((e2.trans e310).trans e) r
  have hne : ∀ k, k < 14 → k ≠ j → (nameL j = nameL k) = False := by
    have : ∀ j, j < 14 → ∀ k, k < 14 → k ≠ j → ¬ nameL j = nameL k := by decide +kernel
    intro k hk hkj
    exact eq_false (this j hj k hk hkj)
  refine sd_ret (d := wOut j n) (ed_tup (eda_cons (ed_s (ev_var rfl)) (eda_cons (ed_i ?_) eda_nil))) fun v H11 e11 r11 => hQ e11 r11
  rcases hfl with ⟨j2, j13, rfl, rfl⟩ | ⟨rfl, rfl⟩ | ⟨rfl, rfl⟩
  · refine ev_if (b := false) (et_is (et_test (ev_op (ev_var rfl) (EvD.s (kc (name_S 2))) rv_eqS)) (decide_eq_false (by rw [hne 2 (by decide) (fun z => j2 z.symm)]; exact id))) (fun z => by cases z) fun _ => ?_
    exact ev_if (b := false) (et_is (et_test (ev_op (ev_var rfl) (EvD.s (kc (name_S 13))) rv_eqS)) (decide_eq_false (by rw [hne 13 (by decide) (fun z => j13 z.symm)]; exact id))) (fun z => by cases z) fun _ => ev_c
  · obtain ⟨dd, h1, _, h3⟩ := x2
    cases hCj
    refine ev_if (b := true) (et_is (et_test (ev_op (ev_var rfl) (EvD.s (kc (name_S 2))) rv_eqS)) (decide_eq_true rfl)) (fun _ => ?_) fun z => by cases z
    exact fun H1 e1 Q q => ⟨.ref a, rfl, rfl, rfl, dd, _, .int n, h1, (e310.trans e1) _ _ h3, rfl, q H1 (Ex.refl _)⟩
  · obtain ⟨dd, h1, _, h3⟩ := x2
    cases hCj
    refine ev_if (b := false) (et_is (et_test (ev_op (ev_var rfl) (EvD.s (kc (name_S 2))) rv_eqS)) (decide_eq_false (by rw [hne 2 (by decide) (by decide)]; exact id))) (fun z => by cases z) fun _ => ?_
    refine ev_if (b := true) (et_is (et_test (ev_op (ev_var rfl) (EvD.s (kc (name_S 13))) rv_eqS)) (decide_eq_true rfl)) (fun _ => ?_) fun z => by cases z
    exact fun H1 e1 Q q => ⟨.ref a, rfl, rfl, rfl, dd, _, .int n, h1, (e310.trans e1) _ _ h3, rfl, q H1 (Ex.refl _)⟩
theorem okL_1up : ∀ {n : Nat} {d : D}, okL n d → okL (n + 1) d
  | 0, _, h => h.elim
  | n + 1, d, h => by
    rcases h with h | ⟨ds, h1, h2, h3⟩
    · exact .inl h
    · exact .inr ⟨ds, h1, h2, fun x hx => okL_1up (h3 x hx)⟩
theorem okL_w {j : Nat} {n : Int} : ∀ {m : Nat}, okL (m + 2) (wOut j n)
  | 0 => .inr ⟨_, .inl rfl, by simp, fun x hx => by
    rcases List.mem_cons.mp hx with rfl | hx
    · exact .inl trivial
    · rw [List.mem_singleton.mp hx]; exact .inl trivial⟩
  | m + 1 => okL_1up (okL_w (m := m))
theorem ed_word {σ : L2.St} {H : Hp} {ta : TE} {E : XK} {f : Addr} {j : Nat} {fl : Option (List (Str × V))} {n : Int} (h : Ev ta σ H (.ref f)) (hj : j < 14) (hfl : XdFor j fl n) (hra : Raises P w K mg base 12 H f (Str.ofString (wNames.getD j "")) fl) : EvD (tCall (sp__law_word P w K mg base) [] E (tCons ta tNil)) σ H (wOut j n) := fun H1 e Q q =>
  h H1 e _ fun H2 e2 => ⟨f, j, fl, n, rfl, hj, hfl, hra.ex (e.trans e2), fun v H3 e3 r => q v H3 (e2.trans e3) r⟩
def sp__law_all (P : Program) (w : World) (K : PySem.W.Frag) (mg : Str → Option Value) (base : Heap) : Sp := fun vs H Q _ => ∃ (p : Addr) (fs : List Addr) (v2 : V) (j : Nat) (fl : Option (List (Str × V))) (n : Int), vs = [.ref p, v2] ∧ j < 14 ∧ XdFor j fl n ∧ H p = some (.lst (fs.map V.ref)) ∧ (∀ f ∈ fs, Raises P w K mg base 12 H f (Str.ofString (wNames.getD j "")) fl) ∧ Rp H (wOut j n) v2 ∧ ∀ H', Ex H H' → Q (.bl true) H'
theorem sc__law_all : FnScope ["_law_works", "_law_due", "_law_work"] ["_law_works", "_law_due"] (defScope (topS 43)) := ⟨rfl, rfl, rfl, by decide +kernel, rfl, by decide +kernel, by decide +kernel⟩
theorem ok__law_all {f : Addr} {fd : FuncData} (F : Fun K "_law_all" "_law_all" (topS 43) f fd) (d__law_same : Df P w K mg base "_law_same" ["_law_found", "_law_due"] 3 (SameSp (okL 3))) (d__law_word : Df P w K mg base "_law_word" ["_law_work"] 13 (sp__law_word P w K mg base)) : FnOk P w K mg base CX0 14 f fd ["_law_works", "_law_due"] (sp__law_all P w K mg base) := by
  refine F.ok sc__law_all (fun vs H Q E h => by obtain ⟨p, fs, v2, j, fl, n, rfl, _⟩ := h; rfl) (fun cdv A outer s H vs Q E hr h => ?_)
  obtain ⟨p, fs, v2, j, fl, n, rfl, hj, hfl, hp, hra, r2, q⟩ := h
  refine ⟨_, (pss_one (ps_ret (pe_cmpR (op_eqD hr.units) (pe_lc (own := [("_law_work", 2)]) (g := gName 2) rfl sc__law_all.nd (pi_list (pv 0)) (blkOk_by (own := [("_law_work", 2)]) (N := ["_law_works", "_law_due", "_law_work"]) (sc := defScope (topS 43)) (by decide +kernel)) (fun _ _ _ _ _ => (pg_name (i := 2) sc__law_all.nd rfl (.inl rfl))) (fun _ _ _ _ _ => pts_one (pt_not (pt_val (d__law_same.pe (hr.mono (by decide)) (pa_cons (d__law_word.pe (hr.mono (by decide)) (pa_cons (pv 2) pa_nil)) (pa_cons (pv 1) pa_nil)))))) (fun _ _ _ _ _ => (pv 2))) (pe_lst pa_nil) (nomark _)))), ?_⟩
  refine s_ret (ev_eqNil (ed_lc0 (ev_var rfl) hp (fun _ => rfl) fun i x H1 hx e1 => ?_) ed_nilL) fun H1 e1 => q H1 e1
  rw [List.getElem?_map] at hx
  obtain ⟨f', hf', rfl⟩ := Option.map_eq_some_iff.mp hx
  exact et_no (et_B (EvD.b (ed_call (eda_cons (ed_word (ev_var rfl) hj hfl ((hra f' (List.mem_of_getElem? hf')).ex e1)) (eda_cons (ed_var rfl (r2.ex e1)) eda_nil)) ⟨wOut j n, rfl, okL_w, rfl⟩)))

end
end HW

set_option Elab.async false
set_option linter.all false
set_option maxRecDepth 100000
namespace HW
open PySem PySem.Spec PyProof.Rows L2 Evl SX
section
variable {P : Program} {w : World} {K : PySem.W.Frag} {mg : Str → Option Value} {base : Heap}
theorem es_nat {ns : List Int} {a : Addr} {σ : L2.St} {H : Hp} {m : Nat} {i : Nat} {E : XK} (hm : 1 ≤ m) (hm2 : m ≤ 1000) (hi : σ[i]? = some (some (.ref a))) : EvS K ns a (tCall (spDrawn K) [] E (tCons (tVar i) (tCons (tC (.int (m : Int))) tNil))) σ H fun v => ∃ j, v = .int j ∧ 0 ≤ j ∧ j < (m : Int) := es_drawn hi (es_of (fun _ _ => ev_c) rfl) (by omega) (by omega)
theorem es_more {ns : List Int} {a : Addr} {σ : L2.St} {H : Hp} {ta : TE} {m : Nat} {c : Int} (h : EvS K ns a ta σ H fun v => ∃ j, v = .int j ∧ 0 ≤ j ∧ j < (m : Int)) : EvS K ns a (tOp (rI0 fun i j => .int (i + j)) (tC (.int c)) ta) σ H fun v => ∃ j, v = .int j ∧ c ≤ j ∧ j < c + (m : Int) :=
  es_op (P1 := fun v => v = .int c) (es_of (fun _ _ => ev_c) rfl) h fun x y hx ⟨j, hy, j0, j1⟩ => by
    subst hx hy
    exact ⟨_, fun H => rv_I0 (g := fun i j => V.int (i + j)), c + j, rfl, by omega, by omega⟩
theorem rng_c {n c : Nat} (hn : 1 ≤ n) (hn2 : n ≤ 1000) (hc : 1 ≤ c) (hc2 : c ≤ 9) : RgC 0 (n : Int) (c : Int) ((n - 1) / c + 1) := by
  have e : Builtin.Range.rangeSize 0 (n : Int) (c : Int) = (((n - 1) / c + 1 : Nat) : Int) := by
    unfold Builtin.Range.rangeSize
    rw [if_pos (by omega), if_pos (by omega)]
    have : (n : Int) - 0 - 1 = ((n - 1 : Nat) : Int) := by omega
    rw [this]
    rfl
  have hb : (n - 1) / c ≤ n - 1 := Nat.div_le_self _ _
  generalize (n - 1) / c = m at *
  refine ⟨by omega, by omega, ?_, e⟩
  unfold Builtin.Range.small
  rw [e]
  have f : ∀ i : Int, -10000 ≤ i → i ≤ 10000 → Builtin.Range.rangeFitsLong i = true := fun i h1 h2 => by
    unfold Builtin.Range.rangeFitsLong
    rw [decide_eq_true (by omega), decide_eq_true (by omega)]
    rfl
  rw [f _ (by omega) (by omega), f _ (by omega) (by omega), f _ (by omega) (by omega), f _ (by omega) (by omega), if_pos (by omega), f _ (by omega) (by omega)]
  simp
theorem ss_for3 {ns : List Int} {a : Addr} {σ : L2.St} {H : Hp} {tb tc : TE} {j n : Nat} {tu : TS} {D' : Ends} (hb : ∀ H1, ExB a H H1 → Ev tb σ H1 (.int (n : Int))) (hc : EvS K ns a tc σ H fun v => ∃ c, v = .int c ∧ 1 ≤ c ∧ c ≤ 9) (hn : 1 ≤ n) (hn2 : n ≤ 1000) (s : StO K ns a H) (Pv : L2.St → Hp → Prop)
    (h0 : ∀ H1, ExB a H H1 → StO K ns a H1 → Pv σ H1) (hs : ∀ (x : Nat) σ' H', x < n → Pv σ' H' → tu { D' with nx := Pv, ct := Pv, bk := D'.nx } (σ'.set j (some (.int (x : Int)))) H') (hd : ∀ σ' H', Pv σ' H' → D'.nx σ' H') :
    tFor (iRng3 (tCons (tC (.int 0)) (tCons tb (tCons tc tNil)))) (gName j) tu D' σ H :=
  hb H (ExB.refl _ _) H (Ex.refl _) _ fun H1 e1 => hc H1 (.of e1) (s.mono e1) _ fun v H2 e2 s2 pv => by
    obtain ⟨c, rfl, c1, c2⟩ := pv
    have ec : c = ((c.toNat : Nat) : Int) := by omega
    refine ⟨0, (n : Int), c, (n - 1) / c.toNat + 1, rfl, ?_, for_it walk_rangeC (fun _ => Pv) (h0 H2 ((ExB.of e1).trans e2) s2) (fun _ _ _ _ _ => trivial) (fun i x σ' H' H'' hi p hy => ?_) hd⟩
    · have := rng_c (n := n) (c := c.toNat) hn hn2 (by omega) (by omega)
      rw [← ec] at this
      exact this
    · obtain ⟨rfl, rfl⟩ := hy
      have hlt : i * c.toNat < n := by
        have h1 : i ≤ (n - 1) / c.toNat := by omega
        have h2 : i * c.toNat ≤ (n - 1) / c.toNat * c.toNat := Nat.mul_le_mul_right _ h1
        have h3 := Nat.div_mul_le_self (n - 1) c.toNat
        omega
      have e : (0 : Int) + (i : Nat) * c = ((i * c.toNat : Nat) : Int) := by
        rw [Int.zero_add, Int.natCast_mul, ← ec]
      show tu _ (σ'.set j (some (.int (0 + (i : Nat) * c)))) _
      rw [e]
      exact hs _ σ' _ hlt p

end
end HW

set_option Elab.async false
set_option linter.all false
set_option maxRecDepth 100000
namespace HW
open PySem PySem.Spec PyProof.Rows L2 Evl SX
section
variable {P : Program} {w : World} {K : PySem.W.Frag} {mg : Str → Option Value} {base : Heap}
/-! ### the table of the law's own code -/
def qLam : Str := "law" ++ ".<locals>." ++ "<lambda>"
theorem Tabs.exB {T : List (Addr × Str)} {a : Addr} {H H' : Hp} {ys : List V} (t : LamX.Tabs T H) (x : ExB a H H') (ha : H a = some (.lst ys)) : LamX.Tabs T H' := fun p hp => by
  obtain ⟨ps, h1, h2, h3⟩ := t p hp
  refine ⟨ps, x _ _ (fun z => by rw [z, ha] at h1; cases h1) h1, h2, fun pos cv hc => ?_⟩
  obtain ⟨c, e1, e2⟩ := h3 pos cv hc
  exact ⟨c, e1, x _ _ (fun z => by rw [z, ha] at e2; unfold LamX.CodeO at e2; cases e2) e2⟩
theorem Tabs.st {T : List (Addr × Str)} {ns : List Int} {a : Addr} {H H' : Hp} (t : LamX.Tabs T H) (s : StO K ns a H) (x : ExB a H H') : LamX.Tabs T H' := by
  obtain ⟨_, _, _, _, h1, _⟩ := s.ex
  exact Tabs.exB t x h1
theorem StO.extN {ns : List Int} {a : Addr} {H H' : Hp} (s : StO K ns a H) (e : LamX.ExtN H H') : StO K ns a H' := by
  obtain ⟨sc, i, m, r, h1, h2, h3⟩ := s.ex
  refine ⟨sc, i, m, r, e _ _ h1 (fun _ z => by cases z), ?_, h3⟩
  rcases h2 with ⟨o, h⟩ | h
  · exact .inl ⟨o, e _ _ h fun _ z => by cases z⟩
  · exact .inr h
mutual
theorem Rp.extN {H H' : Hp} (e : LamX.ExtN H H') : ∀ {d : D} {v : V}, Rp H d v → Rp H' d v
  | .non, _, r => rp_non.mpr (rp_non.mp r)
  | .bl _, _, r => rp_bl.mpr (rp_bl.mp r)
  | .int _, _, r => rp_int.mpr (rp_int.mp r)
  | .str _, _, r => rp_str.mpr (rp_str.mp r)
  | .tup ds, _, r => by
    obtain ⟨p, vs, h1, h2, h3⟩ := rp_tup.mp r
    exact rp_tup.mpr ⟨p, vs, h1, e _ _ h2 (fun _ z => by cases z), Rps.extN e h3⟩
  | .lst ds, _, r => by
    obtain ⟨p, vs, h1, h2, h3⟩ := rp_lst.mp r
    exact rp_lst.mpr ⟨p, vs, h1, e _ _ h2 (fun _ z => by cases z), Rps.extN e h3⟩
theorem Rps.extN {H H' : Hp} (e : LamX.ExtN H H') : ∀ {ds : List D} {vs : List V}, Rps H ds vs → Rps H' ds vs
  | [], _, r => rps_nil.mpr (rps_nil.mp r)
  | d :: ds, _, r => by
    obtain ⟨v, q, h1, h2, h3⟩ := rps_cons.mp r
    exact rps_cons.mpr ⟨v, q, h1, Rp.extN e h2, Rps.extN e h3⟩
end
/-- x = [..][i], i drawn -/
theorem qs_pickD {ns : List Int} {a : Addr} {σ : L2.St} {H : Hp} {tr : TA} {tb : TE} {ds : List D} {i : Nat} {D' : Ends} {tz : TS} (h : EvDA tr σ H ds) (hn : nls ds = true) (hl : ds.length ≤ 1000) (hi : EvS K ns a tb σ H fun v => ∃ k, v = .int k ∧ 0 ≤ k ∧ k < (ds.length : Int)) (s : StO K ns a H)
    (k : ∀ d ∈ ds, ∀ v H1, ExB a H H1 → StO K ns a H1 → Rp H1 d v → tz D' (σ.set i (some v)) H1) : tSeq (tAsg (tOp (rIxL K) (tLst tr) tb) (gName i)) tz D' σ H :=
  ss_retPick (D' := { nx := fun _ _ => False, rt := fun v H1 => tz D' (σ.set i (some v)) H1 }) h hn hl hi s k
/-- if not _law_all([one lambda], word): return .. -/
theorem s_all1 {X : Cx} {T : List (Addr × Str)} {σ : L2.St} {H : Hp} {params : Arguments} {body : Expr} {scope : Scope} {t : XK → TE} {tw : TA} {tu : TS} {D' : Ends} {j : Nat} {fl : Option (List (Str × V))} {n : Int} {dw : List D} (hT : LamX.Tabs T H) (hj : j < 14) (hfl : XdFor j fl n)
    (hw : ∀ H1, EvDA tw σ H1 dw) (hdw : .tup dw = wOut j n) (L : LmS X.N X.env.scope scope) (hk : ∀ x, X.env.kindOf x = X.env.scope.names.lookup x)
    (hbody : ∀ (A : Around) (outer : List Env) (s : Shared) (H : Hp) (E : XK) (f c' : Addr), Room 11 (A.deeper (LamX.lamEnv X scope s.heap.objs.size f c')) → PE (LamX.lamCx X A outer s H E scope f c') body (t E))
    (hr : ∀ H1 (E : XK), LamX.ExtN H H1 → (∀ C d H2, X.mg (Str.ofString (wNames.getD j "")) = some (.ref C) → Ex H1 H2 → XdIs fl d H1 H2 → E (.ref C) d H2) → ExR (t E) σ H1)
    (k : ∀ H1, LamX.ExtN H H1 → LamX.Tabs T H1 → D'.nx σ H1) : tIfS (tNot (tB (tCallC X (sp__law_all X.prog X.w X.K X.mg X.base) (tCons (tLst (tCons (tMkLam X T params body scope) tNil)) (tCons (tTup tw) tNil))))) tu tNext D' σ H := by
  refine ⟨hT, fun f H1 eN nf t1 l1 => ⟨by show 1 ≤ sizeLine; decide, fun p hp => ?_⟩⟩
  have ep : Ex H1 (upd H1 p (.lst [.ref f])) := Ex.new hp
  have hp1 : (upd H1 p (.lst [.ref f])) p = some (.lst [.ref f]) := upd_same
  generalize (upd H1 p (.lst [.ref f])) = H2 at *
  refine ed_tup (hw H2) (by have := congrArg (fun d => match d with | D.tup ds => ds.length | _ => 0) hdw; simp only [wOut] at this; rw [this]; simp) H2 (Ex.refl _) _ fun v2 H3 e3 r3 => ?_
  intro cs C hf
  rw [hdw] at r3
  have e13 := ep.trans e3
  have eN3 : LamX.ExtN H H3 := eN.trans (.of e13)
  have t3 : LamX.Tabs T H3 := t1.ext e13
  have l3 := l1.mono (.of e13)
  have rl : Rp (lay H3 cs) (wOut j n) v2 := by
    have ex : Tx H3 (lay H3 cs) := fun b xs hb => by rw [lay_out (out_of hf hb)]; exact hb
    exact Rp.tx ex rfl r3
  refine ⟨p, [f], v2, j, fl, n, rfl, hj, hfl, by rw [lay_out (out_of hf (e3 _ _ hp1))]; exact e3 _ _ hp1, fun f' hf' => ?_, rl, fun H' e' => ⟨laid_lay.ex e', true, rfl, ?_⟩⟩
  · rw [List.mem_singleton.mp hf']
    exact lam_raises (k := 11) l3 C hf L hk hbody fun H4 E e4 q4 => hr H4 E (eN3.trans (.of e4)) q4
  · have eb := ex_bar hf e'
    exact k _ (eN3.trans (.of eb)) (t3.ext eb)

end
end HW

set_option Elab.async false
set_option linter.all false
set_option maxRecDepth 100000
namespace HW
open PySem PySem.Spec PyProof.Rows L2 Evl SX
section
variable {P : Program} {w : World} {K : PySem.W.Frag} {mg : Str → Option Value} {base : Heap}
/-! ### more of lambdas -/
theorem q_all1 {X : Cx} {T : List (Addr × Str)} {σ : L2.St} {H : Hp} {params : Arguments} {body : Expr} {scope : Scope} {t : XK → TE} {tw : TA} {tu tz : TS} {D' : Ends} {j : Nat} {fl : Option (List (Str × V))} {n : Int} {dw : List D} (hT : LamX.Tabs T H) (hj : j < 14) (hfl : XdFor j fl n)
    (hw : ∀ H1, EvDA tw σ H1 dw) (hdw : .tup dw = wOut j n) (L : LmS X.N X.env.scope scope) (hk : ∀ x, X.env.kindOf x = X.env.scope.names.lookup x)
    (hbody : ∀ (A : Around) (outer : List Env) (s : Shared) (H : Hp) (E : XK) (f c' : Addr), Room 11 (A.deeper (LamX.lamEnv X scope s.heap.objs.size f c')) → PE (LamX.lamCx X A outer s H E scope f c') body (t E))
    (hr : ∀ H1 (E : XK), LamX.ExtN H H1 → (∀ C d H2, X.mg (Str.ofString (wNames.getD j "")) = some (.ref C) → Ex H1 H2 → XdIs fl d H1 H2 → E (.ref C) d H2) → ExR (t E) σ H1)
    (k : ∀ H1, LamX.ExtN H H1 → LamX.Tabs T H1 → tz D' σ H1) : tSeq (tIfS (tNot (tB (tCallC X (sp__law_all X.prog X.w X.K X.mg X.base) (tCons (tLst (tCons (tMkLam X T params body scope) tNil)) (tCons (tTup tw) tNil))))) tu tNext) tz D' σ H :=
  s_all1 (D' := { D' with nx := tz D' }) hT hj hfl hw hdw L hk hbody hr k
theorem s_all2 {X : Cx} {T : List (Addr × Str)} {σ : L2.St} {H : Hp} {params params' : Arguments} {body body' : Expr} {scope scope' : Scope} {t t' : XK → TE} {tw : TA} {tu : TS} {D' : Ends} {j : Nat} {fl : Option (List (Str × V))} {n : Int} {dw : List D} (hT : LamX.Tabs T H) (hj : j < 14) (hfl : XdFor j fl n)
    (hw : ∀ H1, EvDA tw σ H1 dw) (hdw : .tup dw = wOut j n) (L : LmS X.N X.env.scope scope) (L' : LmS X.N X.env.scope scope') (hk : ∀ x, X.env.kindOf x = X.env.scope.names.lookup x)
    (hbody : ∀ (A : Around) (outer : List Env) (s : Shared) (H : Hp) (E : XK) (f c' : Addr), Room 11 (A.deeper (LamX.lamEnv X scope s.heap.objs.size f c')) → PE (LamX.lamCx X A outer s H E scope f c') body (t E))
    (hbody' : ∀ (A : Around) (outer : List Env) (s : Shared) (H : Hp) (E : XK) (f c' : Addr), Room 11 (A.deeper (LamX.lamEnv X scope' s.heap.objs.size f c')) → PE (LamX.lamCx X A outer s H E scope' f c') body' (t' E))
    (hr : ∀ H1 (E : XK), LamX.ExtN H H1 → (∀ C d H2, X.mg (Str.ofString (wNames.getD j "")) = some (.ref C) → Ex H1 H2 → XdIs fl d H1 H2 → E (.ref C) d H2) → ExR (t E) σ H1)
    (hr' : ∀ H1 (E : XK), LamX.ExtN H H1 → (∀ C d H2, X.mg (Str.ofString (wNames.getD j "")) = some (.ref C) → Ex H1 H2 → XdIs fl d H1 H2 → E (.ref C) d H2) → ExR (t' E) σ H1)
    (k : ∀ H1, LamX.ExtN H H1 → LamX.Tabs T H1 → D'.nx σ H1) : tIfS (tNot (tB (tCallC X (sp__law_all X.prog X.w X.K X.mg X.base) (tCons (tLst (tCons (tMkLam X T params body scope) (tCons (tMkLam X T params' body' scope') tNil))) (tCons (tTup tw) tNil))))) tu tNext D' σ H := by
  refine ⟨hT, fun f H0 eN0 nf0 t0 l0 => ⟨t0, fun f' H1 eN1 nf1 t1 l1 => ⟨by show 2 ≤ sizeLine; decide, fun p hp => ?_⟩⟩⟩
  have eN : LamX.ExtN H H1 := eN0.trans eN1
  have l0 := l0.mono (.extN eN1)
  have ep : Ex H1 (upd H1 p (.lst [.ref f, .ref f'])) := Ex.new hp
  have hp1 : (upd H1 p (.lst [.ref f, .ref f'])) p = some (.lst [.ref f, .ref f']) := upd_same
  generalize (upd H1 p (.lst [.ref f, .ref f'])) = H2 at *
  refine ed_tup (hw H2) (by have := congrArg (fun d => match d with | D.tup ds => ds.length | _ => 0) hdw; simp only [wOut] at this; rw [this]; simp) H2 (Ex.refl _) _ fun v2 H3 e3 r3 => ?_
  intro cs C hf
  rw [hdw] at r3
  have e13 := ep.trans e3
  have eN3 : LamX.ExtN H H3 := eN.trans (.of e13)
  have t3 : LamX.Tabs T H3 := t1.ext e13
  have l3 := l1.mono (.of e13)
  have l4 := l0.mono (.of e13)
  have rl : Rp (lay H3 cs) (wOut j n) v2 := by
    have ex : Tx H3 (lay H3 cs) := fun b xs hb => by rw [lay_out (out_of hf hb)]; exact hb
    exact Rp.tx ex rfl r3
  refine ⟨p, [f, f'], v2, j, fl, n, rfl, hj, hfl, by rw [lay_out (out_of hf (e3 _ _ hp1))]; exact e3 _ _ hp1, fun g hg => ?_, rl, fun H' e' => ⟨laid_lay.ex e', true, rfl, ?_⟩⟩
  · rcases List.mem_cons.mp hg with rfl | hg
    · exact lam_raises (k := 11) l4 C hf L hk hbody fun H4 E e4 q4 => hr H4 E (eN3.trans (.of e4)) q4
    · rw [List.mem_singleton.mp hg]
      exact lam_raises (k := 11) l3 C hf L' hk hbody' fun H4 E e4 q4 => hr' H4 E (eN3.trans (.of e4)) q4
  · have eb := ex_bar hf e'
    exact k _ (eN3.trans (.of eb)) (t3.ext eb)
/-! ### lists of texts stay -/
theorem StO.keepS {ns : List Int} {a : Addr} {H H' : Hp} {ls : List (List Nat)} {v : V} (s : StO K ns a H) (x : ExB a H H') (r : Rp H (.lst (ls.map D.str)) v) : Rp H' (.lst (ls.map D.str)) v := by
  obtain ⟨p, ws, rfl, h1, h2⟩ := rp_lst.mp r
  have hp : p ≠ a := fun z => by
    obtain ⟨sc, i, m, r, g1, _⟩ := s.ex
    rw [z, g1] at h1
    have e := HO.lst.inj (Option.some.inj h1)
    rw [rps_strs h2] at e
    have e1 := congrArg (fun l : List V => l[1]?) e
    simp only [List.getElem?_map] at e1
    cases hl : ls[1]? with
    | none => rw [hl] at e1; cases e1
    | some y => rw [hl] at e1; cases e1
  refine rp_lst.mpr ⟨p, ws, rfl, x _ _ hp h1, ?_⟩
  rw [rps_strs h2]
  exact rps_of_map D.str (fun l => V.str (S l)) (fun _ => rp_str.mpr rfl) ls
/-- x = xs[i], i drawn, xs a list of tuples -/
theorem qs_ixD {ns : List Int} {a : Addr} {σ : L2.St} {H : Hp} {tb : TE} {ds : List D} {i j : Nat} {w0 : V} {D' : Ends} {tz : TS} (hr : Rp H (.lst ds) w0) (hv : σ[i]? = some (some w0)) (hd : ∀ d ∈ ds, ∃ es, d = .tup es) (hn : nls ds = true) (hi : EvS K ns a tb σ H fun v => ∃ k, v = .int k ∧ 0 ≤ k ∧ k < (ds.length : Int)) (s : StO K ns a H)
    (k : ∀ d ∈ ds, ∀ v H1, ExB a H H1 → StO K ns a H1 → Rp H1 d v → tz D' (σ.set j (some v)) H1) : tSeq (tAsg (tOp (rIxL K) (tVar i) tb) (gName j)) tz D' σ H :=
  ⟨w0, hv, hi H (ExB.refl _ _) s _ fun v H1 e1 s1 pk => by
    obtain ⟨m, rfl, k0, k1⟩ := pk
    have hk : m.toNat < ds.length := by omega
    obtain ⟨l, vs, rfl, h1, h2⟩ := rp_lst.mp (s.keep e1 hr hd hn)
    obtain ⟨w1, hw, rw'⟩ := rps_get h2 (List.getElem?_eq_getElem hk)
    refine ⟨l, vs, m, w1, rfl, rfl, sq_of h1, ?_, k _ (List.getElem_mem hk) w1 H1 e1 s1 rw'⟩
    have := atI_nat (xs := vs) (j := m.toNat) hw
    rw [Int.toNat_of_nonneg k0] at this
    exact this⟩
/-! ### for k in (a dict of places) -/
theorem q_forKT {σ : L2.St} {H : Hp} {p : Addr} {kvs : List (List Key × V)} {i j : Nat} {tu tz : TS} {D' : Ends} (hv : σ[i]? = some (some (.ref p))) (hp : H p = some (.dT kvs)) (Pv : L2.St → Prop) (h0 : Pv σ)
    (hs : ∀ (od : Obj) (n : Nat) (k : List Key) (v : V) (q : Addr) σ' H' (D2 : Ends), kvs[n]? = some (k, v) → Pv σ' → Ex (upd H p (.frz od (.dT kvs))) H' → H' q = some (.tup (k.map kV)) → (D2.nx = fun σ2 H2 => Pv σ2 ∧ Ex (upd H p (.frz od (.dT kvs))) H2) → tu D2 (σ'.set j (some (.ref q))) H')
    (hd : ∀ σ' H', Pv σ' → Ex H H' → tz D' σ' H') : tSeq (tLock (tFor (iKeys (tVar i)) (gName j) tu)) tz D' σ H := by
  refine ⟨p, _, hp, trivial, fun od => ?_⟩
  refine ⟨.ref p, hv, p, od, rfl, .inr ⟨kvs, upd_same, ?_⟩⟩
  refine for_it walk_keysT (fun _ σ' H' => Pv σ' ∧ Ex (upd H p (.frz od (.dT kvs))) H') ⟨h0, Ex.refl _⟩ (fun n σ' H' _ q => q.2 _ _ upd_same) (fun n v σ' H' H'' hn q hy => ?_) fun σ' H' q => ⟨q.2 _ _ upd_same, hd σ' _ q.1 fun b o hb => ?_⟩
  · obtain ⟨rfl, k, v', q', h1, rfl, h3⟩ := hy
    exact hs od n k v' q' σ' _ _ h1 q.1 q.2 h3 rfl
  · by_cases z : b = p
    · subst z
      rw [hp] at hb
      cases hb
      exact upd_same
    · rw [upd_ne z]
      exact q.2 b o (by rw [upd_ne z]; exact hb)
theorem ev_dgF {σ : L2.St} {H : Hp} {td tk : TE} {p : Addr} {od : Obj} {kvs : List (List Key × V)} {r : Nat × Nat} {v : V} (h : Ev td σ H (.ref p)) (hd : H p = some (.frz od (.dT kvs))) (hk : EvD tk σ H (pl r)) (hv : valV kvs (nkey r) = some v) : Ev (tDGet td tk) σ H v := fun H1 e Q q =>
  h H1 e _ fun H2 e2 => hk H2 (e.trans e2) _ fun u H3 e3 r3 => by
    obtain ⟨b3, vs3, rfl, g1, g2⟩ := rp_tup.mp r3
    obtain ⟨a1, t1, rfl, a2, g2⟩ := rps_cons.mp g2
    obtain ⟨a3, t3, rfl, a4, g2⟩ := rps_cons.mp g2
    rw [rps_nil.mp g2, rp_int.mp a2, rp_int.mp a4] at g1
    exact ⟨p, v, rfl, .inr ⟨kvs, nkey r, b3, .inr ⟨od, ((e.trans e2).trans e3) _ _ hd⟩, rfl, g1, hv.symm⟩, q H3 (e2.trans e3)⟩
theorem rp_nkey {H : Hp} {q : Addr} {r : Nat × Nat} (h : H q = some (.tup ((nkey r).map kV))) : Rp H (pl r) (.ref q) := rp_tup.mpr ⟨q, _, rfl, h, rps_cons.mpr ⟨_, _, rfl, rp_int.mpr rfl, rps_cons.mpr ⟨_, _, rfl, rp_int.mpr rfl, rps_nil.mpr rfl⟩⟩⟩
/-! ### one text within another -/
def inT (a b : List Nat) : Bool := !(Builtin.Str.occurrences (S b) (S a) 0 (S b).length 1).isEmpty
theorem rv_inT {H : Hp} {a b : List Nat} : RV (fun x y H Q => ∃ i j, x = .str i ∧ y = .str j ∧ Q (.bl (!(Builtin.Str.occurrences j i 0 j.length 1).isEmpty)) H) (.str (S a)) (.str (S b)) H (.bl (inT a b)) := fun H1 _ _ q => ⟨S a, S b, rfl, rfl, q H1 (Ex.refl H1)⟩
theorem inT_mem {a b : List Nat} {c : Nat} (hc : c ∈ a) (h : inT a b = true) : c ∈ b := by
  obtain ⟨i, h1, h2⟩ := (PySem.StrLaws.found_iff _ _).mp h
  rw [PySem.StrLaws.subAt_eq] at h2
  have h2 : (b.drop i).take a.length = a := by
    have := eq_of_beq h2
    simpa [S, Str.length] using this
  rw [← h2] at hc
  exact List.mem_of_mem_drop (List.mem_of_mem_take hc)
theorem mul_S2 {l : List Nat} {n : Int} (h1 : 1 ≤ n) (h2 : n ≤ 1000) (hl : l.length ≤ 100) : MulOk (S l) n ∧ Txt.mul (S l) n = S (List.replicate n.toNat l).flatten := by
  refine ⟨⟨?_, fun _ _ => ?_, fun _ _ => ?_⟩, ?_⟩
  · rw [decide_eq_false (by omega), decide_eq_false (by omega)]; rfl
  · rw [S_len]
    have : (922337203685477 : Int) ≤ (2 ^ 63 - 1) / n := by
      rw [Int.le_ediv_iff_mul_le (by omega)]
      omega
    omega
  · refine decide_eq_false fun z => ?_
    have h3 : l.length * n.toNat ≤ 100 * 1000 := Nat.mul_le_mul hl (by omega)
    rw [S_len] at z
    have h4 : 100 * 1000 ≤ sizeLine := by decide
    omega
  · unfold Txt.mul
    rw [if_neg (by omega)]
    by_cases hc : (n == 1 || (S l).length == 0) = true
    · rw [if_pos hc]
      rw [Bool.or_eq_true] at hc
      rcases hc with hc | hc
      · have : n = 1 := eq_of_beq hc
        subst this
        simp
      · have : l = [] := by
          have h := eq_of_beq hc
          rw [S_len] at h
          exact List.length_eq_zero_iff.mp h
        subst this
        simp
    · rw [if_neg hc]
      refine TL.ext_tl ?_
      show ((List.replicate n.toNat l.toArray).foldl (· ++ ·) #[]).toList = _
      rw [fold_rep]
      simp
theorem flat1 (c : Nat) : ∀ n : Nat, (List.replicate n [c]).flatten = List.replicate n c
  | 0 => rfl
  | n + 1 => by rw [List.replicate_succ, List.flatten_cons, flat1 c n, List.replicate_succ]; rfl
/-- a sign, so many times -/
theorem ev_rep {σ : L2.St} {H : Hp} {ta tb : TE} {c n : Nat} (ha : Ev ta σ H (.str (S [c]))) (hb : Ev tb σ H (.int (n : Int))) (h1 : 1 ≤ n) (h2 : n ≤ 1000) : Ev (tOp rMulS ta tb) σ H (.str (S (List.replicate n c))) := by
  obtain ⟨m1, m2⟩ := mul_S2 (l := [c]) (n := (n : Int)) (by omega) (by omega) (by simp)
  rw [Int.toNat_natCast, flat1] at m2
  exact ev_op ha hb fun H1 _ Q q => ⟨S [c], n, rfl, rfl, m1, by rw [m2]; exact q H1 (Ex.refl _)⟩

end
end HW

set_option Elab.async false
set_option linter.all false
set_option maxRecDepth 100000
namespace HW
open PySem PySem.Spec PyProof.Rows L2 Evl SX
section
variable {P : Program} {w : World} {K : PySem.W.Frag} {mg : Str → Option Value} {base : Heap}
/-! ### drawn data -/
def tupL (ds : List D) : Prop := (∀ d ∈ ds, ∃ es, d = .tup es) ∧ nls ds = true
theorem tupL_nil : tupL [] := ⟨(fun d hd => by cases hd), rfl⟩
theorem nls_app : ∀ {ds es : List D}, nls ds = true → nls es = true → nls (ds ++ es) = true
  | [], es, _, h => h
  | d :: ds, es, h1, h2 => by
    rw [nls, Bool.and_eq_true] at h1
    show nls (d :: (ds ++ es)) = true
    rw [nls, h1.1, nls_app h1.2 h2]
    rfl
theorem tupL.app {ds es : List D} (h1 : tupL ds) (h2 : tupL es) : tupL (ds ++ es) := ⟨fun d hd => (List.mem_append.mp hd).elim (h1.1 d) (h2.1 d), nls_app h1.2 h2.2⟩
theorem tupL.one {es : List D} (h : nl (.tup es) = true) : tupL [.tup es] := ⟨(fun d hd => by rw [List.mem_singleton.mp hd]; exact ⟨_, rfl⟩), by rw [nls, h]; rfl⟩
theorem tupL.cons {es : List D} {ds : List D} (h : nl (.tup es) = true) (h2 : tupL ds) : tupL (.tup es :: ds) := tupL.app (.one h) h2
theorem nls_mem : ∀ {ds : List D}, nls ds = true → ∀ d ∈ ds, nl d = true
  | [], _, d, hd => by cases hd
  | x :: ds, h, d, hd => by
    rw [nls, Bool.and_eq_true] at h
    rcases List.mem_cons.mp hd with rfl | hd
    · exact h.1
    · exact nls_mem h.2 d hd
def EvSD (K : PySem.W.Frag) (ns : List Int) (a : Addr) (te : TE) (σ : L2.St) (H : Hp) (Pd : D → Prop) : Prop :=
  ∀ H1, ExB a H H1 → StO K ns a H1 → ∀ Q : VK, (∀ d v H2, ExB a H1 H2 → StO K ns a H2 → Pd d → Rp H2 d v → Q v H2) → te σ H1 Q
section
variable {ns : List Int} {a : Addr} {σ : L2.St} {H : Hp} {ta tb te : TE} {Pd P1 P2 : D → Prop} {D' : Ends} {tz tu : TS}
theorem qsd_asg {i : Nat} (h : EvSD K ns a te σ H Pd) (s : StO K ns a H) (k : ∀ d v H1, ExB a H H1 → StO K ns a H1 → Pd d → Rp H1 d v → tz D' (σ.set i (some v)) H1) : tSeq (tAsg te (gName i)) tz D' σ H := h H (ExB.refl _ _) s _ k
theorem esd_of {d : D} (h : ∀ H1, ExB a H H1 → StO K ns a H1 → EvD te σ H1 d) (p : Pd d) : EvSD K ns a te σ H Pd := fun H1 e s Q q => h H1 e s H1 (Ex.refl _) Q fun v H2 e2 r => q d v H2 (.of e2) (s.mono e2) p r
theorem esd_cat (ha : EvSD K ns a ta σ H P1) (hb : EvSD K ns a tb σ H P2) (h1 : ∀ d, P1 d → ∃ ds, d = .lst ds ∧ tupL ds ∧ ds.length ≤ 1000) (h2 : ∀ d, P2 d → ∃ ds, d = .lst ds ∧ ds.length ≤ 1000) (hP : ∀ ds es, P1 (.lst ds) → P2 (.lst es) → Pd (.lst (ds ++ es))) :
    EvSD K ns a (tOp rCat ta tb) σ H Pd := fun H1 e s Q q =>
  ha H1 e s _ fun d v H2 e2 s2 p1 r1 => hb H2 (e.trans e2) s2 _ fun d' w H3 e3 s3 p2 r2 => by
    obtain ⟨ds, rfl, ⟨t1, t2⟩, l1⟩ := h1 d p1
    obtain ⟨es, rfl, l2⟩ := h2 d' p2
    obtain ⟨p, vs, rfl, g1, g2⟩ := rp_lst.mp (s2.keep e3 r1 t1 t2)
    obtain ⟨p', ws, rfl, g3, g4⟩ := rp_lst.mp r2
    exact ⟨p, p', vs, ws, rfl, rfl, g1, g3, by rw [rps_len g2, rps_len g4]; exact sz_of (by omega), fun l hl => q _ _ _ ((e2.trans e3).trans (.of (Ex.new hl))) (s3.mono (Ex.new hl)) (hP ds es p1 p2) (rp_lst.mpr ⟨l, _, rfl, upd_same, (rps_app g2 g4).ex (Ex.new hl)⟩)⟩
theorem esd_lst1 (h : EvSD K ns a te σ H P1) (hP : ∀ d, P1 d → Pd (.lst [d])) : EvSD K ns a (tLst (tCons te tNil)) σ H Pd := fun H1 e s Q q =>
  h H1 e s _ fun d v H2 e2 s2 p r => ⟨by show 1 ≤ sizeLine; decide, fun l hl => q _ _ _ (e2.trans (.of (Ex.new hl))) (s2.mono (Ex.new hl)) (hP d p) (rp_lst.mpr ⟨l, [v], rfl, upd_same, rps_cons.mpr ⟨v, [], rfl, r.ex (Ex.new hl), rps_nil.mpr rfl⟩⟩)⟩
/-- [..][i] of lists, i drawn -/
theorem esd_pick {tr : TA} {ds : List D} (h : ∀ H1, ExB a H H1 → StO K ns a H1 → EvDA tr σ H1 ds) (hd : ∀ d ∈ ds, ∃ es, d = .lst es ∧ tupL es) (hl : ds.length ≤ 1000) (hi : EvS K ns a tb σ H fun v => ∃ k, v = .int k ∧ 0 ≤ k ∧ k < (ds.length : Int)) (hP : ∀ d ∈ ds, Pd d) :
    EvSD K ns a (tOp (rIxL K) (tLst tr) tb) σ H Pd := fun H1 e s Q q => h H1 e s H1 (Ex.refl _) _ fun vs H2 e2 rs => by
  have hvl := rps_len rs
  refine ⟨by rw [hvl]; exact sz_of (by omega), fun l hl0 => ?_⟩
  have ela : Ex H2 (L2.upd H2 l (.lst vs)) := Ex.new hl0
  have s3 := (s.mono e2).mono ela
  have hla : l ≠ a := fun z => by
    obtain ⟨_, _, _, _, h1, _⟩ := (s.mono e2).ex
    rw [z, h1] at hl0
    cases hl0
  refine hi _ (e.trans (.of (e2.trans ela))) s3 _ fun v H3 e3 s4 pk => ?_
  obtain ⟨j, rfl, k0, k1⟩ := pk
  have hk : j.toNat < ds.length := by omega
  obtain ⟨w1, hw, rw'⟩ := rps_get rs (List.getElem?_eq_getElem hk)
  refine ⟨l, vs, j, w1, rfl, rfl, sq_of (e3 l _ hla upd_same), ?_, q _ w1 H3 ((ExB.of (e2.trans ela)).trans e3) s4 (hP _ (List.getElem_mem hk)) ?_⟩
  · have := atI_nat (xs := vs) (j := j.toNat) hw
    rw [Int.toNat_of_nonneg k0] at this
    exact this
  · obtain ⟨es, he, t1, t2⟩ := hd _ (List.getElem_mem hk)
    rw [he] at rw' ⊢
    exact s3.keep e3 (rw'.ex ela) t1 t2
theorem cutV_from (vs : List V) (n : Nat) : cutV vs (some (n : Int)) none = vs.drop n := by
  unfold cutV
  rw [HT.sIx_none, sIx_n]
  by_cases h : n ≤ vs.length
  · rw [Nat.min_eq_left h, List.take_of_length_le (by rw [List.length_drop]; omega)]
  · rw [Nat.min_eq_right (by omega), List.drop_eq_nil_of_le (show vs.length ≤ n by omega), List.drop_eq_nil_of_le (Nat.le_refl _), List.take_nil]
theorem rps_drop {H : Hp} : ∀ {ds : List D} {vs : List V} (n : Nat), Rps H ds vs → Rps H (ds.drop n) (vs.drop n)
  | _, _, 0, r => r
  | [], _, n + 1, r => by rw [rps_nil.mp r]; exact rps_nil.mpr rfl
  | d :: ds, _, n + 1, r => by
    obtain ⟨v, q, rfl, h1, h2⟩ := rps_cons.mp r
    exact rps_drop n h2
/-- [..][i:], i drawn -/
theorem esd_from {tr : TA} {ds : List D} (h : ∀ H1, ExB a H H1 → StO K ns a H1 → EvDA tr σ H1 ds) (hd : tupL ds) (hl : ds.length ≤ 1000) (hi : EvS K ns a tb σ H fun v => ∃ k, v = .int k ∧ 0 ≤ k ∧ k < (ds.length : Int)) (hP : ∀ n, n < ds.length → Pd (.lst (ds.drop n))) :
    EvSD K ns a (tSl (rSlL K) (tLst tr) (tPart tb) tNoPart) σ H Pd := fun H1 e s Q q => h H1 e s H1 (Ex.refl _) _ fun vs H2 e2 rs => by
  have hvl := rps_len rs
  refine ⟨by rw [hvl]; exact sz_of (by omega), fun l hl0 => ?_⟩
  have ela : Ex H2 (L2.upd H2 l (.lst vs)) := Ex.new hl0
  have s3 := (s.mono e2).mono ela
  have rl : Rp (L2.upd H2 l (.lst vs)) (.lst ds) (.ref l) := rp_lst.mpr ⟨l, vs, rfl, upd_same, rs.ex ela⟩
  refine hi _ (e.trans (.of (e2.trans ela))) s3 _ fun v H3 e3 s4 pk => ?_
  obtain ⟨j, rfl, k0, k1⟩ := pk
  refine ⟨j, rfl, ?_⟩
  obtain ⟨l', vs', hv', g1, g2⟩ := rp_lst.mp (s3.keep e3 rl hd.1 hd.2)
  cases hv'
  refine ⟨l, vs', rfl, sq_of g1, fun p hp => q _ _ _ ((ExB.of (e2.trans ela)).trans (e3.trans (.of (Ex.new hp)))) (s4.mono (Ex.new hp)) (hP j.toNat (by omega)) (rp_lst.mpr ⟨p, _, rfl, upd_same, ?_⟩)⟩
  have : cutV vs' (some j) none = vs'.drop j.toNat := by
    have := cutV_from vs' j.toNat
    rw [Int.toNat_of_nonneg k0] at this
    exact this
  rw [this]
  exact (rps_drop _ g2).ex (Ex.new hp)
theorem rps_rep {H : Hp} {ds : List D} {vs : List V} (h : Rps H ds vs) : ∀ n : Nat, Rps H (List.replicate n ds).flatten (List.replicate n vs).flatten
  | 0 => rps_nil.mpr rfl
  | n + 1 => by
    rw [List.replicate_succ, List.flatten_cons, List.replicate_succ, List.flatten_cons]
    exact rps_app h (rps_rep h n)
/-- a list, so many times -/
theorem ed_rep {ds : List D} {n : Nat} (h1 : EvD ta σ H (.lst ds)) (h2 : Ev tb σ H (.int (n : Int))) (hl : ds.length ≤ 100) (hn : n ≤ 100) : EvD (tOp rRep ta tb) σ H (.lst (List.replicate n ds).flatten) := fun H1 e Q q =>
  h1 H1 e _ fun v H2 e2 r2 => h2 H2 (e.trans e2) _ fun H3 e3 => by
    obtain ⟨p, vs, rfl, g1, g2⟩ := rp_lst.mp (r2.ex e3)
    refine ⟨p, n, vs, rfl, rfl, g1, by omega, by omega, ?_, fun l hl' => q _ _ ((e2.trans e3).trans (Ex.new hl')) (rp_lst.mpr ⟨l, _, rfl, upd_same, ?_⟩)⟩
    · rw [Int.toNat_natCast, rps_len g2]
      exact sz_of (by have := Nat.mul_le_mul hl hn; omega)
    · rw [Int.toNat_natCast]
      exact (rps_rep g2 n).ex (Ex.new hl')
theorem rep_one {α : Type} (x : α) : ∀ n : Nat, (List.replicate n [x]).flatten = List.replicate n x
  | 0 => rfl
  | n + 1 => by rw [List.replicate_succ, List.flatten_cons, rep_one x n, List.replicate_succ]; rfl
theorem tupL_rep {es : List D} (h : nl (.tup es) = true) (n : Nat) : tupL (List.replicate n (.tup es)) := ⟨fun d hd => ⟨es, List.eq_of_mem_replicate hd⟩, nls_all fun d hd => by rw [List.eq_of_mem_replicate hd]; exact h⟩
/-- for x in (a list), nothing changed -/
theorem q_forD {ds : List D} {p : Nat} (h : EvD ta σ H (.lst ds)) (Pv : Nat → L2.St → Prop) (h0 : Pv 0 σ)
    (hs : ∀ H1, Ex H H1 → ∀ (i : Nat) d x σ' H', ds[i]? = some d → Pv i σ' → Ex H1 H' → Rp H' d x → tu { D' with nx := fun σ2 H2 => Pv (i + 1) σ2 ∧ Ex H1 H2, ct := fun σ2 H2 => Pv (i + 1) σ2 ∧ Ex H1 H2, bk := tz D' } (σ'.set p (some x)) H')
    (hd : ∀ σ' H', Pv ds.length σ' → Ex H H' → tz D' σ' H') : tSeq (tFor (iList K ta) (gName p) tu) tz D' σ H :=
  h H (Ex.refl H) _ fun v H1 e r => by
    obtain ⟨b, vs, rfl, h4, h5⟩ := rp_lst.mp r
    have hl := rps_len h5
    refine ⟨b, rfl, ⟨vs, sq_of h4⟩, for_list (xs := vs) (fun i σ' H' => Pv i σ' ∧ Ex H1 H') ⟨h0, Ex.refl _⟩ (fun i σ' H' _ q => sq_of (q.2 _ _ h4)) (fun i x σ' H' hx hp => ?_) fun σ' H' hp => hd σ' H' (by rw [← hl]; exact hp.1) (e.trans hp.2)⟩
    have hi : i < ds.length := by
      rw [← hl]
      exact (List.getElem?_eq_some_iff.mp hx).1
    obtain ⟨x', hx', rx⟩ := rps_get (i := i) h5 (List.getElem?_eq_getElem hi)
    rw [hx] at hx'
    cases hx'
    exact hs H1 e i ds[i] x σ' H' (List.getElem?_eq_getElem hi) hp.1 hp.2 (rx.ex hp.2)
/-- for a, b in (a list of pairs), code may be made -/
theorem s_forPN {T : List (Addr × Str)} {dd : List (D × D)} {p q : Nat} (hT : LamX.Tabs T H) (h : EvD ta σ H (.lst (dd.map fun x => .tup [x.1, x.2]))) (Pv : Nat → L2.St → Prop) (h0 : Pv 0 σ)
    (hs : ∀ H1, Ex H H1 → ∀ (i : Nat) d x y σ' H' (D2 : Ends), dd[i]? = some d → Pv i σ' → LamX.ExtN H1 H' → LamX.Tabs T H' → Rp H' d.1 x → Rp H' d.2 y → (D2.nx = fun σ2 H2 => Pv (i + 1) σ2 ∧ LamX.ExtN H1 H2 ∧ LamX.Tabs T H2) → tu D2 ((σ'.set p (some x)).set q (some y)) H')
    (hd : ∀ H1, Ex H H1 → ∀ σ' H', Pv dd.length σ' → LamX.ExtN H1 H' → LamX.Tabs T H' → tz D' σ' H') : tSeq (tFor (iList K ta) (gTup K 2 (gCons (gName p) (gCons (gName q) gNil))) tu) tz D' σ H :=
  h H (Ex.refl H) _ fun v H1 e r => by
    obtain ⟨b, vs, rfl, h4, h5⟩ := rp_lst.mp r
    have hl := rps_len h5
    rw [List.length_map] at hl
    have keep : ∀ {H'}, LamX.ExtN H1 H' → H' b = some (.lst vs) := fun eN => eN _ _ h4 (fun _ z => by cases z)
    refine ⟨b, rfl, ⟨vs, sq_of h4⟩, for_list (xs := vs) (fun i σ' H' => Pv i σ' ∧ LamX.ExtN H1 H' ∧ LamX.Tabs T H') ⟨h0, LamX.ExtN.of (Ex.refl _), hT.ext e⟩ (fun i σ' H' _ q => sq_of (keep q.2.1)) (fun i x σ' H' hx hp => ?_) fun σ' H' hp => hd H1 e σ' H' (by rw [← hl]; exact hp.1) hp.2.1 hp.2.2⟩
    have hi : i < dd.length := by
      rw [← hl]
      exact (List.getElem?_eq_some_iff.mp hx).1
    have hdi : dd[i]? = some dd[i] := List.getElem?_eq_getElem hi
    obtain ⟨x', hx', rx⟩ := rps_get (i := i) (d := .tup [dd[i].1, dd[i].2]) h5 (by rw [List.getElem?_map, hdi]; rfl)
    rw [hx] at hx'
    cases hx'
    obtain ⟨T1, x1, y1, rfl, hT1, rx1, ry1⟩ := rp_two (Rp.extN hp.2.1 rx)
    exact ⟨T1, _, rfl, st_of hT1, rfl, _, _, rfl, _, _, rfl, rfl, hs H1 e i dd[i] x1 y1 σ' H' _ hdi hp.1 hp.2.1 hp.2.2 rx1 ry1 rfl⟩
theorem ef_cat {ds es : List D} (h1 : EvD ta σ H (.lst ds)) (h2 : EvD tb σ H (.lst es)) (hl : ds.length + es.length ≤ 100000) : EvF (tOp rCat ta tb) σ H (.lst (ds ++ es)) := fun H1 e Q q =>
  h1 H1 e _ fun v H2 e2 r2 => h2 H2 (e.trans e2) _ fun w H3 e3 r3 => by
    obtain ⟨p, vs, rfl, g1, g2⟩ := rp_lst.mp (r2.ex e3)
    obtain ⟨p', ws, rfl, g3, g4⟩ := rp_lst.mp r3
    refine ⟨p, p', vs, ws, rfl, rfl, g1, g3, by rw [rps_len g2, rps_len g4]; exact sz_of hl, fun l hl => q _ _ ((e2.trans e3).trans (Ex.new hl)) (rp_lst.mpr ⟨l, _, rfl, upd_same, (rps_app g2 g4).ex (Ex.new hl)⟩) fun _ _ => ⟨l, rfl, fresh_back (e2.trans e3) hl⟩⟩
/-- a, b, c = _law_edit(..) -/
theorem qs_edit3 {E : XK} {l : List Nat} {p q i j m : Nat} (hp : σ[p]? = some (some (.ref a))) (hq : σ[q]? = some (some (.str (S l)))) (hl : okT 200 l) (s : StO K ns a H)
    (k : ∀ (e : Ed) v1 v2 H1, e.can l → ExB a H H1 → StO K ns a H1 → Rp H1 (pl (pos l e.a)) v1 → Rp H1 (pl (pos l e.b)) v2 → tz D' (((σ.set i (some v1)).set j (some v2)).set m (some (.str (S e.q)))) H1) :
    tSeq (tAsg (tCall (sp__law_edit K) [] E (tCons (tVar p) (tCons (tVar q) tNil))) (gTup K 3 (gCons (gName i) (gCons (gName j) (gCons (gName m) gNil))))) tz D' σ H :=
  ⟨_, hp, _, hq, a, l, ns, rfl, hl, s, fun e v H1 hc hv x1 s1 => by
    obtain ⟨p, vs, rfl, h2, h3⟩ := rp_tup.mp hv
    obtain ⟨v1, r1, rfl, a1, h3⟩ := rps_cons.mp h3
    obtain ⟨v2, r2, rfl, a2, h3⟩ := rps_cons.mp h3
    obtain ⟨v3, r3, rfl, a3, h3⟩ := rps_cons.mp h3
    rw [rps_nil.mp h3] at h2
    refine ⟨p, [v1, v2, v3], rfl, st_of h2, rfl, v1, _, rfl, v2, _, rfl, v3, [], rfl, rfl, ?_⟩
    rw [rp_str.mp a3]
    exact k e v1 v2 H1 hc x1 s1 a1 a2⟩
/-- return xs[i], i drawn below len(xs), xs a list of tuples -/
theorem ss_retIx {ds : List D} {i : Nat} {w0 : V} (hr : Rp H (.lst ds) w0) (hv : σ[i]? = some (some w0)) (hd : tupL ds) (hi : EvS K ns a tb σ H fun v => ∃ k, v = .int k ∧ 0 ≤ k ∧ k < (ds.length : Int)) (s : StO K ns a H)
    (k : ∀ d ∈ ds, ∀ v H1, ExB a H H1 → StO K ns a H1 → Rp H1 d v → D'.rt v H1) : tRet (tOp (rIxL K) (tVar i) tb) D' σ H :=
  ⟨w0, hv, hi H (ExB.refl _ _) s _ fun v H1 e1 s1 pk => by
    obtain ⟨m, rfl, k0, k1⟩ := pk
    have hk : m.toNat < ds.length := by omega
    obtain ⟨l, vs, rfl, h1, h2⟩ := rp_lst.mp (s.keep e1 hr hd.1 hd.2)
    obtain ⟨w1, hw, rw'⟩ := rps_get h2 (List.getElem?_eq_getElem hk)
    refine ⟨l, vs, m, w1, rfl, rfl, sq_of h1, ?_, k _ (List.getElem_mem hk) w1 H1 e1 s1 rw'⟩
    have := atI_nat (xs := vs) (j := m.toNat) hw
    rw [Int.toNat_of_nonneg k0] at this
    exact this⟩
end
/-! ### lists of lambdas -/
def LamR (X : Cx) (σ : L2.St) (H : Hp) (j : Nat) (fl : Option (List (Str × V))) (f : Addr) : Prop := ∃ (params : Arguments) (body : Expr) (scope : Scope) (t : XK → TE), LamIs X params body scope f H ∧ LmS X.N X.env.scope scope ∧
  (∀ (A : Around) (outer : List Env) (s : Shared) (H : Hp) (E : XK) (f c' : Addr), Room 11 (A.deeper (LamX.lamEnv X scope s.heap.objs.size f c')) → PE (LamX.lamCx X A outer s H E scope f c') body (t E)) ∧
  ∀ H1 (E : XK), LamX.ExtN H H1 → (∀ C d H2, X.mg (Str.ofString (wNames.getD j "")) = some (.ref C) → Ex H1 H2 → XdIs fl d H1 H2 → E (.ref C) d H2) → ExR (t E) σ H1
theorem LamR.mono {X : Cx} {σ : L2.St} {H H' : Hp} {j : Nat} {fl : Option (List (Str × V))} {f : Addr} (h : LamR X σ H j fl f) (e : LamX.ExtN H H') : LamR X σ H' j fl f := by
  obtain ⟨p, b, sc, t, h1, h2, h3, h4⟩ := h
  exact ⟨p, b, sc, t, h1.mono (.extN e), h2, h3, fun H1 E e1 => h4 H1 E (e.trans e1)⟩
theorem q_lams3 {X : Cx} {T : List (Addr × Str)} {σ : L2.St} {H : Hp} {p1 p2 p3 : Arguments} {b1 b2 b3 : Expr} {s1 s2 s3 : Scope} {i : Nat} {tz : TS} {D' : Ends} (hT : LamX.Tabs T H)
    (k : ∀ f1 f2 f3 p H1, LamX.ExtN H H1 → LamX.Tabs T H1 → LamIs X p1 b1 s1 f1 H1 → LamIs X p2 b2 s2 f2 H1 → LamIs X p3 b3 s3 f3 H1 → H1 p = some (.lst [.ref f1, .ref f2, .ref f3]) → tz D' (σ.set i (some (.ref p))) H1) :
    tSeq (tAsg (tLst (tCons (tMkLam X T p1 b1 s1) (tCons (tMkLam X T p2 b2 s2) (tCons (tMkLam X T p3 b3 s3) tNil)))) (gName i)) tz D' σ H := by
  refine ⟨hT, fun f1 H1 e1 n1 t1 l1 => ⟨t1, fun f2 H2 e2 n2 t2 l2 => ⟨t2, fun f3 H3 e3 n3 t3 l3 => ⟨by show 3 ≤ sizeLine; decide, fun p hp => ?_⟩⟩⟩⟩
  have ep : Ex H3 (upd H3 p (.lst [.ref f1, .ref f2, .ref f3])) := Ex.new hp
  exact k f1 f2 f3 p _ ((e1.trans e2).trans (e3.trans (.of ep))) (t3.ext ep) ((l1.mono (.extN (e2.trans e3))).mono (.of ep)) ((l2.mono (.extN e3)).mono (.of ep)) (l3.mono (.of ep)) upd_same
theorem s_allV {X : Cx} {T : List (Addr × Str)} {σ : L2.St} {H : Hp} {fs : List Addr} {p : Addr} {i : Nat} {params : Arguments} {body : Expr} {scope : Scope} {t : XK → TE} {tw : TA} {tu : TS} {D' : Ends} {j : Nat} {fl : Option (List (Str × V))} {n : Int} {dw : List D} (hT : LamX.Tabs T H) (hj : j < 14) (hfl : XdFor j fl n)
    (hv : σ[i]? = some (some (.ref p))) (hp : H p = some (.lst (fs.map V.ref))) (hfs : ∀ f ∈ fs, LamR X σ H j fl f) (hlen : fs.length ≤ 100)
    (hw : ∀ H1, LamX.ExtN H H1 → EvDA tw σ H1 dw) (hdw : .tup dw = wOut j n) (L : LmS X.N X.env.scope scope) (hk : ∀ x, X.env.kindOf x = X.env.scope.names.lookup x)
    (hbody : ∀ (A : Around) (outer : List Env) (s : Shared) (H : Hp) (E : XK) (f c' : Addr), Room 11 (A.deeper (LamX.lamEnv X scope s.heap.objs.size f c')) → PE (LamX.lamCx X A outer s H E scope f c') body (t E))
    (hr : ∀ H1 (E : XK), LamX.ExtN H H1 → (∀ C d H2, X.mg (Str.ofString (wNames.getD j "")) = some (.ref C) → Ex H1 H2 → XdIs fl d H1 H2 → E (.ref C) d H2) → ExR (t E) σ H1)
    (k : ∀ H1, LamX.ExtN H H1 → LamX.Tabs T H1 → D'.nx σ H1) : tIfS (tNot (tB (tCallC X (sp__law_all X.prog X.w X.K X.mg X.base) (tCons (tOp rCat (tVar i) (tLst (tCons (tMkLam X T params body scope) tNil))) (tCons (tTup tw) tNil))))) tu tNext D' σ H := by
  refine ⟨.ref p, hv, hT, fun f H1 eN nf t1 l1 => ⟨by show 1 ≤ sizeLine; decide, fun p' hp' => ?_⟩⟩
  have ep' : Ex H1 (upd H1 p' (.lst [.ref f])) := Ex.new hp'
  have hpp : (upd H1 p' (.lst [.ref f])) p = some (.lst (fs.map V.ref)) := ep' _ _ (eN _ _ hp fun _ z => by cases z)
  refine ⟨p, p', _, _, rfl, rfl, hpp, upd_same, by rw [List.length_map]; exact sz_of (by show fs.length + 1 ≤ 100000; omega), fun q hq => ?_⟩
  have eq : Ex _ (upd (upd H1 p' (.lst [.ref f])) q (.lst (fs.map V.ref ++ [.ref f]))) := Ex.new hq
  have hq1 : (upd (upd H1 p' (.lst [.ref f])) q (.lst (fs.map V.ref ++ [.ref f]))) q = some (.lst ((fs ++ [f]).map V.ref)) := by rw [List.map_append]; exact upd_same
  have e12 := ep'.trans eq
  generalize (upd (upd H1 p' (.lst [.ref f])) q (.lst (fs.map V.ref ++ [.ref f]))) = H2 at *
  have eN2 : LamX.ExtN H H2 := eN.trans (.of e12)
  refine ed_tup (hw H2 eN2) (by have := congrArg (fun d => match d with | D.tup ds => ds.length | _ => 0) hdw; simp only [wOut] at this; rw [this]; simp) H2 (Ex.refl _) _ fun v2 H3 e3 r3 => ?_
  intro cs C hf
  rw [hdw] at r3
  have e13 := e12.trans e3
  have eN3 : LamX.ExtN H H3 := eN.trans (.of e13)
  have t3 : LamX.Tabs T H3 := t1.ext e13
  have l3 := l1.mono (.of e13)
  have rl : Rp (lay H3 cs) (wOut j n) v2 := by
    have ex : Tx H3 (lay H3 cs) := fun b xs hb => by rw [lay_out (out_of hf hb)]; exact hb
    exact Rp.tx ex rfl r3
  refine ⟨q, fs ++ [f], v2, j, fl, n, rfl, hj, hfl, by rw [lay_out (out_of hf (e3 _ _ hq1))]; exact e3 _ _ hq1, fun g hg => ?_, rl, fun H' e' => ⟨laid_lay.ex e', true, rfl, ?_⟩⟩
  · rcases List.mem_append.mp hg with hg | hg
    · obtain ⟨pa, bo, sc, tt, a1, a2, a3, a4⟩ := (hfs g hg).mono eN3
      exact lam_raises (k := 11) a1 C hf a2 hk a3 fun H4 E e4 q4 => a4 H4 E (.of e4) q4
    · rw [List.mem_singleton.mp hg]
      exact lam_raises (k := 11) l3 C hf L hk hbody fun H4 E e4 q4 => hr H4 E (eN3.trans (.of e4)) q4
  · have eb := ex_bar hf e'
    exact k _ (eN3.trans (.of eb)) (t3.ext eb)

end
end HW

set_option Elab.async false
set_option linter.all false
set_option maxRecDepth 100000
namespace HW
open PySem PySem.Spec PyProof.Rows L2 Evl SX
section
variable {P : Program} {w : World} {K : PySem.W.Frag} {mg : Str → Option Value} {base : Heap}
set_option maxHeartbeats 4000000
/-! ### edits that can't be -/
theorem noEd_of {l : List Nat} {b e p : D} (h : placeB l b = false ∨ placeB l e = false ∨ txtB p = false) : NoEd l (.tup [b, e, p]) := fun x hc z => by
  injection z with z
  injection z with z1 z
  injection z with z2 z
  injection z with z3 _
  have c1 := hc.1
  have c2 := hc.2.1
  rw [z1, z2, z3, place_pos (by omega), place_pos (by omega), txtB_of hc] at h
  rcases h with h | h | h <;> cases h
theorem rws_one {l : List Nat} (h1 : (rws l).length = 1) (h2 : ((rws l).getD 0 []).length = 0) : l = [] := by
  cases l with
  | nil => rfl
  | cons c s =>
    exfalso
    have e : rws (c :: s) = rwsA [] (c :: s) := rfl
    rw [rwsA] at e
    by_cases hc : c = 10
    · rw [if_pos hc] at e
      rw [e, List.length_cons] at h1
      obtain ⟨t, r, e'⟩ := rwsA_head s []
      rw [e'] at h1
      simp at h1
    · rw [if_neg hc] at e
      obtain ⟨t, r, e'⟩ := rwsA_head s ([] ++ [c])
      rw [e, e'] at h2
      simp at h2
def lastD (l : List Nat) : D := .tup [.int (((rws l).length : Int) - 1), .int (((rws l).getD ((rws l).length - 1) []).length : Nat)]
theorem noEd_last {l : List Nat} {p : D} (hl : l ≠ []) : NoEd l (.tup [lastD l, .tup [.int 0, .int 0], p]) := fun x hc z => by
  injection z with z
  injection z with z1 z
  injection z with z2 z
  have c1 := hc.1
  have c2 := hc.2.1
  unfold pl at z2
  injection z2 with z2
  injection z2 with b1 b2
  injection b2 with b2 _
  injection b1 with b1
  injection b2 with b2
  have i2 : 0 = x.b := pos_inj (s := l) (by omega) c2 (Prod.ext (by rw [pos_zero]; show 0 = _; omega) (by rw [pos_zero]; show 0 = _; omega))
  have i1 : x.a = 0 := by omega
  unfold lastD pl at z1
  injection z1 with z1
  injection z1 with a1 a2
  injection a2 with a2 _
  injection a1 with a1
  injection a2 with a2
  rw [i1, pos_zero] at a1 a2
  have h1 : (rws l).length = 1 := by
    have a1 : ((rws l).length : Int) - 1 = ((0 : Nat) : Int) := a1
    omega
  have h2 : ((rws l).getD ((rws l).length - 1) []).length = 0 := by
    have a2 : ((((rws l).getD ((rws l).length - 1) []).length : Nat) : Int) = ((0 : Nat) : Int) := a2
    omega
  rw [h1] at h2
  exact hl (rws_one h1 h2)
theorem noEd_full {l : List Nat} (hl : l.length ≤ 200) : NoEd l (.tup [.tup [.int 0, .int 0], .tup [.int 0, .int 0], .str (List.replicate (201 - l.length) 97)]) := fun x hc z => by
  injection z with z
  injection z with z1 z
  injection z with z2 z
  injection z with z3 _
  have c1 := hc.1
  have c2 := hc.2.1
  unfold pl at z1 z2
  injection z2 with z2
  injection z2 with b1 b2
  injection b2 with b2 _
  injection b1 with b1
  injection b2 with b2
  injection z3 with z3
  have i2 : 0 = x.b := pos_inj (s := l) (by omega) c2 (Prod.ext (by rw [pos_zero]; show 0 = _; omega) (by rw [pos_zero]; show 0 = _; omega))
  have c4 : (put l x.a x.b x.q).length ≤ 200 := hc.2.2.2
  rw [put_len c1 c2, ← z3, List.length_replicate] at c4
  omega
structure OddOk (l : List Nat) (d : D) : Prop where
  no : NoEd l d
  sm : smallE d
  tp : ∃ es, d = .tup es
  nl : nl d = true
def OddL (l : List Nat) (ds : List D) : Prop := (∀ d ∈ ds, OddOk l d) ∧ ds.length ≤ 100
theorem OddL.tup {l : List Nat} {ds : List D} (h : OddL l ds) : tupL ds := ⟨fun d hd => (h.1 d hd).tp, nls_all fun d hd => (h.1 d hd).nl⟩
theorem OddL.app {l : List Nat} {ds es : List D} (h1 : OddL l ds) (h2 : OddL l es) (hl : ds.length + es.length ≤ 100) : OddL l (ds ++ es) := ⟨fun d hd => (List.mem_append.mp hd).elim (h1.1 d) (h2.1 d), by rw [List.length_append]; exact hl⟩
theorem oddOk3 {l : List Nat} {b e p : D} (h : NoEd l (.tup [b, e, p])) (hn : HW.nl b = true ∧ HW.nl e = true ∧ HW.nl p = true) (hp : ∀ q, p = .str q → q.length ≤ 1000) : OddOk l (.tup [b, e, p]) := ⟨h, fun b' e' q z => by
  injection z with z
  injection z with _ z
  injection z with _ z
  injection z with z _
  exact hp q z, ⟨_, rfl⟩, by rw [HW.nl, nls, nls, nls, nls, hn.1, hn.2.1, hn.2.2]; rfl⟩
def pre1 (l : List Nat) (e : Ed) (f : Nat) : List D := [.tup [.tup [.int (((rws l).length : Int) + f), .int 0], lastD l, .str e.q], .tup [pl (pos l e.a), .tup [.int 0, .int ((((rws l).getD 0 []).length : Int) + 1 + f)], .str e.q]]
def odd1 (l : List Nat) (e : Ed) : D := .tup [.tup [.int (0 - 1), .int 0], pl (pos l e.b), .str e.q]
def odd2 (l : List Nat) (e : Ed) (f : Nat) : List D := [.tup [pl (pos l e.a), pl (pos l e.b), .str (List.replicate (41 + f % 9) 97)], .tup [pl (pos l e.a), pl (pos l e.b), .str (e.q.take 39 ++ [9])], .tup [pl (pos l e.a), pl (pos l e.b)]]
def odd3 (l : List Nat) (e : Ed) : List D := [.tup [pl (pos l e.a), pl (pos l e.b), .str e.q, .str e.q], .tup [], .tup [pl (pos l e.a), .tup [.int 0], .str e.q], .tup [pl (pos l e.a), pl (pos l e.b), .int 0], .tup [.int 0, pl (pos l e.b), .str e.q]]
def odd4 (l : List Nat) (e : Ed) : D := .tup [pl (pos l e.a), .tup [.int 0, .int (0 - 1)], .str e.q]
theorem placeB_no' {l : List Nat} {r c : Int} (h : r < 0 ∨ ((rws l).length : Int) ≤ r ∨ c < 0 ∨ (((rws l).getD r.toNat []).length : Int) < c) : placeB l (.tup [.int r, .int c]) = false := by
  cases hh : placeB l (.tup [.int r, .int c]) with
  | false => rfl
  | true =>
    have hh : ((decide (0 ≤ r) && decide (r < ((rws l).length : Int))) && (decide (0 ≤ c) && decide (c ≤ (((rws l).getD r.toNat []).length : Int)))) = true := hh
    simp only [Bool.and_eq_true, decide_eq_true_eq] at hh
    omega
theorem str1000 {q q' : List Nat} (h : q.length ≤ 40) : D.str q = .str q' → q'.length ≤ 1000 := fun z => by
  injection z with z
  rw [← z]
  omega
theorem odd_all {l : List Nat} {e : Ed} {f : Nat} (hq : e.q.length ≤ 40) : OddL l ((((pre1 l e f ++ [odd1 l e]) ++ odd2 l e f) ++ odd3 l e) ++ [odd4 l e]) := by
  have nlp : ∀ p : Nat × Nat, HW.nl (pl p) = true := fun _ => rfl
  have o1 : OddL l (pre1 l e f) := ⟨fun d hd => by
    unfold pre1 at hd
    rcases List.mem_cons.mp hd with rfl | hd
    · exact oddOk3 (noEd_of (.inl (placeB_no' (.inr (.inl (by omega)))))) ⟨rfl, rfl, rfl⟩ fun q => str1000 hq
    · rw [List.mem_singleton.mp hd]
      exact oddOk3 (noEd_of (.inr (.inl (placeB_no' (.inr (.inr (.inr (by show (((rws l).getD 0 []).length : Int) < _; omega)))))))) ⟨rfl, rfl, rfl⟩ fun q => str1000 hq, by unfold pre1; simp⟩
  have o2 : OddL l [odd1 l e] := ⟨fun d hd => by
    rw [List.mem_singleton.mp hd]
    exact oddOk3 (noEd_of (.inl (placeB_no' (.inl (by omega))))) ⟨rfl, rfl, rfl⟩ fun q => str1000 hq, by simp⟩
  have o3 : OddL l (odd2 l e f) := ⟨fun d hd => by
    unfold odd2 at hd
    rcases List.mem_cons.mp hd with rfl | hd
    · refine oddOk3 (noEd_of (.inr (.inr ?_))) ⟨rfl, rfl, rfl⟩ fun q z => by
        injection z with z
        rw [← z, List.length_replicate]
        omega
      show (decide _ && _) = false
      rw [List.length_replicate, decide_eq_false (by omega)]
      rfl
    rcases List.mem_cons.mp hd with rfl | hd
    · refine oddOk3 (noEd_of (.inr (.inr ?_))) ⟨rfl, rfl, rfl⟩ fun q z => by
        injection z with z
        rw [← z, List.length_append, List.length_take]
        simp
        omega
      show (_ && (e.q.take 39 ++ [9]).all sgn) = false
      rw [List.all_append, show [9].all sgn = false from by decide, Bool.and_false, Bool.and_false]
    · rw [List.mem_singleton.mp hd]
      exact ⟨(fun x _ z => by unfold edD at z; injection z with z; injection z with _ z; injection z with _ z; cases z), (fun _ _ _ z => by injection z with z; injection z with _ z; injection z with _ z; cases z), ⟨_, rfl⟩, rfl⟩, by unfold odd2; simp⟩
  have o4 : OddL l (odd3 l e) := ⟨fun d hd => by
    unfold odd3 at hd
    rcases List.mem_cons.mp hd with rfl | hd
    · exact ⟨(fun x _ z => by unfold edD at z; injection z with z; injection z with _ z; injection z with _ z; injection z with _ z; cases z), (fun _ _ _ z => by injection z with z; injection z with _ z; injection z with _ z; injection z with _ z; cases z), ⟨_, rfl⟩, rfl⟩
    rcases List.mem_cons.mp hd with rfl | hd
    · exact ⟨(fun x _ z => by unfold edD at z; cases z), (fun _ _ _ z => by cases z), ⟨_, rfl⟩, rfl⟩
    rcases List.mem_cons.mp hd with rfl | hd
    · exact oddOk3 (noEd_of (.inr (.inl rfl))) ⟨rfl, rfl, rfl⟩ fun q => str1000 hq
    rcases List.mem_cons.mp hd with rfl | hd
    · exact oddOk3 (noEd_of (.inr (.inr rfl))) ⟨rfl, rfl, rfl⟩ fun q z => by cases z
    · rw [List.mem_singleton.mp hd]
      exact oddOk3 (noEd_of (.inl rfl)) ⟨rfl, rfl, rfl⟩ fun q => str1000 hq, by unfold odd3; simp⟩
  have o5 : OddL l [odd4 l e] := ⟨fun d hd => by
    rw [List.mem_singleton.mp hd]
    exact oddOk3 (noEd_of (.inr (.inl (placeB_no' (.inr (.inr (.inl (by omega)))))))) ⟨rfl, rfl, rfl⟩ fun q => str1000 hq, by simp⟩
  exact (((o1.app o2 (by show 2 + 1 ≤ 100; decide)).app o3 (by show 3 + 3 ≤ 100; decide)).app o4 (by show 6 + 5 ≤ 100; decide)).app o5 (by show 11 + 1 ≤ 100; decide)
def sp__law_odd (K : PySem.W.Frag) : Sp := fun vs H Q _ => ∃ a s ns, vs = [.ref a, .str (S s)] ∧ okT 200 s ∧ StO K ns a H ∧ ∀ d v H', OddOk s d → Rp H' d v → ExB a H H' → StO K ns a H' → Q v H'
theorem sc__law_odd : FnScope ["_law_state", "_law_sheet_here", "_law_begin", "_law_end", "_law_put_here", "_law_far", "_law_rows", "_law_last", "_law_some"] ["_law_state", "_law_sheet_here"] (defScope (topS 52)) := ⟨rfl, rfl, rfl, by decide +kernel, rfl, by decide +kernel, by decide +kernel⟩
theorem ok__law_odd {f : Addr} {fd : FuncData} (F : Fun K "_law_odd" "_law_odd" (topS 52) f fd) (m_len : mg "len" = none) (d__law_edit : Df P w K mg base "_law_edit" ["_law_state", "_law_sheet_here"] 4 (sp__law_edit K)) (d__law_drawn : Df P w K mg base "_law_drawn" ["_law_state", "_law_many"] 1 (spDrawn K)) : FnOk P w K mg base CX0 5 f fd ["_law_state", "_law_sheet_here"] (sp__law_odd K) := by
  refine F.ok sc__law_odd (fun vs H Q E h => by obtain ⟨a, s, ns, rfl, _⟩ := h; rfl) (fun cdv A outer s H vs Q E hr h => ?_)
  obtain ⟨a, l, ns, rfl, hl, hs, q⟩ := h
  have hl1 := hl.1
  refine ⟨_, (pss_cons (ps_asg (d__law_edit.pe (hr.mono (by decide)) (pa_cons (pv 0) (pa_cons (pv 1) pa_nil))) (pg_tup rfl (pgs_cons (pg_name (i := 2) sc__law_odd.nd rfl (.inl rfl)) (pgs_cons (pg_name (i := 3) sc__law_odd.nd rfl (.inl rfl)) (pgs_cons (pg_name (i := 4) sc__law_odd.nd rfl (.inl rfl)) pgs_nil)))))
      (pss_cons (ps_set (i := 5) sc__law_odd.nd rfl (.inl rfl) (d__law_drawn.pe (hr.mono (by decide)) (pa_cons (pv 0) (pa_cons (pe_op op_pow pe_int pe_int) pa_nil))))
      (pss_cons (ps_set (i := 6) sc__law_odd.nd rfl (.inl rfl) (pe_split (pv 1) pe_str))
      (pss_cons (ps_set (i := 7) sc__law_odd.nd rfl (.inl rfl) (pe_tup (pa_cons (pe_op op_sub (pe_callB call_len_seq (by rfl) m_len PySem.boot_len (pa_cons (pv 6) pa_nil)) pe_int) (pa_cons (pe_callB call_len_str (by rfl) m_len PySem.boot_len (pa_cons (pe_ix (r := rIxL K) ix_list (pv 6) (pe_un un_neg pe_int) (fun _ _ => rfl)) pa_nil)) pa_nil))))
      (pss_cons (ps_set (i := 8) sc__law_odd.nd rfl (.inl rfl) (pe_lst (pa_cons (pe_tup (pa_cons (pe_tup (pa_cons (pe_op op_add (pe_callB call_len_seq (by rfl) m_len PySem.boot_len (pa_cons (pv 6) pa_nil)) (pv 5)) (pa_cons pe_int pa_nil))) (pa_cons (pv 7) (pa_cons (pv 4) pa_nil)))) (pa_cons (pe_tup (pa_cons (pv 2) (pa_cons (pe_tup (pa_cons pe_int (pa_cons (pe_op op_add (pe_op op_add (pe_callB call_len_str (by rfl) m_len PySem.boot_len (pa_cons (pe_ix (r := rIxL K) ix_list (pv 6) pe_int (fun _ _ => rfl)) pa_nil)) pe_int) (pv 5)) pa_nil))) (pa_cons (pv 4) pa_nil)))) pa_nil))))
      (pss_cons (ps_expr (pe_bm PySem.F.plainAttrs_list PySem.F.slot_list_append PySem.F.type_list_append mt_append (pv 8) (pa_cons (pe_tup (pa_cons (pe_tup (pa_cons (pe_op op_sub pe_int pe_int) (pa_cons pe_int pa_nil))) (pa_cons (pv 3) (pa_cons (pv 4) pa_nil)))) pa_nil)))
      (pss_cons (ps_set (i := 8) sc__law_odd.nd rfl (.inl rfl) (pe_op op_cat (pv 8) (pe_lst (pa_cons (pe_tup (pa_cons (pv 2) (pa_cons (pv 3) (pa_cons (pe_op op_mulS pe_str (pe_op op_sub (pe_op op_add pe_int (pv 5)) (pe_op op_mul (pe_op op_fdivW (pv 5) pe_int) pe_int))) pa_nil)))) (pa_cons (pe_tup (pa_cons (pv 2) (pa_cons (pv 3) (pa_cons (pe_op op_add_str (pe_slice sl_str (pv 4) po_none (po_some pe_int)) pe_str) pa_nil)))) (pa_cons (pe_tup (pa_cons (pv 2) (pa_cons (pv 3) pa_nil))) pa_nil))))))
      (pss_cons (ps_set (i := 8) sc__law_odd.nd rfl (.inl rfl) (pe_op op_cat (pv 8) (pe_lst (pa_cons (pe_tup (pa_cons (pv 2) (pa_cons (pv 3) (pa_cons (pv 4) (pa_cons (pv 4) pa_nil))))) (pa_cons (pe_tup pa_nil) (pa_cons (pe_tup (pa_cons (pv 2) (pa_cons (pe_tup (pa_cons pe_int pa_nil)) (pa_cons (pv 4) pa_nil)))) (pa_cons (pe_tup (pa_cons (pv 2) (pa_cons (pv 3) (pa_cons pe_int pa_nil)))) (pa_cons (pe_tup (pa_cons pe_int (pa_cons (pv 3) (pa_cons (pv 4) pa_nil)))) pa_nil))))))))
      (pss_cons (ps_expr (pe_bm PySem.F.plainAttrs_list PySem.F.slot_list_append PySem.F.type_list_append mt_append (pv 8) (pa_cons (pe_tup (pa_cons (pv 2) (pa_cons (pe_tup (pa_cons pe_int (pa_cons (pe_op op_sub pe_int pe_int) pa_nil))) (pa_cons (pv 4) pa_nil)))) pa_nil)))
      (Evl.pss_cut (ps_if (pt_cmpR op_ne (pv 1) pe_str (nomark _))
        (pss_one (ps_set (i := 8) sc__law_odd.nd rfl (.inl rfl) (pe_op op_cat (pv 8) (pe_op op_rep (pe_lst (pa_cons (pe_tup (pa_cons (pv 7) (pa_cons (pe_tup (pa_cons pe_int (pa_cons pe_int pa_nil))) (pa_cons (pv 4) pa_nil)))) pa_nil)) pe_int))))
        pss_nil)
      (Evl.pss_cut (ps_if (pt_cmpR op_gt (pe_callB call_len_str (by rfl) m_len PySem.boot_len (pa_cons (pv 1) pa_nil)) pe_int (nomark _))
        (pss_one (ps_set (i := 8) sc__law_odd.nd rfl (.inl rfl) (pe_op op_cat (pv 8) (pe_op op_rep (pe_lst (pa_cons (pe_tup (pa_cons (pe_tup (pa_cons pe_int (pa_cons pe_int pa_nil))) (pa_cons (pe_tup (pa_cons pe_int (pa_cons pe_int pa_nil))) (pa_cons (pe_op op_mulS pe_str (pe_op op_sub pe_int (pe_callB call_len_str (by rfl) m_len PySem.boot_len (pa_cons (pv 1) pa_nil)))) pa_nil)))) pa_nil)) pe_int))))
        pss_nil)
      (pss_one (ps_ret (pe_ix (r := rIxL K) ix_list (pv 8) (d__law_drawn.pe (hr.mono (by decide)) (pa_cons (pv 0) (pa_cons (pe_callB call_len_seq (by rfl) m_len PySem.boot_len (pa_cons (pv 8) pa_nil)) pa_nil))) (fun _ _ => rfl))))))))))))))), ?_⟩
  refine qs_edit3 (p := 0) (q := 1) rfl rfl hl hs fun e vb ve H2 hc x2 s2 rb re => ?_
  have hq40 : e.q.length ≤ 40 := hc.2.2.1.1
  refine qs_asg (es_drawn (m := 10 ^ 6) rfl (es_of (fun _ _ => ev_is (ev_op ev_c ev_c (rv_I ⟨by decide, by decide, by decide⟩)) rfl) rfl) (by decide) (by decide)) s2 fun v5 H3 x3 s3 p3 => ?_
  obtain ⟨f, rfl, f0, f1⟩ := p3
  obtain ⟨f, rfl⟩ := Int.eq_ofNat_of_zero_le f0
  have rb := Rp.tx (x3.tx s2) rfl rb
  have re := Rp.tx (x3.tx s2) rfl re
  have h0 : 0 < (rws l).length := by
    obtain ⟨t, r, e⟩ := rwsA_head l []
    have : rws l = ([] ++ t) :: r := e
    rw [this]
    simp
  have hgl : ∀ i, i < (rws l).length → ((rws l).getD i []).length ≤ l.length := fun i hi => by rw [List.getD_eq_getElem?_getD, List.getElem?_eq_getElem hi]; exact rws_len (List.getElem_mem hi)
  have hgr : ∀ i, i < (rws l).length → ((rws l).map D.str)[i]? = some (.str ((rws l).getD i [])) := fun i hi => by rw [List.getElem?_map, List.getD_eq_getElem?_getD, List.getElem?_eq_getElem hi]; rfl
  have g0 := hgl 0 h0
  have gL := hgl ((rws l).length - 1) (by omega)
  refine qd_asg (ed_split (ev_var rfl) (by omega)) fun v6 H4 e4 r6 => ?_
  refine qd_asg (d := lastD l) (ed_tup (eda_cons (ed_i (ev_op (ev_is (ed_lenL (ed_var rfl r6)) (by rw [List.length_map])) ev_c rv_I0)) (eda_cons (ed_i (ev_lenS (EvD.s (ed_ixL (ed_var rfl r6) (ev_un ev_c ru_neg) (by rw [atI_m1 (by rw [List.length_map]; exact h0), List.length_map]; exact hgr _ (by omega)))) (by omega))) eda_nil))) fun v7 H5 e5 r7 => ?_
  have e45 := e4.trans e5
  have s5 := s3.mono e45
  have x5 : ExB a H H5 := (x2.trans x3).trans (.of e45)
  have r6 := r6.ex e5
  have rb := rb.ex e45
  have re := re.ex e45
  refine qf_asg (d := .lst (pre1 l e f)) (ef_lst (eda_cons (ed_tup (eda_cons (ed_tup (eda_cons (ed_i (ev_op (ev_is (ed_lenL (ed_var rfl r6)) (by rw [List.length_map])) (ev_var rfl) rv_I0)) (eda_cons (ed_i ev_c) eda_nil))) (eda_cons (ed_var rfl r7) (eda_cons (ed_s (ev_var rfl)) eda_nil)))) (eda_cons (ed_tup (eda_cons (ed_var rfl rb) (eda_cons (ed_tup (eda_cons (ed_i ev_c) (eda_cons (ed_i (ev_op (ev_op (ev_lenS (EvD.s (ed_ixL (ed_var rfl r6) ev_c (atI_nat (j := 0) (hgr 0 h0)))) (by omega)) ev_c rv_I0) (ev_var rfl) rv_I0)) eda_nil))) (eda_cons (ed_s (ev_var rfl)) eda_nil)))) eda_nil)) (by show 2 ≤ 100000; decide)) fun v8 H6 e6 r8 f8 => ?_
  obtain ⟨p8, rfl, hp8⟩ := f8 _ rfl
  obtain ⟨p', vs8, hv8, g1, g2⟩ := rp_lst.mp r8
  cases hv8
  have ne_a : ∀ {Hk : Hp} {p : Addr}, StO K ns a Hk → Hk p = none → p ≠ a := fun s hp z => by
    obtain ⟨_, _, _, _, h1, _⟩ := s.ex
    rw [z, h1] at hp
    cases hp
  have mutE : ∀ {Hk H' : Hp} {p : Addr} {o : HO}, ExB a H Hk → Hk p = none → Ex Hk H' → ExB a H (upd H' p o) := fun x hp e b o n hb => by
    have := x b o n hb
    rw [upd_ne (ne_of_none this hp)]
    exact e _ _ this
  refine qd_app (d := odd1 l e) g1 (ev_var rfl) (ed_tup (eda_cons (ed_tup (eda_cons (ed_i (ev_op ev_c ev_c rv_I0)) (eda_cons (ed_i ev_c) eda_nil))) (eda_cons (ed_var rfl (re.ex e6)) (eda_cons (ed_s (ev_var rfl)) eda_nil)))) (by rw [rps_len g2]; show 2 < 100000; decide) fun w H7 e7 rw7 => ?_
  have g17 := e7 _ _ g1
  have tx : Tx H7 (upd H7 p8 (.lst (vs8 ++ [w]))) := Tx.lst g17
  have r8 : Rp (upd H7 p8 (.lst (vs8 ++ [w]))) (.lst (pre1 l e f ++ [odd1 l e])) (.ref p8) := rp_lst.mpr ⟨p8, _, rfl, upd_same, rps_app (Rps.tx tx rfl (g2.ex e7)) (rps_cons.mpr ⟨w, [], rfl, Rp.tx tx rfl rw7, rps_nil.mpr rfl⟩)⟩
  have s8 := (s5.mono (e6.trans e7)).upd (o := .lst (vs8 ++ [w])) g17 (ne_a s5 hp8)
  have x8 : ExB a H (upd H7 p8 (.lst (vs8 ++ [w]))) := mutE x5 hp8 (e6.trans e7)
  have rb := Rp.tx tx rfl (rb.ex (e6.trans e7))
  have re := Rp.tx tx rfl (re.ex (e6.trans e7))
  have r7 := Rp.tx tx rfl (r7.ex (e6.trans e7))
  generalize upd H7 p8 (.lst (vs8 ++ [w])) = H8 at *
  refine qd_asg (d := .lst ((pre1 l e f ++ [odd1 l e]) ++ odd2 l e f)) (ed_cat (ed_var rfl r8) (ed_lst (eda_cons (ed_tup (eda_cons (ed_var rfl rb) (eda_cons (ed_var rfl re) (eda_cons (ed_s (ev_rep (c := 97) (n := 41 + f % 9) (ev_c (v := .str (S [97]))) (ev_is (ev_op (ev_op ev_c (ev_var rfl) rv_I0) (ev_op (ev_op (ev_var rfl) ev_c (rv_I (wide_div (b := 10) (by decide) (by decide) (by decide) (by decide)))) ev_c (rv_I (.inr ⟨by decide, by decide⟩))) rv_I0) (by show V.int (41 + (f : Int) - (f : Int) / 9 * 9) = V.int ((41 + f % 9 : Nat) : Int); congr 1; omega)) (by omega) (by omega))) eda_nil)))) (eda_cons (ed_tup (eda_cons (ed_var rfl rb) (eda_cons (ed_var rfl re) (eda_cons (ed_s (ev_op (ev_to (n := 39) (ev_var rfl) ev_c (by omega)) (ev_c (v := .str (S [9]))) (rv_addS (by rw [List.length_take]; simp; omega)))) eda_nil)))) (eda_cons (ed_tup (eda_cons (ed_var rfl rb) (eda_cons (ed_var rfl re) eda_nil))) eda_nil))) (by show 3 ≤ 100000; decide)) (by show 3 + 3 ≤ 100000; decide)) fun v9 H9 e9 r9 => ?_
  refine qf_asg (d := .lst (((pre1 l e f ++ [odd1 l e]) ++ odd2 l e f) ++ odd3 l e)) (ef_cat (ed_var rfl r9) (ed_lst (eda_cons (ed_tup (eda_cons (ed_var rfl (rb.ex e9)) (eda_cons (ed_var rfl (re.ex e9)) (eda_cons (ed_s (ev_var rfl)) (eda_cons (ed_s (ev_var rfl)) eda_nil))))) (eda_cons (ed_tup eda_nil) (eda_cons (ed_tup (eda_cons (ed_var rfl (rb.ex e9)) (eda_cons (ed_tup (eda_cons (ed_i ev_c) eda_nil)) (eda_cons (ed_s (ev_var rfl)) eda_nil)))) (eda_cons (ed_tup (eda_cons (ed_var rfl (rb.ex e9)) (eda_cons (ed_var rfl (re.ex e9)) (eda_cons (ed_i ev_c) eda_nil)))) (eda_cons (ed_tup (eda_cons (ed_i ev_c) (eda_cons (ed_var rfl (re.ex e9)) (eda_cons (ed_s (ev_var rfl)) eda_nil)))) eda_nil))))) (by show 5 ≤ 100000; decide)) (by show 6 + 5 ≤ 100000; decide)) fun v10 H10 e10 r10 f10 => ?_
  obtain ⟨p10, rfl, hp10⟩ := f10 _ rfl
  obtain ⟨p', vs10, hv10, k1, k2⟩ := rp_lst.mp r10
  cases hv10
  refine qd_app (d := odd4 l e) k1 (ev_var rfl) (ed_tup (eda_cons (ed_var rfl ((rb.ex e9).ex e10)) (eda_cons (ed_tup (eda_cons (ed_i ev_c) (eda_cons (ed_i (ev_op ev_c ev_c rv_I0)) eda_nil))) (eda_cons (ed_s (ev_var rfl)) eda_nil)))) (by rw [rps_len k2]; show 11 < 100000; decide) fun w11 H11 e11 rw11 => ?_
  have k11 := e11 _ _ k1
  have tx : Tx H11 (upd H11 p10 (.lst (vs10 ++ [w11]))) := Tx.lst k11
  have r12 : Rp (upd H11 p10 (.lst (vs10 ++ [w11]))) (.lst ((((pre1 l e f ++ [odd1 l e]) ++ odd2 l e f) ++ odd3 l e) ++ [odd4 l e])) (.ref p10) := rp_lst.mpr ⟨p10, _, rfl, upd_same, rps_app (Rps.tx tx rfl (k2.ex e11)) (rps_cons.mpr ⟨w11, [], rfl, Rp.tx tx rfl rw11, rps_nil.mpr rfl⟩)⟩
  have s9 := s8.mono e9
  have s12 := (s9.mono (e10.trans e11)).upd (o := .lst (vs10 ++ [w11])) k11 (ne_a s9 hp10)
  have x12 : ExB a H (upd H11 p10 (.lst (vs10 ++ [w11]))) := mutE (x8.trans (.of e9)) hp10 (e10.trans e11)
  have r7 := Rp.tx tx rfl (r7.ex (e9.trans (e10.trans e11)))
  generalize upd H11 p10 (.lst (vs10 ++ [w11])) = H12 at *
  have hall := odd_all (l := l) (f := f) hq40
  have hlen0 : ((((pre1 l e f ++ [odd1 l e]) ++ odd2 l e f) ++ odd3 l e) ++ [odd4 l e]).length = 12 := rfl
  generalize (((pre1 l e f ++ [odd1 l e]) ++ odd2 l e f) ++ odd3 l e) ++ [odd4 l e] = ds0 at *
  refine q_cut (M := fun σ' H' => ∃ ds v8, σ' = [some (.ref a), some (.str (S l)), some vb, some ve, some (.str (S e.q)), some (.int (f : Int)), some v6, some v7, some v8] ∧ OddL l ds ∧ 0 < ds.length ∧ ds.length ≤ 15 ∧ Rp H' (.lst ds) v8 ∧ ExB a H H' ∧ StO K ns a H') ?_ ?_
  · refine s_when (et_test (ev_op (ev_var rfl) (ev_c (v := .str (S []))) rv_neS)) (fun hb H13 e13 => ?_) fun hb H13 e13 => ⟨ds0, _, rfl, hall, by omega, by omega, r12.ex e13, x12.trans (.of e13), s12.mono e13⟩
    have hne : l ≠ [] := by
      intro z
      rw [z] at hb
      cases hb
    refine sd_asg (d := .lst (ds0 ++ List.replicate 3 (.tup [lastD l, .tup [.int 0, .int 0], .str e.q]))) (ed_cat (ed_var rfl (r12.ex e13)) (by rw [← rep_one]; exact ed_rep (ed_lst (eda_cons (ed_tup (eda_cons (ed_var rfl (r7.ex e13)) (eda_cons (ed_tup (eda_cons (ed_i ev_c) (eda_cons (ed_i ev_c) eda_nil))) (eda_cons (ed_s (ev_var rfl)) eda_nil)))) eda_nil)) ev_c (by simp) (by decide)) (by rw [List.length_replicate]; omega)) fun v14 H14 e14 r14 => ⟨_, v14, rfl, hall.app ⟨fun d hd => by rw [List.eq_of_mem_replicate hd]; exact oddOk3 (noEd_last hne) ⟨rfl, rfl, rfl⟩ fun q => str1000 hq40, by rw [List.length_replicate]; decide⟩ (by rw [List.length_replicate]; omega), by rw [List.length_append]; omega, by rw [List.length_append, List.length_replicate]; omega, r14, x12.trans (.of (e13.trans e14)), s12.mono (e13.trans e14)⟩
  rintro σ' H13 ⟨ds1, v8, rfl, ho1, hp1, hl2, r13, x13, s13⟩
  refine q_cut (M := fun σ' H' => ∃ ds v8, σ' = [some (.ref a), some (.str (S l)), some vb, some ve, some (.str (S e.q)), some (.int (f : Int)), some v6, some v7, some v8] ∧ OddL l ds ∧ 0 < ds.length ∧ Rp H' (.lst ds) v8 ∧ ExB a H H' ∧ StO K ns a H') ?_ ?_
  · refine s_when (et_test (ev_op (ev_lenS (ev_var rfl) (by omega)) ev_c rv_I0)) (fun hb H14 e14 => ?_) fun hb H14 e14 => ⟨ds1, _, rfl, ho1, hp1, r13.ex e14, x13.trans (.of e14), s13.mono e14⟩
    have hgt : (160 : Int) < (l.length : Int) := of_decide_eq_true hb
    refine sd_asg (d := .lst (ds1 ++ List.replicate 3 (.tup [.tup [.int 0, .int 0], .tup [.int 0, .int 0], .str (List.replicate (201 - l.length) 97)]))) (ed_cat (ed_var rfl (r13.ex e14)) (by rw [← rep_one]; exact ed_rep (ed_lst (eda_cons (ed_tup (eda_cons (ed_tup (eda_cons (ed_i ev_c) (eda_cons (ed_i ev_c) eda_nil))) (eda_cons (ed_tup (eda_cons (ed_i ev_c) (eda_cons (ed_i ev_c) eda_nil))) (eda_cons (ed_s (ev_rep (c := 97) (n := 201 - l.length) (ev_c (v := .str (S [97]))) (ev_is (ev_op ev_c (ev_lenS (ev_var rfl) (by omega)) rv_I0) (by show V.int (201 - (l.length : Int)) = V.int ((201 - l.length : Nat) : Int); congr 1; omega)) (by omega) (by omega))) eda_nil)))) eda_nil)) ev_c (by simp) (by decide)) (by rw [List.length_replicate]; omega)) fun v15 H15 e15 r15 => ⟨_, v15, rfl, ho1.app ⟨fun d hd => by rw [List.eq_of_mem_replicate hd]; exact oddOk3 (noEd_full hl1) ⟨rfl, rfl, rfl⟩ fun q z => by injection z with z; rw [← z, List.length_replicate]; omega, by rw [List.length_replicate]; decide⟩ (by rw [List.length_replicate]; omega), by rw [List.length_append]; omega, r15, x13.trans (.of (e14.trans e15)), s13.mono (e14.trans e15)⟩
  rintro σ' H14 ⟨ds, v8, rfl, ho, hp, r14, x14, s14⟩
  have hl3 := ho.2
  refine ss_retIx (i := 8) r14 rfl ho.tup (es_drawn rfl (es_of (fun H1 x1 => ed_lenL (ed_var rfl (s14.keep x1 r14 ho.tup.1 ho.tup.2))) rfl) (by omega) (by omega)) s14 fun d hd v H15 x15 s15 r15 => q d v H15 (ho.1 d hd) r15 (x14.trans x15) s15

end
end HW

set_option Elab.async false
set_option linter.all false
set_option maxRecDepth 100000
namespace HW
open PySem PySem.Spec PyProof.Rows L2 Evl SX
section
variable {P : Program} {w : World} {K : PySem.W.Frag} {mg : Str → Option Value} {base : Heap}
set_option maxHeartbeats 8000000
def sp_law (K : PySem.W.Frag) (pL : Addr) : Sp := fun vs H Q _ => ∃ (sc : Addr) (ns : List Int), vs = [.ref sc] ∧ Scr K H sc (ns.map V.int) ∧ LamX.Tabs [(pL, qLam)] H ∧ ∀ H', Q (.bl true) H'
theorem tup_edx (xs : List (List Nat × Ed)) : ∀ d ∈ xs.map edx, ∃ es, d = .tup es := fun d hd => by
  obtain ⟨y, _, rfl⟩ := List.mem_map.mp hd
  exact ⟨_, rfl⟩
theorem small_edx {l : List Nat} {es : List Ed} (hc : Ch l es) : ∀ x ∈ (st l es).map edx, smallE x := fun x hx => by
  obtain ⟨y, hy, rfl⟩ := List.mem_map.mp hx
  have := (st_mem hc hy).2.2.1.1
  intro b e q z
  unfold edx edD at z
  injection z with z
  injection z with _ z
  injection z with _ z
  injection z with z _
  injection z with z
  rw [← z]
  omega
theorem st_take : ∀ (l : List Nat) (es : List Ed) (t : Nat), (st l es).take t = st l (es.take t)
  | _, [], t => by simp [st]
  | l, e :: es, 0 => by simp [st]
  | l, e :: es, t + 1 => by rw [st, List.take_succ_cons, List.take_succ_cons, st, st_take]
theorem ch_take : ∀ {l : List Nat} {es : List Ed} (t : Nat), Ch l es → Ch l (es.take t)
  | _, [], t, _ => by rw [List.take_nil]; trivial
  | l, e :: es, 0, _ => trivial
  | l, e :: es, t + 1, h => ⟨h.1, ch_take t h.2⟩
def e0 (q : List Nat) : Ed := ⟨0, 0, q⟩
def zD (q : List Nat) : D := .tup [.tup [.int 0, .int 0], .tup [.int 0, .int 0], .str q]
theorem st_rep (q : List Nat) : ∀ (n : Nat) (l : List Nat), (st l (List.replicate n (e0 q))).map edx = List.replicate n (zD q)
  | 0, _ => rfl
  | n + 1, l => by
    rw [List.replicate_succ, st, List.map_cons, st_rep q n, List.replicate_succ]
    rfl
theorem ch_rep {q : List Nat} (hq : okT 40 q) : ∀ (n : Nat) (l : List Nat), l.length + n * q.length ≤ 200 → Ch l (List.replicate n (e0 q))
  | 0, _, _ => trivial
  | n + 1, l, h => by
    rw [List.replicate_succ]
    rw [Nat.succ_mul] at h
    have hl : ((e0 q).on l).length = q.length + l.length := by
      show (put l 0 0 q).length = _
      rw [put_len (Nat.le_refl _) (Nat.zero_le _)]
      omega
    exact ⟨⟨Nat.le_refl _, Nat.zero_le _, hq, by rw [hl]; omega⟩, ch_rep hq n _ (by rw [hl]; omega)⟩
theorem bad_long {l : List Nat} {r : List D} (hl : okT 200 l) (hr : r ≠ []) : EdsBad l (List.replicate 8 (zD []) ++ r) (.inr ("BadEdit", some [("number", .int 8)])) := by
  obtain ⟨x, r', rfl⟩ : ∃ x r', r = x :: r' := by
    cases r with
    | nil => exact absurd rfl hr
    | cons x r' => exact ⟨x, r', rfl⟩
  have hl1 := hl.1
  exact .inl ⟨hl, List.replicate 8 (e0 []), x, r', by rw [st_rep], ch_rep ⟨by simp, rfl⟩ 8 l (by simp; omega), by simp, .inl (by simp), rfl⟩
theorem small_zD : smallE (zD []) := fun b e q z => by
  unfold zD at z
  injection z with z
  injection z with _ z
  injection z with _ z
  injection z with z _
  injection z with z
  rw [← z]
  simp
theorem small_nil : smallE (.tup []) := fun b e q z => by cases z
def wL : List Nat := [97, 98, 32, 10]
def w10 : List Nat := (List.replicate 10 wL).flatten
def w50 : List Nat := (List.replicate 50 wL).flatten
theorem fin_w : fin [] (List.replicate 5 (e0 w10)) = w50 := by decide +kernel
theorem w10_ok : okT 40 w10 := ⟨by decide +kernel, by decide +kernel⟩
theorem w10_len : w10.length = 40 := by decide +kernel
theorem ev_mulS {σ : L2.St} {H : Hp} {ta tb : TE} {l : List Nat} {n : Nat} (ha : Ev ta σ H (.str (S l))) (hb : Ev tb σ H (.int (n : Int))) (h1 : 1 ≤ n) (h2 : n ≤ 100) (hl : l.length ≤ 1000) : Ev (tOp rMulS ta tb) σ H (.str (S (List.replicate n l).flatten)) := by
  obtain ⟨m1, m2⟩ := mul_S (l := l) (n := (n : Int)) (by omega) (by omega) hl
  rw [Int.toNat_natCast] at m2
  exact ev_op ha hb fun H1 _ Q q => ⟨S l, n, rfl, rfl, m1, by rw [m2]; exact q H1 (Ex.refl _)⟩
theorem q_allV {X : Cx} {T : List (Addr × Str)} {σ : L2.St} {H : Hp} {fs : List Addr} {p : Addr} {i : Nat} {params : Arguments} {body : Expr} {scope : Scope} {t : XK → TE} {tw : TA} {tu tz : TS} {D' : Ends} {j : Nat} {fl : Option (List (Str × V))} {n : Int} {dw : List D} (hT : LamX.Tabs T H) (hj : j < 14) (hfl : XdFor j fl n)
    (hv : σ[i]? = some (some (.ref p))) (hp : H p = some (.lst (fs.map V.ref))) (hfs : ∀ f ∈ fs, LamR X σ H j fl f) (hlen : fs.length ≤ 100)
    (hw : ∀ H1, LamX.ExtN H H1 → EvDA tw σ H1 dw) (hdw : .tup dw = wOut j n) (L : LmS X.N X.env.scope scope) (hk : ∀ x, X.env.kindOf x = X.env.scope.names.lookup x)
    (hbody : ∀ (A : Around) (outer : List Env) (s : Shared) (H : Hp) (E : XK) (f c' : Addr), Room 11 (A.deeper (LamX.lamEnv X scope s.heap.objs.size f c')) → PE (LamX.lamCx X A outer s H E scope f c') body (t E))
    (hr : ∀ H1 (E : XK), LamX.ExtN H H1 → (∀ C d H2, X.mg (Str.ofString (wNames.getD j "")) = some (.ref C) → Ex H1 H2 → XdIs fl d H1 H2 → E (.ref C) d H2) → ExR (t E) σ H1)
    (k : ∀ H1, LamX.ExtN H H1 → LamX.Tabs T H1 → tz D' σ H1) : tSeq (tIfS (tNot (tB (tCallC X (sp__law_all X.prog X.w X.K X.mg X.base) (tCons (tOp rCat (tVar i) (tLst (tCons (tMkLam X T params body scope) tNil))) (tCons (tTup tw) tNil))))) tu tNext) tz D' σ H :=
  s_allV (D' := { D' with nx := tz D' }) hT hj hfl hv hp hfs hlen hw hdw L hk hbody hr k
theorem sc_law : FnScope ["_law_script", "_law_state", "_law_turn", "_law_sheet_here", "_law_edits_here", "_law_due", "_law_handed", "_law_at_here", "_law_here", "_law_one", "_law_bad", "_law_long", "_law_some", "_law_number", "_law_works", "_law_sign_here"] ["_law_script"] (defScope (topS 53)) := ⟨rfl, rfl, rfl, by decide +kernel, rfl, by decide +kernel, by decide +kernel⟩
theorem ok_law {f : Addr} {fd : FuncData} (m_range : mg "range" = none) (m_list : mg "list" = none) (m_len : mg "len" = none) (m_min : mg "min" = none) {cL pL : Addr} (tb : LamX.TabB base mg cL pL) (d__law_start : Df P w K mg base "_law_start" ["_law_script"] 1 (sp__law_start K)) (d__law_sheet : Df P w K mg base "_law_sheet" ["_law_state"] 4 (sp__law_sheet K)) (d__law_edits : Df P w K mg base "_law_edits" ["_law_state", "_law_sheet_here", "_law_most"] 5 (sp__law_edits K)) (d__law_same : Df P w K mg base "_law_same" ["_law_found", "_law_due"] 3 (SameSp (okL 3))) (d_edited : DfX P w K mg base "edited" ["sheet", "edits"] 7 (spX_edited mg)) (d__law_drawn : Df P w K mg base "_law_drawn" ["_law_state", "_law_many"] 1 (spDrawn K)) (d__law_after : Df P w K mg base "_law_after" ["_law_sheet_here", "_law_one"] 2 sp__law_after) (d__law_odd : Df P w K mg base "_law_odd" ["_law_state", "_law_sheet_here"] 5 (sp__law_odd K)) (d_back : DfX P w K mg base "back" ["sheet", "edits"] 7 (spX_back mg)) (d_together : DfX P w K mg base "together" ["sheet", "edits"] 8 (spX_together mg)) (d__law_all : Df P w K mg base "_law_all" ["_law_works", "_law_due"] 14 (sp__law_all P w K mg base)) (d_moved : DfX P w K mg base "moved" ["sheet", "edits", "place"] 7 (spX_moved mg)) (F : FunC K "law" "law" (topS 53) f fd cL) : FnOk P w K mg base CX0 15 f fd ["_law_script"] (sp_law K pL) := by
  refine F.ok sc_law (fun vs H Q E h => by obtain ⟨sc, ns, rfl, _⟩ := h; rfl) (fun A outer s H vs Q E hr h => ?_)
  obtain ⟨sc, ns, rfl, hs, hT0, q⟩ := h
  refine ⟨_, (pss_cons (ps_set (i := 1) sc_law.nd rfl (.inl rfl) (d__law_start.pe (hr.mono (by decide)) (pa_cons (pv 0) pa_nil)))
      (pss_cons (ps_for PassesOwn.never rfl (pi_range1 (by rfl) m_range (pa_cons pe_int pa_nil)) (pg_name (i := 2) sc_law.nd rfl (.inl rfl))
        (pss_cons (ps_set (i := 3) sc_law.nd rfl (.inr rfl) (d__law_sheet.pe (hr.mono (by decide)) (pa_cons (pv 1) pa_nil)))
      (pss_cons (ps_asg (d__law_edits.pe (hr.mono (by decide)) (pa_cons (pv 1) (pa_cons (pv 3) (pa_cons pe_int pa_nil)))) (pg_tup rfl (pgs_cons (pg_name (i := 4) sc_law.nd rfl (.inl rfl)) (pgs_cons (pg_name (i := 5) sc_law.nd rfl (.inl rfl)) pgs_nil))))
      (pss_cons (ps_set (i := 6) sc_law.nd rfl (.inl rfl) (pe_callTy call_list_of (by rfl) m_list (by decide +kernel) (pa_cons (pv 4) pa_nil)))
      (pss_cons (ps_if (PW.pt (pw_or (pt_not (pt_val (d__law_same.pe (hr.mono (by decide)) (pa_cons (d_edited.pe (E := E0) (hx := passX0) (hr.mono (by decide)) (pa_cons (pv 3) (pa_cons (pv 6) pa_nil))) (pa_cons (pv 5) pa_nil))))) (pw_or1 (pt_cmpR (op_neD hr.units) (pv 6) (pv 4) (nomark _)))))
        (pss_one (ps_ret pe_bl))
        pss_nil)
      (pss_cons (ps_set (i := 7) sc_law.nd rfl (.inl rfl) (d__law_drawn.pe (hr.mono (by decide)) (pa_cons (pv 1) (pa_cons (pe_op op_add (pe_callB call_len_seq (by rfl) m_len PySem.boot_len (pa_cons (pv 4) pa_nil)) pe_int) pa_nil))))
      (pss_cons (ps_set (i := 8) sc_law.nd rfl (.inl rfl) (pv 3))
      (pss_cons (ps_for PassesOwn.never rfl (pi_list (pe_slice sl_list (pv 4) po_none (po_some (pv 7)))) (pg_name (i := 9) sc_law.nd rfl (.inl rfl))
        (pss_one (ps_set (i := 8) sc_law.nd rfl (.inl rfl) (d__law_after.pe (hr.mono (by decide)) (pa_cons (pv 8) (pa_cons (pv 9) pa_nil))))))
      (pss_cons (ps_set (i := 10) sc_law.nd rfl (.inr rfl) (pe_op op_cat (pe_op op_cat (pe_slice sl_list (pv 4) po_none (po_some (pv 7))) (pe_lst (pa_cons (d__law_odd.pe (hr.mono (by decide)) (pa_cons (pv 1) (pa_cons (pv 8) pa_nil))) pa_nil))) (pe_ix (r := rIxL K) ix_list (pe_lst (pa_cons (pe_lst pa_nil) (pa_cons (pe_lst (pa_cons (pe_tup pa_nil) pa_nil)) pa_nil))) (d__law_drawn.pe (hr.mono (by decide)) (pa_cons (pv 1) (pa_cons pe_int pa_nil))) (fun _ _ => rfl))))
      (pss_cons (ps_set (i := 11) sc_law.nd rfl (.inl rfl) (pe_op op_cat (pe_op op_rep (pe_lst (pa_cons (pe_tup (pa_cons (pe_tup (pa_cons pe_int (pa_cons pe_int pa_nil))) (pa_cons (pe_tup (pa_cons pe_int (pa_cons pe_int pa_nil))) (pa_cons pe_str pa_nil)))) pa_nil)) pe_int) (pe_slice sl_list (pe_lst (pa_cons (pe_tup (pa_cons (pe_tup (pa_cons pe_int (pa_cons pe_int pa_nil))) (pa_cons (pe_tup (pa_cons pe_int (pa_cons pe_int pa_nil))) (pa_cons pe_str pa_nil)))) (pa_cons (pe_tup pa_nil) pa_nil))) (po_some (d__law_drawn.pe (hr.mono (by decide)) (pa_cons (pv 1) (pa_cons pe_int pa_nil)))) po_none)))
      (pss_cons (ps_for PassesOwn.never rfl (pi_list (pe_lst (pa_cons (pe_tup (pa_cons (pv 10) (pa_cons (pe_callB (call_min2 rfl) (by rfl) m_min (by decide +kernel) (pa_cons (pv 7) (pa_cons pe_int pa_nil))) pa_nil))) (pa_cons (pe_tup (pa_cons (pv 11) (pa_cons pe_int pa_nil))) pa_nil)))) (pg_tup rfl (pgs_cons (pg_name (i := 12) sc_law.nd rfl (.inr rfl)) (pgs_cons (pg_name (i := 13) sc_law.nd rfl (.inl rfl)) pgs_nil)))
        (pss_cons (ps_set (i := 14) sc_law.nd rfl (.inl rfl) (pe_lst (pa_cons (pe_lam (T := [(pL, qLam)]) tb rfl (List.mem_singleton.mpr rfl) (fun p hp _ => by rw [List.mem_singleton.mp hp]; rfl) (lmS_by (N := ["_law_script", "_law_state", "_law_turn", "_law_sheet_here", "_law_edits_here", "_law_due", "_law_handed", "_law_at_here", "_law_here", "_law_one", "_law_bad", "_law_long", "_law_some", "_law_number", "_law_works", "_law_sign_here"]) (sc := defScope (topS 53)) (by decide +kernel)) (fun _ => rfl) rfl (fun _ _ _ _ _ => rfl)) (pa_cons (pe_lamD (T := [(pL, qLam)]) tb rfl (List.mem_singleton.mpr rfl) (fun p hp _ => by rw [List.mem_singleton.mp hp]; rfl) (lmS_by (N := ["_law_script", "_law_state", "_law_turn", "_law_sheet_here", "_law_edits_here", "_law_due", "_law_handed", "_law_at_here", "_law_here", "_law_one", "_law_bad", "_law_long", "_law_some", "_law_number", "_law_works", "_law_sign_here"]) (sc := defScope (topS 53)) (by decide +kernel)) (fun _ => rfl) pe_int rfl rfl rfl (fun _ _ _ _ _ _ _ => ⟨_, rfl, rfl⟩)) (pa_cons (pe_lamD (T := [(pL, qLam)]) tb rfl (List.mem_singleton.mpr rfl) (fun p hp _ => by rw [List.mem_singleton.mp hp]; rfl) (lmS_by (N := ["_law_script", "_law_state", "_law_turn", "_law_sheet_here", "_law_edits_here", "_law_due", "_law_handed", "_law_at_here", "_law_here", "_law_one", "_law_bad", "_law_long", "_law_some", "_law_number", "_law_works", "_law_sign_here"]) (sc := defScope (topS 53)) (by decide +kernel)) (fun _ => rfl) pe_int rfl rfl rfl (fun _ _ _ _ _ _ _ => ⟨_, rfl, rfl⟩)) pa_nil)))))
      (pss_one (ps_if (pt_not (pt_val (d__law_all.peC (hr.mono (by decide)) (fun _ => rfl) (fun _ => rfl) (pa_cons (pe_op op_cat (pv 14) (pe_lst (pa_cons (pe_lam (T := [(pL, qLam)]) tb rfl (List.mem_singleton.mpr rfl) (fun p hp _ => by rw [List.mem_singleton.mp hp]; rfl) (lmS_by (N := ["_law_script", "_law_state", "_law_turn", "_law_sheet_here", "_law_edits_here", "_law_due", "_law_handed", "_law_at_here", "_law_here", "_law_one", "_law_bad", "_law_long", "_law_some", "_law_number", "_law_works", "_law_sign_here"]) (sc := defScope (topS 53)) (by decide +kernel)) (fun _ => rfl) rfl (fun _ _ _ _ _ => rfl)) pa_nil))) (pa_cons (pe_tup (pa_cons pe_str (pa_cons (pv 13) pa_nil))) pa_nil)))))
        (pss_one (ps_ret pe_bl))
        pss_nil))))
      (pss_cons (ps_set (i := 15) sc_law.nd rfl (.inr rfl) (pe_op op_add_str pe_str (pe_slice sl_str (pv 3) po_none (po_some pe_int))))
      (pss_cons (ps_set (i := 14) sc_law.nd rfl (.inl rfl) (pe_lst (pa_cons (pe_lam (T := [(pL, qLam)]) tb rfl (List.mem_singleton.mpr rfl) (fun p hp _ => by rw [List.mem_singleton.mp hp]; rfl) (lmS_by (N := ["_law_script", "_law_state", "_law_turn", "_law_sheet_here", "_law_edits_here", "_law_due", "_law_handed", "_law_at_here", "_law_here", "_law_one", "_law_bad", "_law_long", "_law_some", "_law_number", "_law_works", "_law_sign_here"]) (sc := defScope (topS 53)) (by decide +kernel)) (fun _ => rfl) rfl (fun _ _ _ _ _ => rfl)) (pa_cons (pe_lamD (T := [(pL, qLam)]) tb rfl (List.mem_singleton.mpr rfl) (fun p hp _ => by rw [List.mem_singleton.mp hp]; rfl) (lmS_by (N := ["_law_script", "_law_state", "_law_turn", "_law_sheet_here", "_law_edits_here", "_law_due", "_law_handed", "_law_at_here", "_law_here", "_law_one", "_law_bad", "_law_long", "_law_some", "_law_number", "_law_works", "_law_sign_here"]) (sc := defScope (topS 53)) (by decide +kernel)) (fun _ => rfl) pe_int rfl rfl rfl (fun _ _ _ _ _ _ _ => ⟨_, rfl, rfl⟩)) (pa_cons (pe_lamD (T := [(pL, qLam)]) tb rfl (List.mem_singleton.mpr rfl) (fun p hp _ => by rw [List.mem_singleton.mp hp]; rfl) (lmS_by (N := ["_law_script", "_law_state", "_law_turn", "_law_sheet_here", "_law_edits_here", "_law_due", "_law_handed", "_law_at_here", "_law_here", "_law_one", "_law_bad", "_law_long", "_law_some", "_law_number", "_law_works", "_law_sign_here"]) (sc := defScope (topS 53)) (by decide +kernel)) (fun _ => rfl) pe_int rfl rfl rfl (fun _ _ _ _ _ _ _ => ⟨_, rfl, rfl⟩)) pa_nil)))))
      (pss_cons (ps_if (pt_not (pt_val (d__law_all.peC (hr.mono (by decide)) (fun _ => rfl) (fun _ => rfl) (pa_cons (pe_op op_cat (pv 14) (pe_lst (pa_cons (pe_lam (T := [(pL, qLam)]) tb rfl (List.mem_singleton.mpr rfl) (fun p hp _ => by rw [List.mem_singleton.mp hp]; rfl) (lmS_by (N := ["_law_script", "_law_state", "_law_turn", "_law_sheet_here", "_law_edits_here", "_law_due", "_law_handed", "_law_at_here", "_law_here", "_law_one", "_law_bad", "_law_long", "_law_some", "_law_number", "_law_works", "_law_sign_here"]) (sc := defScope (topS 53)) (by decide +kernel)) (fun _ => rfl) rfl (fun _ _ _ _ _ => rfl)) pa_nil))) (pa_cons (pe_tup (pa_cons pe_str (pa_cons pe_int pa_nil))) pa_nil)))))
        (pss_one (ps_ret pe_bl))
        pss_nil)
      (pss_one (ps_if (pt_cmpR op_ne (d_edited.pe (E := E0) (hx := passX0) (hr.mono (by decide)) (pa_cons pe_str (pa_cons (pe_op op_rep (pe_lst (pa_cons (pe_tup (pa_cons (pe_tup (pa_cons pe_int (pa_cons pe_int pa_nil))) (pa_cons (pe_tup (pa_cons pe_int (pa_cons pe_int pa_nil))) (pa_cons (pe_op op_mulS pe_str pe_int) pa_nil)))) pa_nil)) pe_int) pa_nil))) (pe_op op_mulS pe_str pe_int) (nomark _))
        (pss_one (ps_ret pe_bl))
        pss_nil))))))))))))))))
      (pss_one (ps_ret pe_bl)))), ?_⟩
  refine (show tSeq _ _ _ _ _ from ?_)
  refine ⟨_, rfl, sc, ns, rfl, hs, fun a H1 ha e1 s1 => ?_⟩
  refine q_forR1 (n := 4) (ea_cons ev_c ea_nil) ⟨by decide, by decide⟩ (fun i σ' H' => ∃ y2 y3 y4 y5 y6 y7 y8 y9 y10 y11 y12 y13 y14 y15, σ' = [some (.ref sc), some (.ref a), y2, y3, y4, y5, y6, y7, y8, y9, y10, y11, y12, y13, y14, y15] ∧ StO K ns a H' ∧ LamX.Tabs [(pL, qLam)] H') (fun H2 e2 => ⟨none, none, none, none, none, none, none, none, none, none, none, none, none, none, rfl, s1.mono e2, hT0.ext (e1.trans e2)⟩) ?_ fun σ' H' _ => s_ret ev_c fun H2 _ => q H2
  rintro i σ' H' _ ⟨y2, y3, y4, y5, y6, y7, y8, y9, y10, y11, y12, y13, y14, y15, rfl, s2, t2⟩
  refine qs_asg (es_call (PS := fun us => us = []) rfl esa_nil (fun us hu => by subst hu; exact ⟨rfl, .str (S []), rfl, [], rfl, by simp, rfl⟩)) s2 fun v3 H3 x3 s3 p3 => ?_
  obtain ⟨us, rfl, _, l, rfl, hl⟩ := p3
  have hl1 := hl.1
  have t3 := Tabs.st t2 s2 x3
  refine qs_edits (p := 1) (q := 3) rfl rfl hl s3 fun es v4 H4 hc h8 x4 s4 r4 => ?_
  have t4 := Tabs.st t3 s3 x4
  have hfo := fin_all hl hc
  have hfo1 := hfo.1
  have hsm := small_edx hc
  refine qd_asg (ed_listof (ed_var rfl r4)) fun v6 H5 e5 r6 => ?_
  have r45 := r4.ex e5
  refine q_when (et_or0 (et_no (et_B (EvD.b (ed_call (eda_cons (ed_callX (eda_cons (ed_s (ev_var rfl)) (eda_cons (ed_var rfl r6) eda_nil)) ⟨l, _, rfl, by omega, hsm, .inl ⟨hl, es, rfl, hc, h8, rfl⟩⟩) (eda_cons (ed_s (ev_var rfl)) eda_nil)) ⟨.str (fin l es), rfl, .inl trivial, rfl⟩)))) (et_test (ev_neD (ed_var rfl r6) (ed_var rfl r45) (sh_edits hc)))) (fun z => by cases z) fun _ H6 e6 => ?_
  have s6 := s4.mono (e5.trans e6)
  have t6 := t4.ext (e5.trans e6)
  have r46 := r45.ex e6
  refine qs_asg (es_drawn (m := (es.length : Int) + 1) rfl (es_of (fun H1 x1 => ev_op (ev_is (ed_lenL (ed_var rfl (s6.keep x1 r46 (tup_edx _) (nls_edx _)))) (by rw [List.length_map, st_len])) ev_c rv_I0) rfl) (by omega) (by omega)) s6 fun v7 H7 x7 s7 p7 => ?_
  obtain ⟨t, rfl, t0, t1⟩ := p7
  obtain ⟨t, rfl⟩ := Int.eq_ofNat_of_zero_le t0
  have ht : t ≤ es.length := by omega
  have r47 := s6.keep x7 r46 (tup_edx _) (nls_edx _)
  have t7 := Tabs.st t6 s6 x7
  refine q_asg (ev_var rfl) fun H8 e8 => ?_
  have hlt : (((st l es).map edx).take t).length = t := by rw [List.length_take, List.length_map, st_len]; omega
  refine q_forD (ed_toL (ed_var rfl (r47.ex e8)) (ev_var rfl)) (fun j σ' => ∃ y9, σ' = [some (.ref sc), some (.ref a), some (.int (i : Int)), some (.str (S l)), some v4, some (.str (S (fin l es))), some v6, some (.int (t : Int)), some (.str (S (fin l (es.take j)))), y9, y10, y11, y12, y13, y14, y15]) ⟨y9, rfl⟩ ?_ ?_
  · rintro H9 e9 j d x σ' H10 hd ⟨y9, rfl⟩ e10 rx
    have hj : j < t := by rw [← hlt]; exact (List.getElem?_eq_some_iff.mp hd).1
    have hej : es[j]? = some es[j] := List.getElem?_eq_getElem (by omega)
    have hd' : d = edx (fin l (es.take j), es[j]) := by
      rw [List.getElem?_take_of_lt hj, List.getElem?_map, st_get l es j _ hej] at hd
      exact (Option.some.inj hd).symm
    subst hd'
    have hcan := hc.get hej
    have hok := (fin_ok j hl hc).1
    have c1 := hcan.1
    have c2 := hcan.2.1
    have c3 := hcan.2.2.1.1
    refine sd_asg (ed_call (eda_cons (ed_s (ev_var rfl)) (eda_cons (ed_var rfl rx) eda_nil)) ⟨fin l (es.take j), es[j], rfl, by omega, by omega, by omega, by omega, rfl⟩) fun w H11 e11 r11 => ⟨⟨some x, ?_⟩, e10.trans e11⟩
    rw [rp_str.mp r11, fin_succ l es j _ hej]
    rfl
  rw [hlt]
  rintro σ' H9 ⟨y9, rfl⟩ e9
  have e89 := e8.trans e9
  have s9 := s7.mono e89
  have t9 := t7.ext e89
  have r49 := r47.ex e89
  have hok := fin_ok t hl hc
  have tpl : tupL (((st l es).map edx).take t) := by rw [← List.map_take]; exact ⟨tup_edx _, nls_edx _⟩
  refine qsd_asg (Pd := fun d => ∃ x r, OddOk (fin l (es.take t)) x ∧ (r = [] ∨ r = [.tup []]) ∧ d = .lst ((((st l es).map edx).take t ++ [x]) ++ r)) (esd_cat (P1 := fun d => ∃ x, OddOk (fin l (es.take t)) x ∧ d = .lst (((st l es).map edx).take t ++ [x])) (P2 := fun d => ∃ r, (r = [] ∨ r = [.tup []]) ∧ d = .lst r)
    (esd_cat (P1 := fun d => d = .lst (((st l es).map edx).take t)) (P2 := fun d => ∃ x, OddOk (fin l (es.take t)) x ∧ d = .lst [x]) (esd_of (fun H1 x1 _ => ed_toL (ed_var rfl (s9.keep x1 r49 (tup_edx _) (nls_edx _))) (ev_var rfl)) rfl)
      (esd_lst1 (P1 := OddOk (fin l (es.take t))) (fun H1 x1 s1 Q q => ⟨_, rfl, _, rfl, a, fin l (es.take t), ns, rfl, hok, s1, fun d v H2 hd r x s2 => q d v H2 x s2 hd r⟩) fun d hd => ⟨d, hd, rfl⟩) ?_ ?_ ?_)
    (esd_pick (ds := [.lst [], .lst [.tup []]]) (fun H1 _ _ => eda_cons (ed_lst eda_nil) (eda_cons (ed_lst (eda_cons (ed_tup eda_nil) eda_nil)) eda_nil)) ?_ (by simp) (es_nat (m := 2) (by decide) (by decide) rfl) ?_) ?_ ?_ ?_) s9 fun d10 v10 H10 x10 s10 p10 r10 => ?_
  · rintro d rfl
    exact ⟨_, rfl, tpl, by rw [hlt]; omega⟩
  · rintro d ⟨x, _, rfl⟩
    exact ⟨_, rfl, by simp⟩
  · rintro ds es' hd ⟨x, hx, he⟩
    cases hd
    cases he
    exact ⟨x, hx, rfl⟩
  · intro d hd
    simp only [List.mem_cons, List.not_mem_nil, or_false] at hd
    rcases hd with rfl | rfl
    · exact ⟨_, rfl, tupL_nil⟩
    · exact ⟨_, rfl, .one rfl⟩
  · intro d hd
    simp only [List.mem_cons, List.not_mem_nil, or_false] at hd
    rcases hd with rfl | rfl
    · exact ⟨_, .inl rfl, rfl⟩
    · exact ⟨_, .inr rfl, rfl⟩
  · rintro d ⟨x, hx, rfl⟩
    obtain ⟨xs, hxs⟩ := hx.tp
    refine ⟨_, rfl, tpl.app (by rw [hxs]; exact .one (by rw [← hxs]; exact hx.nl)), by rw [List.length_append, hlt]; simp; omega⟩
  · rintro d ⟨r, hr, rfl⟩
    exact ⟨_, rfl, by rcases hr with rfl | rfl <;> simp⟩
  · rintro ds es' ⟨x, hx, hd⟩ ⟨r, hr, he⟩
    injection hd with hd
    injection he with he
    exact ⟨x, r, hx, hr, by rw [hd, he]⟩
  obtain ⟨x, r, hx, hr, rfl⟩ := p10
  have t10 := Tabs.st t9 s9 x10
  have hbl : ((((st l es).map edx).take t ++ [x]) ++ r) = (st l (es.take t)).map edx ++ x :: r := by rw [← List.map_take, st_take, List.append_assoc]; rfl
  have hbad : EdsBad l ((((st l es).map edx).take t ++ [x]) ++ r) (.inr ("BadEdit", some [("number", .int (t : Nat))])) := .inl ⟨hl, es.take t, x, r, hbl, ch_take t hc, by rw [List.length_take]; omega, .inr hx.no, by rw [List.length_take, Nat.min_eq_left ht]⟩
  have hbsm : ∀ y ∈ (((st l es).map edx).take t ++ [x]) ++ r, smallE y := fun y hy => by
    rcases List.mem_append.mp hy with hy | hy
    · rcases List.mem_append.mp hy with hy | hy
      · exact hsm y (List.mem_of_mem_take hy)
      · rw [List.mem_singleton.mp hy]; exact hx.sm
    · rcases hr with rfl | rfl
      · cases hy
      · rw [List.mem_singleton.mp hy]; exact small_nil
  have hbt : tupL ((((st l es).map edx).take t ++ [x]) ++ r) := by
    obtain ⟨xs, hxs⟩ := hx.tp
    refine (tpl.app (by rw [hxs]; exact .one (by rw [← hxs]; exact hx.nl))).app ?_
    rcases hr with rfl | rfl
    · exact tupL_nil
    · exact .one rfl
  generalize (((st l es).map edx).take t ++ [x]) ++ r = bad at *
  refine qsd_asg (Pd := fun d => ∃ r, (r = [zD [], .tup []] ∨ r = [.tup []]) ∧ d = .lst (List.replicate 8 (zD []) ++ r)) (esd_cat (P1 := fun d => d = .lst (List.replicate 8 (zD []))) (P2 := fun d => ∃ r, (r = [zD [], .tup []] ∨ r = [.tup []]) ∧ d = .lst r)
    (esd_of (fun H1 _ _ => by rw [← rep_one]; exact ed_rep (ds := [zD []]) (ed_lst (eda_cons (ed_tup (eda_cons (ed_tup (eda_cons (ed_i ev_c) (eda_cons (ed_i ev_c) eda_nil))) (eda_cons (ed_tup (eda_cons (ed_i ev_c) (eda_cons (ed_i ev_c) eda_nil))) (eda_cons (ed_s ev_c) eda_nil)))) eda_nil)) ev_c (by simp) (by decide)) rfl)
    (esd_from (ds := [zD [], .tup []]) (fun H1 _ _ => eda_cons (ed_tup (eda_cons (ed_tup (eda_cons (ed_i ev_c) (eda_cons (ed_i ev_c) eda_nil))) (eda_cons (ed_tup (eda_cons (ed_i ev_c) (eda_cons (ed_i ev_c) eda_nil))) (eda_cons (ed_s ev_c) eda_nil)))) (eda_cons (ed_tup eda_nil) eda_nil)) (.cons rfl (.one rfl)) (by simp) (es_nat (m := 2) (by decide) (by decide) rfl) ?_) ?_ ?_ ?_) s10 fun d11 v11 H11 x11 s11 p11 r11 => ?_
  · intro n hn
    have hn : n = 0 ∨ n = 1 := by
      have : n < 2 := hn
      omega
    rcases hn with rfl | rfl
    · exact ⟨_, .inl rfl, rfl⟩
    · exact ⟨_, .inr rfl, rfl⟩
  · rintro d rfl
    exact ⟨_, rfl, tupL_rep rfl 8, by simp⟩
  · rintro d ⟨r, hr, rfl⟩
    exact ⟨_, rfl, by rcases hr with rfl | rfl <;> simp⟩
  · rintro ds es' hd ⟨r, hr, he⟩
    injection hd with hd
    injection he with he
    exact ⟨r, hr, by rw [hd, he]⟩
  obtain ⟨r', hr', rfl⟩ := p11
  have t11 := Tabs.st t10 s10 x11
  have r10 := s10.keep x11 r10 hbt.1 hbt.2
  have hlong : EdsBad l (List.replicate 8 (zD []) ++ r') (.inr ("BadEdit", some [("number", .int 8)])) := bad_long hl (by rcases hr' with rfl | rfl <;> simp)
  have hlsm : ∀ y ∈ List.replicate 8 (zD []) ++ r', smallE y := fun y hy => by
    rcases List.mem_append.mp hy with hy | hy
    · rw [List.eq_of_mem_replicate hy]; exact small_zD
    · rcases hr' with rfl | rfl
      · rcases List.mem_cons.mp hy with rfl | hy
        · exact small_zD
        · rw [List.mem_singleton.mp hy]; exact small_nil
      · rw [List.mem_singleton.mp hy]; exact small_nil
  generalize List.replicate 8 (zD []) ++ r' = long at *
  refine s_forPN (dd := [(.lst bad, .int (t : Int)), (.lst long, .int 8)]) t11 (ed_lst (eda_cons (ed_tup (eda_cons (ed_var rfl r10) (eda_cons (ed_i (ev_is (ev_min2 (ev_var rfl) ev_c) (by show V.int (min (t : Int) 8) = V.int (t : Int); congr 1; omega))) eda_nil))) (eda_cons (ed_tup (eda_cons (ed_var rfl r11) (eda_cons (ed_i ev_c) eda_nil))) eda_nil))) (fun _ σ' => ∃ y12 y13 y14, σ' = [some (.ref sc), some (.ref a), some (.int (i : Int)), some (.str (S l)), some v4, some (.str (S (fin l es))), some v6, some (.int (t : Int)), some (.str (S (fin l (es.take t)))), y9, some v10, some v11, y12, y13, y14, y15]) ⟨y12, y13, y14, rfl⟩ ?_ ?_
  · rintro H13 e13 j d vx vy σ' H14 D2 hd ⟨y12, y13, y14, rfl⟩ eN14 t14 rx ry hD2
    have hd' : ∃ xs n, d = (.lst xs, .int n) ∧ EdsBad l xs (.inr ("BadEdit", some [("number", .int n)])) ∧ ∀ y ∈ xs, smallE y := by
      match j, hd with
      | 0, hd => cases hd; exact ⟨_, _, rfl, hbad, hbsm⟩
      | 1, hd => cases hd; exact ⟨_, _, rfl, hlong, hlsm⟩
      | j + 2, hd => simp at hd
    obtain ⟨xs, n, rfl, hB, hS⟩ := hd'
    obtain rfl := rp_int.mp ry
    have rx : Rp H14 (.lst xs) vx := rx
    refine q_lams3 t14 fun f1 f2 f3 p H15 eN15 t15 l1 l2 l3 hp => ?_
    refine s_allV (fs := [f1, f2, f3]) (i := 14) (p := p) (j := 2) (fl := some [("number", .int n)]) (n := n) (dw := [.str (nameL 2), .int n]) t15 (by decide) (.inr (.inl ⟨rfl, rfl⟩)) rfl hp ?_ (by simp) (fun H9 eN => eda_cons (kc (name_S 2)) (eda_cons (ed_i (ev_var rfl)) eda_nil)) rfl (lmS_by (N := ["_law_script", "_law_state", "_law_turn", "_law_sheet_here", "_law_edits_here", "_law_due", "_law_handed", "_law_at_here", "_law_here", "_law_one", "_law_bad", "_law_long", "_law_some", "_law_number", "_law_works", "_law_sign_here"]) (sc := defScope (topS 53)) (by decide +kernel)) (fun _ => rfl) (fun A outer s H E f c' hr => (d_moved.pe (E := E) (hx := passes_call (takes_of rfl rfl rfl rfl) (fun _ _ _ _ h => h)) (hr.mono (by decide)) (pa_cons (pv 3) (pa_cons (pv 12) (pa_cons (pe_tup (pa_cons (pe_op op_sub pe_int pe_int) (pa_cons pe_int pa_nil))) pa_nil))))) (fun H9 E eN hE => ex_call (eda_cons (ed_s (ev_var rfl)) (eda_cons (ed_var rfl (Rp.extN (eN15.trans eN) rx)) (eda_cons (ed_tup (eda_cons (ed_i (ev_op ev_c ev_c rv_I0)) (eda_cons (ed_i ev_c) eda_nil))) eda_nil))) ⟨l, xs, _, rfl, by omega, hS, hB⟩ hE) fun H9 eN t9 => ?_
    · intro f hf
      rcases List.mem_cons.mp hf with rfl | hf
      · exact ⟨_, _, _, _, l1, (lmS_by (N := ["_law_script", "_law_state", "_law_turn", "_law_sheet_here", "_law_edits_here", "_law_due", "_law_handed", "_law_at_here", "_law_here", "_law_one", "_law_bad", "_law_long", "_law_some", "_law_number", "_law_works", "_law_sign_here"]) (sc := defScope (topS 53)) (by decide +kernel)), (fun A outer s H E f c' hr => (d_edited.pe (E := E) (hx := passes_call (takes_of rfl rfl rfl rfl) (fun _ _ _ _ h => h)) (hr.mono (by decide)) (pa_cons (pv 3) (pa_cons (pv 12) pa_nil)))), fun H9 E eN hE => ex_call (eda_cons (ed_s (ev_var rfl)) (eda_cons (ed_var rfl (Rp.extN (eN15.trans eN) rx)) eda_nil)) ⟨l, xs, rfl, by omega, hS, .inr hB⟩ hE⟩
      rcases List.mem_cons.mp hf with rfl | hf
      · exact ⟨_, _, _, _, l2, (lmS_by (N := ["_law_script", "_law_state", "_law_turn", "_law_sheet_here", "_law_edits_here", "_law_due", "_law_handed", "_law_at_here", "_law_here", "_law_one", "_law_bad", "_law_long", "_law_some", "_law_number", "_law_works", "_law_sign_here"]) (sc := defScope (topS 53)) (by decide +kernel)), (fun A outer s H E f c' hr => (d_together.pe (E := E) (hx := passes_call (takes_of rfl rfl rfl rfl) (fun _ _ _ _ h => h)) (hr.mono (by decide)) (pa_cons (pv 3) (pa_cons (pv 12) pa_nil)))), fun H9 E eN hE => ex_call (eda_cons (ed_s (ev_var rfl)) (eda_cons (ed_var rfl (Rp.extN (eN15.trans eN) rx)) eda_nil)) ⟨l, xs, rfl, by omega, hS, hB⟩ hE⟩
      · rw [List.mem_singleton.mp hf]
        exact ⟨_, _, _, _, l3, (lmS_by (N := ["_law_script", "_law_state", "_law_turn", "_law_sheet_here", "_law_edits_here", "_law_due", "_law_handed", "_law_at_here", "_law_here", "_law_one", "_law_bad", "_law_long", "_law_some", "_law_number", "_law_works", "_law_sign_here"]) (sc := defScope (topS 53)) (by decide +kernel)), (fun A outer s H E f c' hr => (d_back.pe (E := E) (hx := passes_call (takes_of rfl rfl rfl rfl) (fun _ _ _ _ h => h)) (hr.mono (by decide)) (pa_cons (pv 3) (pa_cons (pv 12) pa_nil)))), fun H9 E eN hE => ex_call (eda_cons (ed_s (ev_var rfl)) (eda_cons (ed_var rfl (Rp.extN (eN15.trans eN) rx)) eda_nil)) ⟨l, xs, rfl, by omega, hS, hB⟩ hE⟩
    · rw [hD2]
      exact ⟨⟨_, _, _, rfl⟩, (eN14.trans eN15).trans eN, t9⟩
  rintro H13 e13 σ' H14 ⟨y12, y13, y14, rfl⟩ eN14 t14
  have s14 := StO.extN (s11.mono e13) eN14
  have r14 := Rp.extN eN14 (r10.ex e13)
  have htk : (l.take 100).length ≤ 100 := by rw [List.length_take]; omega
  refine q_asg (v := .str (S ([97, 9] ++ l.take 100))) (ev_op (ev_c (v := .str (S [97, 9]))) (ev_to (n := 100) (ev_var rfl) ev_c (by omega)) (rv_addS (by show 2 + _ ≤ _; omega))) fun H15 e15 => ?_
  have hsg : ([97, 9] ++ l.take 100).length ≤ 40000 := by rw [List.length_append]; show 2 + _ ≤ _; omega
  have hno : ¬ okT 200 ([97, 9] ++ l.take 100) := fun z => by
    have := List.all_eq_true.mp z.2 9 (by simp)
    revert this
    decide
  generalize [97, 9] ++ l.take 100 = sg at *
  have r15 := r14.ex e15
  have hB : EdsBad sg bad (.inr ("BadSheet", none)) := .inr ⟨hno, rfl⟩
  refine q_lams3 (t14.ext e15) fun f1 f2 f3 p H16 eN16 t16 l1 l2 l3 hp => ?_
  refine q_allV (fs := [f1, f2, f3]) (i := 14) (p := p) (j := 0) (fl := none) (n := 0) (dw := [.str (nameL 0), .int 0]) t16 (by decide) (.inl ⟨by decide, by decide, rfl, rfl⟩) rfl hp ?_ (by simp) (fun H9 eN => eda_cons (kc (name_S 0)) (eda_cons (ed_i ev_c) eda_nil)) rfl (lmS_by (N := ["_law_script", "_law_state", "_law_turn", "_law_sheet_here", "_law_edits_here", "_law_due", "_law_handed", "_law_at_here", "_law_here", "_law_one", "_law_bad", "_law_long", "_law_some", "_law_number", "_law_works", "_law_sign_here"]) (sc := defScope (topS 53)) (by decide +kernel)) (fun _ => rfl) (fun A outer s H E f c' hr => (d_moved.pe (E := E) (hx := passes_call (takes_of rfl rfl rfl rfl) (fun _ _ _ _ h => h)) (hr.mono (by decide)) (pa_cons (pv 15) (pa_cons (pv 10) (pa_cons (pe_tup pa_nil) pa_nil))))) (fun H9 E eN hE => ex_call (eda_cons (ed_s (ev_var rfl)) (eda_cons (ed_var rfl (Rp.extN (eN16.trans eN) r15)) (eda_cons (ed_tup eda_nil) eda_nil))) ⟨sg, bad, _, rfl, hsg, hbsm, hB⟩ hE) fun H17 eN17 t17 => ?_
  · intro f hf
    rcases List.mem_cons.mp hf with rfl | hf
    · exact ⟨_, _, _, _, l1, (lmS_by (N := ["_law_script", "_law_state", "_law_turn", "_law_sheet_here", "_law_edits_here", "_law_due", "_law_handed", "_law_at_here", "_law_here", "_law_one", "_law_bad", "_law_long", "_law_some", "_law_number", "_law_works", "_law_sign_here"]) (sc := defScope (topS 53)) (by decide +kernel)), (fun A outer s H E f c' hr => (d_edited.pe (E := E) (hx := passes_call (takes_of rfl rfl rfl rfl) (fun _ _ _ _ h => h)) (hr.mono (by decide)) (pa_cons (pv 15) (pa_cons (pv 10) pa_nil)))), fun H9 E eN hE => ex_call (eda_cons (ed_s (ev_var rfl)) (eda_cons (ed_var rfl (Rp.extN (eN16.trans eN) r15)) eda_nil)) ⟨sg, bad, rfl, hsg, hbsm, .inr hB⟩ hE⟩
    rcases List.mem_cons.mp hf with rfl | hf
    · exact ⟨_, _, _, _, l2, (lmS_by (N := ["_law_script", "_law_state", "_law_turn", "_law_sheet_here", "_law_edits_here", "_law_due", "_law_handed", "_law_at_here", "_law_here", "_law_one", "_law_bad", "_law_long", "_law_some", "_law_number", "_law_works", "_law_sign_here"]) (sc := defScope (topS 53)) (by decide +kernel)), (fun A outer s H E f c' hr => (d_together.pe (E := E) (hx := passes_call (takes_of rfl rfl rfl rfl) (fun _ _ _ _ h => h)) (hr.mono (by decide)) (pa_cons (pv 15) (pa_cons (pv 10) pa_nil)))), fun H9 E eN hE => ex_call (eda_cons (ed_s (ev_var rfl)) (eda_cons (ed_var rfl (Rp.extN (eN16.trans eN) r15)) eda_nil)) ⟨sg, bad, rfl, hsg, hbsm, hB⟩ hE⟩
    · rw [List.mem_singleton.mp hf]
      exact ⟨_, _, _, _, l3, (lmS_by (N := ["_law_script", "_law_state", "_law_turn", "_law_sheet_here", "_law_edits_here", "_law_due", "_law_handed", "_law_at_here", "_law_here", "_law_one", "_law_bad", "_law_long", "_law_some", "_law_number", "_law_works", "_law_sign_here"]) (sc := defScope (topS 53)) (by decide +kernel)), (fun A outer s H E f c' hr => (d_back.pe (E := E) (hx := passes_call (takes_of rfl rfl rfl rfl) (fun _ _ _ _ h => h)) (hr.mono (by decide)) (pa_cons (pv 15) (pa_cons (pv 10) pa_nil)))), fun H9 E eN hE => ex_call (eda_cons (ed_s (ev_var rfl)) (eda_cons (ed_var rfl (Rp.extN (eN16.trans eN) r15)) eda_nil)) ⟨sg, bad, rfl, hsg, hbsm, hB⟩ hE⟩
  have s17 := StO.extN (s14.mono e15) (eN16.trans eN17)
  have hz : ∀ y ∈ List.replicate 5 (zD w10), smallE y := fun y hy => by
    rw [List.eq_of_mem_replicate hy]
    intro b e q z
    unfold zD at z
    injection z with z
    injection z with _ z
    injection z with _ z
    injection z with z _
    injection z with z
    rw [← z, w10_len]
    decide
  exact s_when (et_is (et_test (ev_op (EvD.s (l := w50) (ed_callX (eda_cons (ed_s (ev_c (v := .str (S [])))) (eda_cons (d := .lst (List.replicate 5 (zD w10))) (by rw [← rep_one]; exact ed_rep (ds := [zD w10]) (ed_lst (eda_cons (ed_tup (eda_cons (ed_tup (eda_cons (ed_i ev_c) (eda_cons (ed_i ev_c) eda_nil))) (eda_cons (ed_tup (eda_cons (ed_i ev_c) (eda_cons (ed_i ev_c) eda_nil))) (eda_cons (ed_s (ev_mulS (l := wL) (n := 10) (ev_c (v := .str (S wL))) ev_c (by decide) (by decide) (by decide))) eda_nil)))) eda_nil)) ev_c (by simp) (by decide)) eda_nil)) ⟨[], _, rfl, by simp, hz, .inl ⟨⟨by simp, rfl⟩, List.replicate 5 (e0 w10), by rw [st_rep], ch_rep w10_ok 5 [] (by rw [w10_len]; decide), by simp, congrArg (fun z => (Sum.inl (D.str z) : Out)) fin_w.symm⟩⟩)) (ev_mulS (l := wL) (n := 50) (ev_c (v := .str (S wL))) ev_c (by decide) (by decide) (by decide)) rv_neS)) (show (!decide (w50 = (List.replicate 50 wL).flatten)) = false from by unfold w50; rw [decide_eq_true (Eq.refl _)]; rfl)) (fun z => by cases z) fun _ H18 e18 => ⟨_, _, _, _, _, _, _, _, _, _, _, _, _, _, rfl, s17.mono e18, t17.ext e18⟩

end
end HW

set_option Elab.async false
set_option linter.all false
set_option maxRecDepth 100000
namespace HW
open PySem PySem.Spec PyProof.Rows L2 Evl SX
section
set_option maxHeartbeats 4000000 in
theorem all_mk {l : PySem.W.OpenLaw} {w : World} {K : PySem.W.Frag} {h : Heap} {mg : Str → Option Value} {fa : Addr} (X : K.In h) (G : h.Ns mainGlobals mg) (hfa : mg "law" = some (.ref fa))
    {f0 : Addr} {od0 an0 : Option Addr} {sl0 : Array (Option Value)} {oc0 kV0 dc0 pm0 cd0 ct0 : Value} (a0 : PySem.W.nsIn K mainGlobals "_law_start" = some (some (.ref f0))) (l0 : K.lookup f0 = some ⟨oc0, od0, .func (PySem.W.fnOf "_law_start" "_law_start" (defArgs (topS 39)) (defBody (topS 39)) (defScope (topS 39)) .none kV0 dc0 pm0 an0 cd0 ct0), sl0⟩) (c0 : PySem.W.codeIn K cd0 "_law_start" = true) (k0 : PySem.W.keepIn K (.ref f0) = true)
    {f1 : Addr} {od1 an1 : Option Addr} {sl1 : Array (Option Value)} {oc1 kV1 dc1 pm1 cd1 ct1 : Value} (a1 : PySem.W.nsIn K mainGlobals "_law_drawn" = some (some (.ref f1))) (l1 : K.lookup f1 = some ⟨oc1, od1, .func (PySem.W.fnOf "_law_drawn" "_law_drawn" (defArgs (topS 40)) (defBody (topS 40)) (defScope (topS 40)) .none kV1 dc1 pm1 an1 cd1 ct1), sl1⟩) (c1 : PySem.W.codeIn K cd1 "_law_drawn" = true) (k1 : PySem.W.keepIn K (.ref f1) = true)
    {f2 : Addr} {od2 an2 : Option Addr} {sl2 : Array (Option Value)} {oc2 kV2 dc2 pm2 cd2 ct2 : Value} (a2 : PySem.W.nsIn K mainGlobals "_law_sign" = some (some (.ref f2))) (l2 : K.lookup f2 = some ⟨oc2, od2, .func (PySem.W.fnOf "_law_sign" "_law_sign" (defArgs (topS 44)) (defBody (topS 44)) (defScope (topS 44)) .none kV2 dc2 pm2 an2 cd2 ct2), sl2⟩) (c2 : PySem.W.codeIn K cd2 "_law_sign" = true) (k2 : PySem.W.keepIn K (.ref f2) = true)
    {f3 : Addr} {od3 an3 : Option Addr} {sl3 : Array (Option Value)} {oc3 kV3 dc3 pm3 cd3 ct3 : Value} (a3 : PySem.W.nsIn K mainGlobals "_law_put" = some (some (.ref f3))) (l3 : K.lookup f3 = some ⟨oc3, od3, .func (PySem.W.fnOf "_law_put" "_law_put" (defArgs (topS 45)) (defBody (topS 45)) (defScope (topS 45)) .none kV3 dc3 pm3 an3 cd3 ct3), sl3⟩) (c3 : PySem.W.codeIn K cd3 "_law_put" = true) (k3 : PySem.W.keepIn K (.ref f3) = true)
    {f4 : Addr} {od4 an4 : Option Addr} {sl4 : Array (Option Value)} {oc4 kV4 dc4 pm4 cd4 ct4 : Value} (a4 : PySem.W.nsIn K mainGlobals "_law_sheet" = some (some (.ref f4))) (l4 : K.lookup f4 = some ⟨oc4, od4, .func (PySem.W.fnOf "_law_sheet" "_law_sheet" (defArgs (topS 46)) (defBody (topS 46)) (defScope (topS 46)) .none kV4 dc4 pm4 an4 cd4 ct4), sl4⟩) (c4 : PySem.W.codeIn K cd4 "_law_sheet" = true) (k4 : PySem.W.keepIn K (.ref f4) = true)
    {f5 : Addr} {od5 an5 : Option Addr} {sl5 : Array (Option Value)} {oc5 kV5 dc5 pm5 cd5 ct5 : Value} (a5 : PySem.W.nsIn K mainGlobals "_law_numbers" = some (some (.ref f5))) (l5 : K.lookup f5 = some ⟨oc5, od5, .func (PySem.W.fnOf "_law_numbers" "_law_numbers" (defArgs (topS 48)) (defBody (topS 48)) (defScope (topS 48)) .none kV5 dc5 pm5 an5 cd5 ct5), sl5⟩) (c5 : PySem.W.codeIn K cd5 "_law_numbers" = true) (k5 : PySem.W.keepIn K (.ref f5) = true)
    {f6 : Addr} {od6 an6 : Option Addr} {sl6 : Array (Option Value)} {oc6 kV6 dc6 pm6 cd6 ct6 : Value} (a6 : PySem.W.nsIn K mainGlobals "_law_after" = some (some (.ref f6))) (l6 : K.lookup f6 = some ⟨oc6, od6, .func (PySem.W.fnOf "_law_after" "_law_after" (defArgs (topS 50)) (defBody (topS 50)) (defScope (topS 50)) .none kV6 dc6 pm6 an6 cd6 ct6), sl6⟩) (c6 : PySem.W.codeIn K cd6 "_law_after" = true) (k6 : PySem.W.keepIn K (.ref f6) = true)
    {f7 : Addr} {od7 an7 : Option Addr} {sl7 : Array (Option Value)} {oc7 kV7 dc7 pm7 cd7 ct7 : Value} (a7 : PySem.W.nsIn K mainGlobals "_law_at" = some (some (.ref f7))) (l7 : K.lookup f7 = some ⟨oc7, od7, .func (PySem.W.fnOf "_law_at" "_law_at" (defArgs (topS 47)) (defBody (topS 47)) (defScope (topS 47)) .none kV7 dc7 pm7 an7 cd7 ct7), sl7⟩) (c7 : PySem.W.codeIn K cd7 "_law_at" = true) (k7 : PySem.W.keepIn K (.ref f7) = true)
    {f8 : Addr} {od8 an8 : Option Addr} {sl8 : Array (Option Value)} {oc8 kV8 dc8 pm8 cd8 ct8 : Value} (a8 : PySem.W.nsIn K mainGlobals "_law_edit" = some (some (.ref f8))) (l8 : K.lookup f8 = some ⟨oc8, od8, .func (PySem.W.fnOf "_law_edit" "_law_edit" (defArgs (topS 49)) (defBody (topS 49)) (defScope (topS 49)) .none kV8 dc8 pm8 an8 cd8 ct8), sl8⟩) (c8 : PySem.W.codeIn K cd8 "_law_edit" = true) (k8 : PySem.W.keepIn K (.ref f8) = true)
    {f9 : Addr} {od9 an9 : Option Addr} {sl9 : Array (Option Value)} {oc9 kV9 dc9 pm9 cd9 ct9 : Value} (a9 : PySem.W.nsIn K mainGlobals "_law_edits" = some (some (.ref f9))) (l9 : K.lookup f9 = some ⟨oc9, od9, .func (PySem.W.fnOf "_law_edits" "_law_edits" (defArgs (topS 51)) (defBody (topS 51)) (defScope (topS 51)) .none kV9 dc9 pm9 an9 cd9 ct9), sl9⟩) (c9 : PySem.W.codeIn K cd9 "_law_edits" = true) (k9 : PySem.W.keepIn K (.ref f9) = true)
    {f10 : Addr} {od10 an10 : Option Addr} {sl10 : Array (Option Value)} {oc10 kV10 dc10 pm10 cd10 ct10 : Value} (a10 : PySem.W.nsIn K mainGlobals "_law_same" = some (some (.ref f10))) (l10 : K.lookup f10 = some ⟨oc10, od10, .func (PySem.W.fnOf "_law_same" "_law_same" (defArgs (topS 41)) (defBody (topS 41)) (defScope (topS 41)) .none kV10 dc10 pm10 an10 cd10 ct10), sl10⟩) (c10 : PySem.W.codeIn K cd10 "_law_same" = true) (k10 : PySem.W.keepIn K (.ref f10) = true)
    {f11 : Addr} {od11 an11 : Option Addr} {sl11 : Array (Option Value)} {oc11 kV11 dc11 pm11 cd11 ct11 : Value} (a11 : PySem.W.nsIn K mainGlobals "_law_word" = some (some (.ref f11))) (l11 : K.lookup f11 = some ⟨oc11, od11, .func (PySem.W.fnOf "_law_word" "_law_word" (defArgs (topS 42)) (defBody (topS 42)) (defScope (topS 42)) .none kV11 dc11 pm11 an11 cd11 ct11), sl11⟩) (c11 : PySem.W.codeIn K cd11 "_law_word" = true) (k11 : PySem.W.keepIn K (.ref f11) = true)
    {f12 : Addr} {od12 an12 : Option Addr} {sl12 : Array (Option Value)} {oc12 kV12 dc12 pm12 cd12 ct12 : Value} (a12 : PySem.W.nsIn K mainGlobals "_law_all" = some (some (.ref f12))) (l12 : K.lookup f12 = some ⟨oc12, od12, .func (PySem.W.fnOf "_law_all" "_law_all" (defArgs (topS 43)) (defBody (topS 43)) (defScope (topS 43)) .none kV12 dc12 pm12 an12 cd12 ct12), sl12⟩) (c12 : PySem.W.codeIn K cd12 "_law_all" = true) (k12 : PySem.W.keepIn K (.ref f12) = true)
    {f13 : Addr} {od13 an13 : Option Addr} {sl13 : Array (Option Value)} {oc13 kV13 dc13 pm13 cd13 ct13 : Value} (a13 : PySem.W.nsIn K mainGlobals "is_sign" = some (some (.ref f13))) (l13 : K.lookup f13 = some ⟨oc13, od13, .func (PySem.W.fnOf "is_sign" "is_sign" (defArgs (topS 26)) (defBody (topS 26)) (defScope (topS 26)) .none kV13 dc13 pm13 an13 cd13 ct13), sl13⟩) (c13 : PySem.W.codeIn K cd13 "is_sign" = true) (k13 : PySem.W.keepIn K (.ref f13) = true)
    {f14 : Addr} {od14 an14 : Option Addr} {sl14 : Array (Option Value)} {oc14 kV14 dc14 pm14 cd14 ct14 : Value} (a14 : PySem.W.nsIn K mainGlobals "is_text_of_signs" = some (some (.ref f14))) (l14 : K.lookup f14 = some ⟨oc14, od14, .func (PySem.W.fnOf "is_text_of_signs" "is_text_of_signs" (defArgs (topS 25)) (defBody (topS 25)) (defScope (topS 25)) .none kV14 dc14 pm14 an14 cd14 ct14), sl14⟩) (c14 : PySem.W.codeIn K cd14 "is_text_of_signs" = true) (k14 : PySem.W.keepIn K (.ref f14) = true)
    {f15 : Addr} {od15 an15 : Option Addr} {sl15 : Array (Option Value)} {oc15 kV15 dc15 pm15 cd15 ct15 : Value} (a15 : PySem.W.nsIn K mainGlobals "check_sheet" = some (some (.ref f15))) (l15 : K.lookup f15 = some ⟨oc15, od15, .func (PySem.W.fnOf "check_sheet" "check_sheet" (defArgs (topS 24)) (defBody (topS 24)) (defScope (topS 24)) .none kV15 dc15 pm15 an15 cd15 ct15), sl15⟩) (c15 : PySem.W.codeIn K cd15 "check_sheet" = true) (k15 : PySem.W.keepIn K (.ref f15) = true)
    {f16 : Addr} {od16 an16 : Option Addr} {sl16 : Array (Option Value)} {oc16 kV16 dc16 pm16 cd16 ct16 : Value} (a16 : PySem.W.nsIn K mainGlobals "behind" = some (some (.ref f16))) (l16 : K.lookup f16 = some ⟨oc16, od16, .func (PySem.W.fnOf "behind" "behind" (defArgs (topS 34)) (defBody (topS 34)) (defScope (topS 34)) .none kV16 dc16 pm16 an16 cd16 ct16), sl16⟩) (c16 : PySem.W.codeIn K cd16 "behind" = true) (k16 : PySem.W.keepIn K (.ref f16) = true)
    {f17 : Addr} {od17 an17 : Option Addr} {sl17 : Array (Option Value)} {oc17 kV17 dc17 pm17 cd17 ct17 : Value} (a17 : PySem.W.nsIn K mainGlobals "is_number" = some (some (.ref f17))) (l17 : K.lookup f17 = some ⟨oc17, od17, .func (PySem.W.fnOf "is_number" "is_number" (defArgs (topS 27)) (defBody (topS 27)) (defScope (topS 27)) .none kV17 dc17 pm17 an17 cd17 ct17), sl17⟩) (c17 : PySem.W.codeIn K cd17 "is_number" = true) (k17 : PySem.W.keepIn K (.ref f17) = true)
    {f18 : Addr} {od18 an18 : Option Addr} {sl18 : Array (Option Value)} {oc18 kV18 dc18 pm18 cd18 ct18 : Value} (a18 : PySem.W.nsIn K mainGlobals "is_two_numbers" = some (some (.ref f18))) (l18 : K.lookup f18 = some ⟨oc18, od18, .func (PySem.W.fnOf "is_two_numbers" "is_two_numbers" (defArgs (topS 28)) (defBody (topS 28)) (defScope (topS 28)) .none kV18 dc18 pm18 an18 cd18 ct18), sl18⟩) (c18 : PySem.W.codeIn K cd18 "is_two_numbers" = true) (k18 : PySem.W.keepIn K (.ref f18) = true)
    {f19 : Addr} {od19 an19 : Option Addr} {sl19 : Array (Option Value)} {oc19 kV19 dc19 pm19 cd19 ct19 : Value} (a19 : PySem.W.nsIn K mainGlobals "is_place" = some (some (.ref f19))) (l19 : K.lookup f19 = some ⟨oc19, od19, .func (PySem.W.fnOf "is_place" "is_place" (defArgs (topS 29)) (defBody (topS 29)) (defScope (topS 29)) .none kV19 dc19 pm19 an19 cd19 ct19), sl19⟩) (c19 : PySem.W.codeIn K cd19 "is_place" = true) (k19 : PySem.W.keepIn K (.ref f19) = true)
    {f20 : Addr} {od20 an20 : Option Addr} {sl20 : Array (Option Value)} {oc20 kV20 dc20 pm20 cd20 ct20 : Value} (a20 : PySem.W.nsIn K mainGlobals "number_in" = some (some (.ref f20))) (l20 : K.lookup f20 = some ⟨oc20, od20, .func (PySem.W.fnOf "number_in" "number_in" (defArgs (topS 30)) (defBody (topS 30)) (defScope (topS 30)) .none kV20 dc20 pm20 an20 cd20 ct20), sl20⟩) (c20 : PySem.W.codeIn K cd20 "number_in" = true) (k20 : PySem.W.keepIn K (.ref f20) = true)
    {f21 : Addr} {od21 an21 : Option Addr} {sl21 : Array (Option Value)} {oc21 kV21 dc21 pm21 cd21 ct21 : Value} (a21 : PySem.W.nsIn K mainGlobals "can_be_done" = some (some (.ref f21))) (l21 : K.lookup f21 = some ⟨oc21, od21, .func (PySem.W.fnOf "can_be_done" "can_be_done" (defArgs (topS 33)) (defBody (topS 33)) (defScope (topS 33)) .none kV21 dc21 pm21 an21 cd21 ct21), sl21⟩) (c21 : PySem.W.codeIn K cd21 "can_be_done" = true) (k21 : PySem.W.keepIn K (.ref f21) = true)
    {f22 : Addr} {od22 an22 : Option Addr} {sl22 : Array (Option Value)} {oc22 kV22 dc22 pm22 cd22 ct22 : Value} (a22 : PySem.W.nsIn K mainGlobals "spans_of" = some (some (.ref f22))) (l22 : K.lookup f22 = some ⟨oc22, od22, .func (PySem.W.fnOf "spans_of" "spans_of" (defArgs (topS 32)) (defBody (topS 32)) (defScope (topS 32)) .none kV22 dc22 pm22 an22 cd22 ct22), sl22⟩) (c22 : PySem.W.codeIn K cd22 "spans_of" = true) (k22 : PySem.W.keepIn K (.ref f22) = true)
    {f23 : Addr} {od23 an23 : Option Addr} {sl23 : Array (Option Value)} {oc23 kV23 dc23 pm23 cd23 ct23 : Value} (a23 : PySem.W.nsIn K mainGlobals "edited" = some (some (.ref f23))) (l23 : K.lookup f23 = some ⟨oc23, od23, .func (PySem.W.fnOf "edited" "edited" (defArgs (topS 20)) (defBody (topS 20)) (defScope (topS 20)) .none kV23 dc23 pm23 an23 cd23 ct23), sl23⟩) (c23 : PySem.W.codeIn K cd23 "edited" = true) (k23 : PySem.W.keepIn K (.ref f23) = true)
    {f24 : Addr} {od24 an24 : Option Addr} {sl24 : Array (Option Value)} {oc24 kV24 dc24 pm24 cd24 ct24 : Value} (a24 : PySem.W.nsIn K mainGlobals "same_at_begin" = some (some (.ref f24))) (l24 : K.lookup f24 = some ⟨oc24, od24, .func (PySem.W.fnOf "same_at_begin" "same_at_begin" (defArgs (topS 35)) (defBody (topS 35)) (defScope (topS 35)) .none kV24 dc24 pm24 an24 cd24 ct24), sl24⟩) (c24 : PySem.W.codeIn K cd24 "same_at_begin" = true) (k24 : PySem.W.keepIn K (.ref f24) = true)
    {f25 : Addr} {od25 an25 : Option Addr} {sl25 : Array (Option Value)} {oc25 kV25 dc25 pm25 cd25 ct25 : Value} (a25 : PySem.W.nsIn K mainGlobals "place_in" = some (some (.ref f25))) (l25 : K.lookup f25 = some ⟨oc25, od25, .func (PySem.W.fnOf "place_in" "place_in" (defArgs (topS 31)) (defBody (topS 31)) (defScope (topS 31)) .none kV25 dc25 pm25 an25 cd25 ct25), sl25⟩) (c25 : PySem.W.codeIn K cd25 "place_in" = true) (k25 : PySem.W.keepIn K (.ref f25) = true)
    {f26 : Addr} {od26 an26 : Option Addr} {sl26 : Array (Option Value)} {oc26 kV26 dc26 pm26 cd26 ct26 : Value} (a26 : PySem.W.nsIn K mainGlobals "together" = some (some (.ref f26))) (l26 : K.lookup f26 = some ⟨oc26, od26, .func (PySem.W.fnOf "together" "together" (defArgs (topS 21)) (defBody (topS 21)) (defScope (topS 21)) .none kV26 dc26 pm26 an26 cd26 ct26), sl26⟩) (c26 : PySem.W.codeIn K cd26 "together" = true) (k26 : PySem.W.keepIn K (.ref f26) = true)
    {f27 : Addr} {od27 an27 : Option Addr} {sl27 : Array (Option Value)} {oc27 kV27 dc27 pm27 cd27 ct27 : Value} (a27 : PySem.W.nsIn K mainGlobals "undoing" = some (some (.ref f27))) (l27 : K.lookup f27 = some ⟨oc27, od27, .func (PySem.W.fnOf "undoing" "undoing" (defArgs (topS 36)) (defBody (topS 36)) (defScope (topS 36)) .none kV27 dc27 pm27 an27 cd27 ct27), sl27⟩) (c27 : PySem.W.codeIn K cd27 "undoing" = true) (k27 : PySem.W.keepIn K (.ref f27) = true)
    {f28 : Addr} {od28 an28 : Option Addr} {sl28 : Array (Option Value)} {oc28 kV28 dc28 pm28 cd28 ct28 : Value} (a28 : PySem.W.nsIn K mainGlobals "back" = some (some (.ref f28))) (l28 : K.lookup f28 = some ⟨oc28, od28, .func (PySem.W.fnOf "back" "back" (defArgs (topS 22)) (defBody (topS 22)) (defScope (topS 22)) .none kV28 dc28 pm28 an28 cd28 ct28), sl28⟩) (c28 : PySem.W.codeIn K cd28 "back" = true) (k28 : PySem.W.keepIn K (.ref f28) = true)
    {f29 : Addr} {od29 an29 : Option Addr} {sl29 : Array (Option Value)} {oc29 kV29 dc29 pm29 cd29 ct29 : Value} (a29 : PySem.W.nsIn K mainGlobals "_law_odd" = some (some (.ref f29))) (l29 : K.lookup f29 = some ⟨oc29, od29, .func (PySem.W.fnOf "_law_odd" "_law_odd" (defArgs (topS 52)) (defBody (topS 52)) (defScope (topS 52)) .none kV29 dc29 pm29 an29 cd29 ct29), sl29⟩) (c29 : PySem.W.codeIn K cd29 "_law_odd" = true) (k29 : PySem.W.keepIn K (.ref f29) = true)
    {f30 : Addr} {od30 an30 : Option Addr} {sl30 : Array (Option Value)} {oc30 kV30 dc30 pm30 cd30 ct30 : Value} (a30 : PySem.W.nsIn K mainGlobals "number_behind" = some (some (.ref f30))) (l30 : K.lookup f30 = some ⟨oc30, od30, .func (PySem.W.fnOf "number_behind" "number_behind" (defArgs (topS 37)) (defBody (topS 37)) (defScope (topS 37)) .none kV30 dc30 pm30 an30 cd30 ct30), sl30⟩) (c30 : PySem.W.codeIn K cd30 "number_behind" = true) (k30 : PySem.W.keepIn K (.ref f30) = true)
    {f31 : Addr} {od31 an31 : Option Addr} {sl31 : Array (Option Value)} {oc31 kV31 dc31 pm31 cd31 ct31 : Value} (a31 : PySem.W.nsIn K mainGlobals "moved" = some (some (.ref f31))) (l31 : K.lookup f31 = some ⟨oc31, od31, .func (PySem.W.fnOf "moved" "moved" (defArgs (topS 23)) (defBody (topS 23)) (defScope (topS 23)) .none kV31 dc31 pm31 an31 cd31 ct31), sl31⟩) (c31 : PySem.W.codeIn K cd31 "moved" = true) (k31 : PySem.W.keepIn K (.ref f31) = true)
    {f32 cL : Addr} {od32 an32 : Option Addr} {sl32 : Array (Option Value)} {oc32 kV32 dc32 pm32 ct32 : Value} (a32 : PySem.W.nsIn K mainGlobals "law" = some (some (.ref f32))) (l32 : K.lookup f32 = some ⟨oc32, od32, .func (PySem.W.fnOf "law" "law" (defArgs (topS 53)) (defBody (topS 53)) (defScope (topS 53)) .none kV32 dc32 pm32 an32 (.ref cL) ct32), sl32⟩) (c32 : PySem.W.codeIn K (.ref cL) "law" = true) (k32 : PySem.W.keepIn K (.ref f32) = true)
    {pL : Addr} {occ : Value} {occd : Option Addr} {cvs : Array Value} {csl : Array (Option Value)} (lcc : K.lookup cL = some ⟨occ, occd, .fields cvs, csl⟩) (lcp : cvs[11]? = some (.ref pL)) (lct : h.get? pL = some { cls := .none, data := .fields #[] }) (lch : PySem.W.codeHdIn K cL pL = true) (lcn : K.lookup pL = none)
    (z_len : PySem.W.nsIn K mainGlobals "len" = some none)    (z_range : PySem.W.nsIn K mainGlobals "range" = some none)    (z_enumerate : PySem.W.nsIn K mainGlobals "enumerate" = some none)    (z_int : PySem.W.nsIn K mainGlobals "int" = some none)    (z_sorted : PySem.W.nsIn K mainGlobals "sorted" = some none)    (z_min : PySem.W.nsIn K mainGlobals "min" = some none)    (z_list : PySem.W.nsIn K mainGlobals "list" = some none)    (z_tuple : PySem.W.nsIn K mainGlobals "tuple" = some none)    (z_isinstance : PySem.W.nsIn K mainGlobals "isinstance" = some none)    (z_str : PySem.W.nsIn K mainGlobals "str" = some none)    (z_bool : PySem.W.nsIn K mainGlobals "bool" = some none)    (z_ValueError : PySem.W.nsIn K mainGlobals "ValueError" = some none)    (z_all : PySem.W.nsIn K mainGlobals "all" = some none)    (z_sum : PySem.W.nsIn K mainGlobals "sum" = some none)    (z_reversed : PySem.W.nsIn K mainGlobals "reversed" = some none)    {t_MOST_SIGNS : Tok} (z_MOST_SIGNS : PySem.W.nsIn K mainGlobals "MOST_SIGNS" = some (some (.int 200 t_MOST_SIGNS)))    {t_MOST_PUT : Tok} (z_MOST_PUT : PySem.W.nsIn K mainGlobals "MOST_PUT" = some (some (.int 40 t_MOST_PUT)))    {t_MOST_EDITS : Tok} (z_MOST_EDITS : PySem.W.nsIn K mainGlobals "MOST_EDITS" = some (some (.int 8 t_MOST_EDITS)))
    {C_BadSheet : Addr} (a_BadSheet : PySem.W.nsIn K mainGlobals "BadSheet" = some (some (.ref C_BadSheet))) (e_BadSheet : PySem.W.excIn K C_BadSheet [.type "ValueError", .type "Exception", .type "BaseException", .type "object"] "ValueError.__new__" = true) (k_BadSheet : PySem.W.keepIn K (.ref C_BadSheet) = true) (s_BadSheet : PySem.W.subIn K (.ref C_BadSheet) (.type "BaseException") = some true) (t_BadSheet : PySem.W.typeIn K (.ref C_BadSheet) = some (.type "type"))
    {C_BadPlace : Addr} (a_BadPlace : PySem.W.nsIn K mainGlobals "BadPlace" = some (some (.ref C_BadPlace))) (e_BadPlace : PySem.W.excIn K C_BadPlace [.type "ValueError", .type "Exception", .type "BaseException", .type "object"] "ValueError.__new__" = true) (k_BadPlace : PySem.W.keepIn K (.ref C_BadPlace) = true) (s_BadPlace : PySem.W.subIn K (.ref C_BadPlace) (.type "BaseException") = some true) (t_BadPlace : PySem.W.typeIn K (.ref C_BadPlace) = some (.type "type")) {Ci_BadEdit fi_BadEdit di_BadEdit ci_BadEdit Ni_BadEdit : Addr} {ocBadEdit occBadEdit ocdBadEdit kVBadEdit dcBadEdit pmBadEdit ctBadEdit : Value} {odBadEdit anBadEdit oddBadEdit odcBadEdit ddBadEdit : Option Addr} {slBadEdit sldBadEdit slcBadEdit : Array (Option Value)} {vsBadEdit : Array Value} {fileBadEdit nmBadEdit qnBadEdit : Str} {tfBadEdit : Tok} {cdBadEdit : ClassData} {bsBadEdit bmBadEdit subBadEdit : List Value} {snBadEdit : List Str} {abBadEdit : Bool} {colBadEdit : Option Bool} {k0BadEdit k1BadEdit k2BadEdit k3BadEdit k5BadEdit : Option Value}
    (i1BadEdit : PySem.W.nsIn K mainGlobals "BadEdit" = some (some (.ref Ci_BadEdit))) (i2BadEdit : PySem.W.findIn K (.ref Ci_BadEdit) "__init__" = some (some (.ref fi_BadEdit))) (i3BadEdit : K.lookup fi_BadEdit = some ⟨ocBadEdit, odBadEdit, .func (PySem.W.ksFn "__init__" "BadEdit.__init__" (defArgs (iniOf (topS 4))) (defBody (iniOf (topS 4))) (defScope (iniOf (topS 4))) .none kVBadEdit dcBadEdit pmBadEdit anBadEdit (.ref di_BadEdit) ctBadEdit ci_BadEdit), slBadEdit⟩)
    (i4BadEdit : PySem.W.typeIn K (.ref fi_BadEdit) = some (.type "function")) (i5BadEdit : PySem.W.codeIn K (.ref di_BadEdit) "BadEdit.__init__" = true) (i6BadEdit : K.lookup di_BadEdit = some ⟨ocdBadEdit, oddBadEdit, .fields vsBadEdit, sldBadEdit⟩) (i7BadEdit : vsBadEdit[2]? = some (.str fileBadEdit tfBadEdit)) (i8BadEdit : ((l.prog.main.file : Str) == fileBadEdit) = true) (i9BadEdit : K.lookup ci_BadEdit = some ⟨occBadEdit, odcBadEdit, .cell (some (.ref Ci_BadEdit)), slcBadEdit⟩)
    (iaBadEdit : PySem.W.clsIn K Ci_BadEdit = some cdBadEdit) (ibBadEdit : PySem.W.mroIn K Ci_BadEdit (.ref Ci_BadEdit) = some true) (icBadEdit : PySem.W.nsIn K mainGlobals "super" = some none) (idBadEdit : (l.prog.main.scope.names.lookup ("super" : Str)).isSome = false) (ieBadEdit : PySem.W.nsIn K cStatics "thirdparty.any" = some none) (ifBadEdit : PySem.W.ks_superIn K Ci_BadEdit Ci_BadEdit "__init__" = some (some (.builtin "ValueError.__init__")))
    (igBadEdit : PySem.W.subIn K (.ref Ci_BadEdit) (.type "ValueError") = some true) (ihBadEdit : K.lookup Ci_BadEdit = some (excClassObj nmBadEdit qnBadEdit Ci_BadEdit Ni_BadEdit bsBadEdit bmBadEdit true snBadEdit subBadEdit abBadEdit colBadEdit ddBadEdit k0BadEdit k1BadEdit k2BadEdit k3BadEdit k5BadEdit "ValueError.__new__")) (iiBadEdit : PySem.HandSPX.refsVE bmBadEdit = true) (ijBadEdit : PySem.W.findIn K (.ref Ci_BadEdit) "__setattr__" = some (some (.builtin "object.__setattr__")))
    (ikBadEdit : PySem.W.subIn K (.ref Ci_BadEdit) (.type "BaseException") = some true) (ilBadEdit : PySem.W.typeIn K (.ref Ci_BadEdit) = some (.type "type")) (imBadEdit : PySem.W.keepIn K (.ref Ci_BadEdit) = true) (inBadEdit : PySem.W.findIn K (.ref Ci_BadEdit) "number" = some none)
    {c100 : Addr} (aw0 : PySem.W.nsIn K mainGlobals "BadSheet" = some (some (.ref c100)))
    {c101 : Addr} (aw1 : PySem.W.nsIn K mainGlobals "BadPlace" = some (some (.ref c101)))
    {c102 : Addr} (aw2 : PySem.W.nsIn K mainGlobals "BadEdit" = some (some (.ref c102)))
    {c103 : Addr} (aw3 : PySem.W.nsIn K mainGlobals "BadFile" = some (some (.ref c103)))
    {c104 : Addr} (aw4 : PySem.W.nsIn K mainGlobals "Opened" = some (some (.ref c104)))
    {c105 : Addr} (aw5 : PySem.W.nsIn K mainGlobals "NoFile" = some (some (.ref c105)))
    {c106 : Addr} (aw6 : PySem.W.nsIn K mainGlobals "TooMany" = some (some (.ref c106)))
    {c107 : Addr} (aw7 : PySem.W.nsIn K mainGlobals "BadAsk" = some (some (.ref c107)))
    {c108 : Addr} (aw8 : PySem.W.nsIn K mainGlobals "NoAsk" = some (some (.ref c108)))
    {c109 : Addr} (aw9 : PySem.W.nsIn K mainGlobals "Old" = some (some (.ref c109)))
    {c110 : Addr} (aw10 : PySem.W.nsIn K mainGlobals "Fallen" = some (some (.ref c110)))
    {c111 : Addr} (aw11 : PySem.W.nsIn K mainGlobals "NotFallen" = some (some (.ref c111)))
    {c112 : Addr} (aw12 : PySem.W.nsIn K mainGlobals "BadLetter" = some (some (.ref c112)))
    {c113 : Addr} (aw13 : PySem.W.nsIn K mainGlobals "BadText" = some (some (.ref c113)))
    {CW : Addr} (awW : PySem.W.nsIn K mainGlobals "WireError" = some (some (.ref CW))) (okw : wkB K [c100, c101, c102, c103, c104, c105, c106, c107, c108, c109, c110, c111, c112, c113] CW = true) (xe2 : xfB K c102 = true) (ne2 : PySem.W.findIn K (.ref c102) "number" = some none) (xe13 : xfB K c113 = true) (ne13 : PySem.W.findIn K (.ref c113) "row" = some none) :
    ∃ (fd : FuncData) (c T : Addr) (sp : Sp), PySem.W.codeHdIn K c T = true ∧ h.get? T = some { cls := .none, data := .fields #[] } ∧ K.lookup T = none ∧ (∀ (s : Shared) (v : Value), BindsTo s fd ⟨[v], []⟩ [("_law_script", v)]) ∧ (∀ (H : Hp) (a : Addr) (ns : List Int), H T = some (.tbl #[]) → Scr K H a (ns.map V.int) → sp [.ref a] H (fun v _ => v = .bl true) L2.E0) ∧ ∀ base : Heap, K.In base → base.Ns mainGlobals mg → LamX.TabB base mg c T → FnOk l.prog w K mg base L2.CX0 15 fa fd ["_law_script"] sp := by
  have e := hfa.symm.trans (PySem.W.mg_of X G a32)
  cases e
  refine ⟨PySem.W.fnOf "law" "law" (defArgs (topS 53)) (defBody (topS 53)) (defScope (topS 53)) .none kV32 dc32 pm32 an32 (.ref cL) ct32, cL, pL, sp_law K pL, lch, lct, lcn, fun s v => .of_eq rfl, fun H a ns hT hS => ⟨a, ns, rfl, hS, fun p hp => by rw [List.mem_singleton.mp hp]; exact LamX.TabS.nil hT, fun _ => rfl⟩, fun base _ _ tb => ?_⟩
  have m_len : mg "len" = none := PySem.W.mg_none_of X G z_len
  have m_range : mg "range" = none := PySem.W.mg_none_of X G z_range
  have m_enumerate : mg "enumerate" = none := PySem.W.mg_none_of X G z_enumerate
  have m_int : mg "int" = none := PySem.W.mg_none_of X G z_int
  have m_sorted : mg "sorted" = none := PySem.W.mg_none_of X G z_sorted
  have m_min : mg "min" = none := PySem.W.mg_none_of X G z_min
  have m_list : mg "list" = none := PySem.W.mg_none_of X G z_list
  have m_tuple : mg "tuple" = none := PySem.W.mg_none_of X G z_tuple
  have m_isinstance : mg "isinstance" = none := PySem.W.mg_none_of X G z_isinstance
  have m_str : mg "str" = none := PySem.W.mg_none_of X G z_str
  have m_bool : mg "bool" = none := PySem.W.mg_none_of X G z_bool
  have m_ValueError : mg "ValueError" = none := PySem.W.mg_none_of X G z_ValueError
  have m_all : mg "all" = none := PySem.W.mg_none_of X G z_all
  have m_sum : mg "sum" = none := PySem.W.mg_none_of X G z_sum
  have m_reversed : mg "reversed" = none := PySem.W.mg_none_of X G z_reversed
  have c_MOST_SIGNS : mg "MOST_SIGNS" = some (.int 200 t_MOST_SIGNS) := PySem.W.mg_of X G z_MOST_SIGNS
  have c_MOST_PUT : mg "MOST_PUT" = some (.int 40 t_MOST_PUT) := PySem.W.mg_of X G z_MOST_PUT
  have c_MOST_EDITS : mg "MOST_EDITS" = some (.int 8 t_MOST_EDITS) := PySem.W.mg_of X G z_MOST_EDITS
  have x_BadSheet : Xc K mg "BadSheet" C_BadSheet := ⟨e_BadSheet, PySem.W.mg_of X G a_BadSheet, k_BadSheet, s_BadSheet, t_BadSheet⟩
  have x_BadPlace : Xc K mg "BadPlace" C_BadPlace := ⟨e_BadPlace, PySem.W.mg_of X G a_BadPlace, k_BadPlace, s_BadPlace, t_BadPlace⟩
  have ox_BadEdit : OexC K Ci_BadEdit := ⟨⟨_, _, _, _, _, _, _, _, _, _, _, _, _, _, _, ihBadEdit, iiBadEdit⟩, ijBadEdit, ikBadEdit, ilBadEdit, imBadEdit⟩
  have xc_BadEdit : IniC l.prog K mg "number" "BadEdit.__init__" Ci_BadEdit Ci_BadEdit fi_BadEdit di_BadEdit ci_BadEdit (defArgs (iniOf (topS 4))) (defScope (iniOf (topS 4))) := ⟨ini_by (by decide +kernel), by decide, rfl, i5BadEdit, ⟨_, _, _, _, _, _, i6BadEdit, i7BadEdit, i8BadEdit⟩, ⟨_, _, _, i9BadEdit⟩, ⟨_, iaBadEdit⟩, ibBadEdit, PySem.W.mg_none_of X G icBadEdit, idBadEdit, ieBadEdit, ifBadEdit, igBadEdit, ox_BadEdit, inBadEdit⟩
  have xi_BadEdit : Xi l.prog w K mg base "BadEdit" "number" Ci_BadEdit fi_BadEdit _ := ⟨ox_BadEdit, i2BadEdit, i4BadEdit, init_ok xc_BadEdit (by decide +kernel) (by decide +kernel) (fun _ => rfl) (fun _ => rfl) (fun _ => rfl) (fun _ => rfl) (by decide) (by decide) i3BadEdit, .all fun us hl => (match us, hl with | [_, _], _ => rfl), PySem.W.mg_of X G i1BadEdit⟩
  have wk : Wk K mg [c100, c101, c102, c103, c104, c105, c106, c107, c108, c109, c110, c111, c112, c113] CW := ⟨okw, fun i n C h1 h2 => (match i, h1, h2 with
    | 0, h1, h2 => by cases h1; cases h2; exact PySem.W.mg_of X G aw0
    | 1, h1, h2 => by cases h1; cases h2; exact PySem.W.mg_of X G aw1
    | 2, h1, h2 => by cases h1; cases h2; exact PySem.W.mg_of X G aw2
    | 3, h1, h2 => by cases h1; cases h2; exact PySem.W.mg_of X G aw3
    | 4, h1, h2 => by cases h1; cases h2; exact PySem.W.mg_of X G aw4
    | 5, h1, h2 => by cases h1; cases h2; exact PySem.W.mg_of X G aw5
    | 6, h1, h2 => by cases h1; cases h2; exact PySem.W.mg_of X G aw6
    | 7, h1, h2 => by cases h1; cases h2; exact PySem.W.mg_of X G aw7
    | 8, h1, h2 => by cases h1; cases h2; exact PySem.W.mg_of X G aw8
    | 9, h1, h2 => by cases h1; cases h2; exact PySem.W.mg_of X G aw9
    | 10, h1, h2 => by cases h1; cases h2; exact PySem.W.mg_of X G aw10
    | 11, h1, h2 => by cases h1; cases h2; exact PySem.W.mg_of X G aw11
    | 12, h1, h2 => by cases h1; cases h2; exact PySem.W.mg_of X G aw12
    | 13, h1, h2 => by cases h1; cases h2; exact PySem.W.mg_of X G aw13
    | k + 14, h1, h2 => by simp [wNames] at h1), PySem.W.mg_of X G awW⟩
  have xfE := xfB_ok xe2
  have noE := ne2
  have xfT := xfB_ok xe13
  have noT := ne13
  have F0 := fun_mk (st := topS 39) l0 c0 k0
  have b0 := F0.binds (ps := ["_law_script"]) fun _ _ _ _ _ _ us hl => match us, hl with | [_], _ => rfl
  have d__law_start : Df l.prog w K mg base "_law_start" ["_law_script"] 1 (sp__law_start K) := ⟨f0, _, ok__law_start F0 , PySem.W.mg_of X G a0, k0, b0⟩
  have F1 := fun_mk (st := topS 40) l1 c1 k1
  have b1 := F1.binds (ps := ["_law_state", "_law_many"]) fun _ _ _ _ _ _ us hl => match us, hl with | [_, _], _ => rfl
  have d__law_drawn : Df l.prog w K mg base "_law_drawn" ["_law_state", "_law_many"] 1 (spDrawn K) := ⟨f1, _, ok__law_drawn F1 (m_len := m_len), PySem.W.mg_of X G a1, k1, b1⟩
  have F2 := fun_mk (st := topS 44) l2 c2 k2
  have b2 := F2.binds (ps := ["_law_state"]) fun _ _ _ _ _ _ us hl => match us, hl with | [_], _ => rfl
  have d__law_sign : Df l.prog w K mg base "_law_sign" ["_law_state"] 2 (sp__law_sign K) := ⟨f2, _, ok__law_sign F2 (m_len := m_len) (d__law_drawn := d__law_drawn), PySem.W.mg_of X G a2, k2, b2⟩
  have F3 := fun_mk (st := topS 45) l3 c3 k3
  have b3 := F3.binds (ps := ["_law_state", "_law_most"]) fun _ _ _ _ _ _ us hl => match us, hl with | [_, _], _ => rfl
  have d__law_put : Df l.prog w K mg base "_law_put" ["_law_state", "_law_most"] 3 (sp__law_put K) := ⟨f3, _, ok__law_put F3 (m_range := m_range) (d__law_drawn := d__law_drawn) (d__law_sign := d__law_sign), PySem.W.mg_of X G a3, k3, b3⟩
  have F4 := fun_mk (st := topS 46) l4 c4 k4
  have b4 := F4.binds (ps := ["_law_state"]) fun _ _ _ _ _ _ us hl => match us, hl with | [_], _ => rfl
  have d__law_sheet : Df l.prog w K mg base "_law_sheet" ["_law_state"] 4 (sp__law_sheet K) := ⟨f4, _, ok__law_sheet F4 (d__law_put := d__law_put) (d__law_drawn := d__law_drawn), PySem.W.mg_of X G a4, k4, b4⟩
  have F5 := fun_mk (st := topS 48) l5 c5 k5
  have b5 := F5.binds (ps := ["_law_sheet_here"]) fun _ _ _ _ _ _ us hl => match us, hl with | [_], _ => rfl
  have d__law_numbers : Df l.prog w K mg base "_law_numbers" ["_law_sheet_here"] 1 (sp__law_numbers) := ⟨f5, _, ok__law_numbers F5 (m_enumerate := m_enumerate) (m_int := m_int), PySem.W.mg_of X G a5, k5, b5⟩
  have F6 := fun_mk (st := topS 50) l6 c6 k6
  have b6 := F6.binds (ps := ["_law_sheet_here", "_law_one"]) fun _ _ _ _ _ _ us hl => match us, hl with | [_, _], _ => rfl
  have d__law_after : Df l.prog w K mg base "_law_after" ["_law_sheet_here", "_law_one"] 2 sp__law_after := ⟨f6, _, ok__law_after F6 (d__law_numbers := d__law_numbers), PySem.W.mg_of X G a6, k6, b6⟩
  have F7 := fun_mk (st := topS 47) l7 c7 k7
  have b7 := F7.binds (ps := ["_law_sheet_here", "_law_number"]) fun _ _ _ _ _ _ us hl => match us, hl with | [_, _], _ => rfl
  have d__law_at : Df l.prog w K mg base "_law_at" ["_law_sheet_here", "_law_number"] 1 sp__law_at := ⟨f7, _, ok__law_at F7 (m_int := m_int), PySem.W.mg_of X G a7, k7, b7⟩
  have F8 := fun_mk (st := topS 49) l8 c8 k8
  have b8 := F8.binds (ps := ["_law_state", "_law_sheet_here"]) fun _ _ _ _ _ _ us hl => match us, hl with | [_, _], _ => rfl
  have d__law_edit : Df l.prog w K mg base "_law_edit" ["_law_state", "_law_sheet_here"] 4 (sp__law_edit K) := ⟨f8, _, ok__law_edit F8 (m_len := m_len) (m_sorted := m_sorted) (m_min := m_min) (d__law_drawn := d__law_drawn) (d__law_put := d__law_put) (d__law_at := d__law_at), PySem.W.mg_of X G a8, k8, b8⟩
  have F9 := fun_mk (st := topS 51) l9 c9 k9
  have b9 := F9.binds (ps := ["_law_state", "_law_sheet_here", "_law_most"]) fun _ _ _ _ _ _ us hl => match us, hl with | [_, _, _], _ => rfl
  have d__law_edits : Df l.prog w K mg base "_law_edits" ["_law_state", "_law_sheet_here", "_law_most"] 5 (sp__law_edits K) := ⟨f9, _, ok__law_edits F9 (m_range := m_range) (d__law_drawn := d__law_drawn) (d__law_edit := d__law_edit) (d__law_after := d__law_after), PySem.W.mg_of X G a9, k9, b9⟩
  have F10 := fun_mk (st := topS 41) l10 c10 k10
  have b10 := F10.binds (ps := ["_law_found", "_law_due"]) fun _ _ _ _ _ _ us hl => match us, hl with | [_, _], _ => rfl
  have s0 : Df l.prog w K mg base "_law_same" ["_law_found", "_law_due"] 0 (SameSp (okL 0)) := ⟨f10, _, ⟨fun vs H Q E h => SpR.len h, fun A outer s H args us vs Q E hr e0 hb r h => by obtain ⟨_, _, _, _, ⟨_, _, z, _⟩, _⟩ := h; exact z.elim⟩, PySem.W.mg_of X G a10, k10, b10⟩
  have s1 : Df l.prog w K mg base "_law_same" ["_law_found", "_law_due"] 1 (SameSp (okL 1)) := ⟨f10, _, ok__law_same F10 (m_list := m_list) (m_tuple := m_tuple) (m_isinstance := m_isinstance) (m_len := m_len) (m_range := m_range) (m_str := m_str) (m_bool := m_bool) (m_int := m_int) (d__law_same := s0), PySem.W.mg_of X G a10, k10, b10⟩
  have s2 : Df l.prog w K mg base "_law_same" ["_law_found", "_law_due"] 2 (SameSp (okL 2)) := ⟨f10, _, ok__law_same F10 (m_list := m_list) (m_tuple := m_tuple) (m_isinstance := m_isinstance) (m_len := m_len) (m_range := m_range) (m_str := m_str) (m_bool := m_bool) (m_int := m_int) (d__law_same := s1), PySem.W.mg_of X G a10, k10, b10⟩
  have s3 : Df l.prog w K mg base "_law_same" ["_law_found", "_law_due"] 3 (SameSp (okL 3)) := ⟨f10, _, ok__law_same F10 (m_list := m_list) (m_tuple := m_tuple) (m_isinstance := m_isinstance) (m_len := m_len) (m_range := m_range) (m_str := m_str) (m_bool := m_bool) (m_int := m_int) (d__law_same := s2), PySem.W.mg_of X G a10, k10, b10⟩
  have d__law_same := s3
  have F11 := fun_mk (st := topS 42) l11 c11 k11
  have b11 := F11.binds (ps := ["_law_work"]) fun _ _ _ _ _ _ us hl => match us, hl with | [_], _ => rfl
  have d__law_word : Df l.prog w K mg base "_law_word" ["_law_work"] 13 (sp__law_word l.prog w K mg base) := ⟨f11, _, ok__law_word F11 (m_isinstance := m_isinstance) (m_ValueError := m_ValueError) (wk := wk) (xfE := xfE) (noE := noE) (xfT := xfT) (noT := noT), PySem.W.mg_of X G a11, k11, b11⟩
  have F12 := fun_mk (st := topS 43) l12 c12 k12
  have b12 := F12.binds (ps := ["_law_works", "_law_due"]) fun _ _ _ _ _ _ us hl => match us, hl with | [_, _], _ => rfl
  have d__law_all : Df l.prog w K mg base "_law_all" ["_law_works", "_law_due"] 14 (sp__law_all l.prog w K mg base) := ⟨f12, _, ok__law_all F12 (d__law_same := d__law_same) (d__law_word := d__law_word), PySem.W.mg_of X G a12, k12, b12⟩
  have F13 := fun_mk (st := topS 26) l13 c13 k13
  have b13 := F13.binds (ps := ["sign"]) fun _ _ _ _ _ _ us hl => match us, hl with | [_], _ => rfl
  have d_is_sign : Df l.prog w K mg base "is_sign" ["sign"] 1 sp_is_sign := ⟨f13, _, ok_is_sign F13 , PySem.W.mg_of X G a13, k13, b13⟩
  have F14 := fun_mk (st := topS 25) l14 c14 k14
  have b14 := F14.binds (ps := ["text", "most"]) fun _ _ _ _ _ _ us hl => match us, hl with | [_, _], _ => rfl
  have d_is_text_of_signs : Df l.prog w K mg base "is_text_of_signs" ["text", "most"] 2 sp_is_text_of_signs := ⟨f14, _, ok_is_text_of_signs F14 (m_str := m_str) (m_isinstance := m_isinstance) (m_len := m_len) (m_all := m_all) (d_is_sign := d_is_sign), PySem.W.mg_of X G a14, k14, b14⟩
  have F15 := fun_mk (st := topS 24) l15 c15 k15
  have b15 := F15.binds (ps := ["sheet"]) fun _ _ _ _ _ _ us hl => match us, hl with | [_], _ => rfl
  have d_check_sheet : DfX l.prog w K mg base "check_sheet" ["sheet"] 3 (sp_check_sheet mg) := ⟨f15, _, ok_check_sheet F15 (c_MOST_SIGNS := c_MOST_SIGNS) (d_is_text_of_signs := d_is_text_of_signs) (x_BadSheet := x_BadSheet), PySem.W.mg_of X G a15, k15, b15⟩
  have F16 := fun_mk (st := topS 34) l16 c16 k16
  have b16 := F16.binds (ps := ["span"]) fun _ _ _ _ _ _ us hl => match us, hl with | [_], _ => rfl
  have d_behind : Df l.prog w K mg base "behind" ["span"] 1 sp_behind := ⟨f16, _, ok_behind F16 , PySem.W.mg_of X G a16, k16, b16⟩
  have F17 := fun_mk (st := topS 27) l17 c17 k17
  have b17 := F17.binds (ps := ["value"]) fun _ _ _ _ _ _ us hl => match us, hl with | [_], _ => rfl
  have d_is_number : Df l.prog w K mg base "is_number" ["value"] 1 sp_is_number := ⟨f17, _, ok_is_number F17 (m_int := m_int) (m_isinstance := m_isinstance) (m_bool := m_bool), PySem.W.mg_of X G a17, k17, b17⟩
  have F18 := fun_mk (st := topS 28) l18 c18 k18
  have b18 := F18.binds (ps := ["value"]) fun _ _ _ _ _ _ us hl => match us, hl with | [_], _ => rfl
  have d_is_two_numbers : Df l.prog w K mg base "is_two_numbers" ["value"] 2 sp_is_two_numbers := ⟨f18, _, ok_is_two_numbers F18 (m_tuple := m_tuple) (m_isinstance := m_isinstance) (m_len := m_len) (d_is_number := d_is_number), PySem.W.mg_of X G a18, k18, b18⟩
  have F19 := fun_mk (st := topS 29) l19 c19 k19
  have b19 := F19.binds (ps := ["sheet", "value"]) fun _ _ _ _ _ _ us hl => match us, hl with | [_, _], _ => rfl
  have d_is_place : Df l.prog w K mg base "is_place" ["sheet", "value"] 3 sp_is_place := ⟨f19, _, ok_is_place F19 (m_len := m_len) (d_is_two_numbers := d_is_two_numbers), PySem.W.mg_of X G a19, k19, b19⟩
  have F20 := fun_mk (st := topS 30) l20 c20 k20
  have b20 := F20.binds (ps := ["sheet", "place"]) fun _ _ _ _ _ _ us hl => match us, hl with | [_, _], _ => rfl
  have d_number_in : DfX l.prog w K mg base "number_in" ["sheet", "place"] 4 (sp_number_in mg) := ⟨f20, _, ok_number_in F20 (m_len := m_len) (m_sum := m_sum) (d_is_place := d_is_place) (x_BadPlace := x_BadPlace), PySem.W.mg_of X G a20, k20, b20⟩
  have F21 := fun_mk (st := topS 33) l21 c21 k21
  have b21 := F21.binds (ps := ["sheet", "edit"]) fun _ _ _ _ _ _ us hl => match us, hl with | [_, _], _ => rfl
  have d_can_be_done : Df l.prog w K mg base "can_be_done" ["sheet", "edit"] 5 spX_can_be_done := ⟨f21, _, ok_can_be_done F21 (m_tuple := m_tuple) (m_isinstance := m_isinstance) (m_len := m_len) (c_MOST_PUT := c_MOST_PUT) (c_MOST_SIGNS := c_MOST_SIGNS) (d_is_place := d_is_place) (d_is_text_of_signs := d_is_text_of_signs) (d_number_in := d_number_in), PySem.W.mg_of X G a21, k21, b21⟩
  have F22 := fun_mk (st := topS 32) l22 c22 k22
  have b22 := F22.binds (ps := ["sheet", "edits"]) fun _ _ _ _ _ _ us hl => match us, hl with | [_, _], _ => rfl
  have d_spans_of : DfX l.prog w K mg base "spans_of" ["sheet", "edits"] 6 (spX_spans_of mg) := ⟨f22, _, ok_spans_of F22 (m_enumerate := m_enumerate) (c_MOST_EDITS := c_MOST_EDITS) (d_check_sheet := d_check_sheet) (d_can_be_done := d_can_be_done) (d_number_in := d_number_in) (d_behind := d_behind) (xi_BadEdit := xi_BadEdit), PySem.W.mg_of X G a22, k22, b22⟩
  have F23 := fun_mk (st := topS 20) l23 c23 k23
  have b23 := F23.binds (ps := ["sheet", "edits"]) fun _ _ _ _ _ _ us hl => match us, hl with | [_, _], _ => rfl
  have d_edited : DfX l.prog w K mg base "edited" ["sheet", "edits"] 7 (spX_edited mg) := ⟨f23, _, ok_edited F23 (d_spans_of := d_spans_of) (d_behind := d_behind), PySem.W.mg_of X G a23, k23, b23⟩
  have F24 := fun_mk (st := topS 35) l24 c24 k24
  have b24 := F24.binds (ps := ["one", "other"]) fun _ _ _ _ _ _ us hl => match us, hl with | [_, _], _ => rfl
  have d_same_at_begin : Df l.prog w K mg base "same_at_begin" ["one", "other"] 1 sp_same_at_begin := ⟨f24, _, ok_same_at_begin F24 (m_len := m_len), PySem.W.mg_of X G a24, k24, b24⟩
  have F25 := fun_mk (st := topS 31) l25 c25 k25
  have b25 := F25.binds (ps := ["sheet", "number"]) fun _ _ _ _ _ _ us hl => match us, hl with | [_, _], _ => rfl
  have d_place_in : DfX l.prog w K mg base "place_in" ["sheet", "number"] 2 (sp_place_in mg) := ⟨f25, _, ok_place_in F25 (m_len := m_len) (d_is_number := d_is_number) (x_BadPlace := x_BadPlace), PySem.W.mg_of X G a25, k25, b25⟩
  have F26 := fun_mk (st := topS 21) l26 c26 k26
  have b26 := F26.binds (ps := ["sheet", "edits"]) fun _ _ _ _ _ _ us hl => match us, hl with | [_, _], _ => rfl
  have d_together : DfX l.prog w K mg base "together" ["sheet", "edits"] 8 (spX_together mg) := ⟨f26, _, ok_together F26 (m_len := m_len) (d_edited := d_edited) (d_same_at_begin := d_same_at_begin) (d_place_in := d_place_in), PySem.W.mg_of X G a26, k26, b26⟩
  have F27 := fun_mk (st := topS 36) l27 c27 k27
  have b27 := F27.binds (ps := ["span"]) fun _ _ _ _ _ _ us hl => match us, hl with | [_], _ => rfl
  have d_undoing : Df l.prog w K mg base "undoing" ["span"] 3 sp_undoing := ⟨f27, _, ok_undoing F27 (m_len := m_len) (d_place_in := d_place_in) (d_behind := d_behind), PySem.W.mg_of X G a27, k27, b27⟩
  have F28 := fun_mk (st := topS 22) l28 c28 k28
  have b28 := F28.binds (ps := ["sheet", "edits"]) fun _ _ _ _ _ _ us hl => match us, hl with | [_, _], _ => rfl
  have d_back : DfX l.prog w K mg base "back" ["sheet", "edits"] 7 (spX_back mg) := ⟨f28, _, ok_back F28 (m_reversed := m_reversed) (d_spans_of := d_spans_of) (d_undoing := d_undoing), PySem.W.mg_of X G a28, k28, b28⟩
  have F29 := fun_mk (st := topS 52) l29 c29 k29
  have b29 := F29.binds (ps := ["_law_state", "_law_sheet_here"]) fun _ _ _ _ _ _ us hl => match us, hl with | [_, _], _ => rfl
  have d__law_odd : Df l.prog w K mg base "_law_odd" ["_law_state", "_law_sheet_here"] 5 (sp__law_odd K) := ⟨f29, _, ok__law_odd F29 (m_len := m_len) (d__law_edit := d__law_edit) (d__law_drawn := d__law_drawn), PySem.W.mg_of X G a29, k29, b29⟩
  have F30 := fun_mk (st := topS 37) l30 c30 k30
  have b30 := F30.binds (ps := ["span", "number"]) fun _ _ _ _ _ _ us hl => match us, hl with | [_, _], _ => rfl
  have d_number_behind : Df l.prog w K mg base "number_behind" ["span", "number"] 1 sp_number_behind := ⟨f30, _, ok_number_behind F30 (m_len := m_len), PySem.W.mg_of X G a30, k30, b30⟩
  have F31 := fun_mk (st := topS 23) l31 c31 k31
  have b31 := F31.binds (ps := ["sheet", "edits", "place"]) fun _ _ _ _ _ _ us hl => match us, hl with | [_, _, _], _ => rfl
  have d_moved : DfX l.prog w K mg base "moved" ["sheet", "edits", "place"] 7 (spX_moved mg) := ⟨f31, _, ok_moved F31 (d_spans_of := d_spans_of) (d_number_in := d_number_in) (d_number_behind := d_number_behind) (d_place_in := d_place_in) (d_behind := d_behind), PySem.W.mg_of X G a31, k31, b31⟩
  exact ok_law (F := ⟨⟨_, _, _, _, _, _, _, _, rfl, l32, c32⟩⟩) (m_range := m_range) (m_list := m_list) (m_len := m_len) (m_min := m_min) (d__law_start := d__law_start) (d__law_sheet := d__law_sheet) (d__law_edits := d__law_edits) (d__law_same := d__law_same) (d_edited := d_edited) (d__law_drawn := d__law_drawn) (d__law_after := d__law_after) (d__law_odd := d__law_odd) (d_back := d_back) (d_together := d_together) (d__law_all := d__law_all) (d_moved := d_moved) (tb := tb)
end
end HW
open PySem PySem.W PyProof.Rows
set_option maxHeartbeats 0 in
theorem PySem.Challenge.cw_helperwire_k02_edits_holds : PySem.Challenge.rw_helperwire_k02_edits.Holds := by
  w_on; o_law; k_head; (case hw => w_witness2)
  k_fill
  refine HW.walk_tab (l := PySem.Challenge.rw_helperwire_k02_edits) (n := 63) (k := 15) (x := "_law_script") rfl (by decide) rfl ⟨rfl, by decide, by decide⟩ (fun w h Y => PySem.W.km_in_of Y) ?F
  case F =>
    intro w mg fa h Y KX G hmg
    refine' HW.all_mk KX G hmg ?a0 ?l0 ?c0 ?k0 ?a1 ?l1 ?c1 ?k1 ?a2 ?l2 ?c2 ?k2 ?a3 ?l3 ?c3 ?k3 ?a4 ?l4 ?c4 ?k4 ?a5 ?l5 ?c5 ?k5 ?a6 ?l6 ?c6 ?k6 ?a7 ?l7 ?c7 ?k7 ?a8 ?l8 ?c8 ?k8 ?a9 ?l9 ?c9 ?k9 ?a10 ?l10 ?c10 ?k10 ?a11 ?l11 ?c11 ?k11 ?a12 ?l12 ?c12 ?k12 ?a13 ?l13 ?c13 ?k13 ?a14 ?l14 ?c14 ?k14 ?a15 ?l15 ?c15 ?k15 ?a16 ?l16 ?c16 ?k16 ?a17 ?l17 ?c17 ?k17 ?a18 ?l18 ?c18 ?k18 ?a19 ?l19 ?c19 ?k19 ?a20 ?l20 ?c20 ?k20 ?a21 ?l21 ?c21 ?k21 ?a22 ?l22 ?c22 ?k22 ?a23 ?l23 ?c23 ?k23 ?a24 ?l24 ?c24 ?k24 ?a25 ?l25 ?c25 ?k25 ?a26 ?l26 ?c26 ?k26 ?a27 ?l27 ?c27 ?k27 ?a28 ?l28 ?c28 ?k28 ?a29 ?l29 ?c29 ?k29 ?a30 ?l30 ?c30 ?k30 ?a31 ?l31 ?c31 ?k31 ?a32 ?l32 ?c32 ?k32 ?lcc ?lcp ?lct ?lch ?lcn ?z_len ?z_range ?z_enumerate ?z_int ?z_sorted ?z_min ?z_list ?z_tuple ?z_isinstance ?z_str ?z_bool ?z_ValueError ?z_all ?z_sum ?z_reversed ?z_MOST_SIGNS ?z_MOST_PUT ?z_MOST_EDITS ?a_BadSheet ?e_BadSheet ?k_BadSheet ?s_BadSheet ?t_BadSheet ?a_BadPlace ?e_BadPlace ?k_BadPlace ?s_BadPlace ?t_BadPlace ?i1BadEdit ?i2BadEdit ?i3BadEdit ?i4BadEdit ?i5BadEdit ?i6BadEdit ?i7BadEdit ?i8BadEdit ?i9BadEdit ?iaBadEdit ?ibBadEdit ?icBadEdit ?idBadEdit ?ieBadEdit ?ifBadEdit ?igBadEdit ?ihBadEdit ?iiBadEdit ?ijBadEdit ?ikBadEdit ?ilBadEdit ?imBadEdit ?inBadEdit ?aw0 ?aw1 ?aw2 ?aw3 ?aw4 ?aw5 ?aw6 ?aw7 ?aw8 ?aw9 ?aw10 ?aw11 ?aw12 ?aw13 ?awW ?okw ?xe2 ?ne2 ?xe13 ?ne13
    (case a0 => k_is)
    (case l0 => k_is)
    (case c0 => k_is)
    (case k0 => k_is)
    (case a1 => k_is)
    (case l1 => k_is)
    (case c1 => k_is)
    (case k1 => k_is)
    (case a2 => k_is)
    (case l2 => k_is)
    (case c2 => k_is)
    (case k2 => k_is)
    (case a3 => k_is)
    (case l3 => k_is)
    (case c3 => k_is)
    (case k3 => k_is)
    (case a4 => k_is)
    (case l4 => k_is)
    (case c4 => k_is)
    (case k4 => k_is)
    (case a5 => k_is)
    (case l5 => k_is)
    (case c5 => k_is)
    (case k5 => k_is)
    (case a6 => k_is)
    (case l6 => k_is)
    (case c6 => k_is)
    (case k6 => k_is)
    (case a7 => k_is)
    (case l7 => k_is)
    (case c7 => k_is)
    (case k7 => k_is)
    (case a8 => k_is)
    (case l8 => k_is)
    (case c8 => k_is)
    (case k8 => k_is)
    (case a9 => k_is)
    (case l9 => k_is)
    (case c9 => k_is)
    (case k9 => k_is)
    (case a10 => k_is)
    (case l10 => k_is)
    (case c10 => k_is)
    (case k10 => k_is)
    (case a11 => k_is)
    (case l11 => k_is)
    (case c11 => k_is)
    (case k11 => k_is)
    (case a12 => k_is)
    (case l12 => k_is)
    (case c12 => k_is)
    (case k12 => k_is)
    (case a13 => k_is)
    (case l13 => k_is)
    (case c13 => k_is)
    (case k13 => k_is)
    (case a14 => k_is)
    (case l14 => k_is)
    (case c14 => k_is)
    (case k14 => k_is)
    (case a15 => k_is)
    (case l15 => k_is)
    (case c15 => k_is)
    (case k15 => k_is)
    (case a16 => k_is)
    (case l16 => k_is)
    (case c16 => k_is)
    (case k16 => k_is)
    (case a17 => k_is)
    (case l17 => k_is)
    (case c17 => k_is)
    (case k17 => k_is)
    (case a18 => k_is)
    (case l18 => k_is)
    (case c18 => k_is)
    (case k18 => k_is)
    (case a19 => k_is)
    (case l19 => k_is)
    (case c19 => k_is)
    (case k19 => k_is)
    (case a20 => k_is)
    (case l20 => k_is)
    (case c20 => k_is)
    (case k20 => k_is)
    (case a21 => k_is)
    (case l21 => k_is)
    (case c21 => k_is)
    (case k21 => k_is)
    (case a22 => k_is)
    (case l22 => k_is)
    (case c22 => k_is)
    (case k22 => k_is)
    (case a23 => k_is)
    (case l23 => k_is)
    (case c23 => k_is)
    (case k23 => k_is)
    (case a24 => k_is)
    (case l24 => k_is)
    (case c24 => k_is)
    (case k24 => k_is)
    (case a25 => k_is)
    (case l25 => k_is)
    (case c25 => k_is)
    (case k25 => k_is)
    (case a26 => k_is)
    (case l26 => k_is)
    (case c26 => k_is)
    (case k26 => k_is)
    (case a27 => k_is)
    (case l27 => k_is)
    (case c27 => k_is)
    (case k27 => k_is)
    (case a28 => k_is)
    (case l28 => k_is)
    (case c28 => k_is)
    (case k28 => k_is)
    (case a29 => k_is)
    (case l29 => k_is)
    (case c29 => k_is)
    (case k29 => k_is)
    (case a30 => k_is)
    (case l30 => k_is)
    (case c30 => k_is)
    (case k30 => k_is)
    (case a31 => k_is)
    (case l31 => k_is)
    (case c31 => k_is)
    (case k31 => k_is)
    (case a32 => k_is)
    (case l32 => k_is)
    (case c32 => k_is)
    (case k32 => k_is)
    (case lcc => k_is)
    (case lcp => exact rfl)
    (case lct => exact PySem.W.km_tabs_of Y _ (by simp))
    (case lch => kernel_rfl)
    (case lcn => kernel_rfl)
    (case z_len => k_is)
    (case z_range => k_is)
    (case z_enumerate => k_is)
    (case z_int => k_is)
    (case z_sorted => k_is)
    (case z_min => k_is)
    (case z_list => k_is)
    (case z_tuple => k_is)
    (case z_isinstance => k_is)
    (case z_str => k_is)
    (case z_bool => k_is)
    (case z_ValueError => k_is)
    (case z_all => k_is)
    (case z_sum => k_is)
    (case z_reversed => k_is)
    (case z_MOST_SIGNS => k_is)
    (case z_MOST_PUT => k_is)
    (case z_MOST_EDITS => k_is)
    (case a_BadSheet => k_is)
    (case e_BadSheet => k_exc)
    (case k_BadSheet => k_is)
    (case s_BadSheet => k_is)
    (case t_BadSheet => k_is)
    (case a_BadPlace => k_is)
    (case e_BadPlace => k_exc)
    (case k_BadPlace => k_is)
    (case s_BadPlace => k_is)
    (case t_BadPlace => k_is)
    (case i1BadEdit => k_is)
    (case i2BadEdit => k_is)
    (case i3BadEdit => k_is)
    (case i4BadEdit => k_is)
    (case i5BadEdit => k_is)
    (case i6BadEdit => k_is)
    (case i7BadEdit => exact rfl)
    (case i8BadEdit => kernel_rfl)
    (case i9BadEdit => k_is)
    (case iaBadEdit => k_is)
    (case ibBadEdit => k_is)
    (case icBadEdit => k_is)
    (case idBadEdit => kernel_rfl)
    (case ieBadEdit => k_is)
    (case ifBadEdit => kernel_rfl)
    (case igBadEdit => k_is)
    (case ihBadEdit => k_is)
    (case iiBadEdit => kernel_rfl)
    (case ijBadEdit => k_is)
    (case ikBadEdit => k_is)
    (case ilBadEdit => k_is)
    (case imBadEdit => k_is)
    (case inBadEdit => k_is)
    (case aw0 => k_is)
    (case aw1 => k_is)
    (case aw2 => k_is)
    (case aw3 => k_is)
    (case aw4 => k_is)
    (case aw5 => k_is)
    (case aw6 => k_is)
    (case aw7 => k_is)
    (case aw8 => k_is)
    (case aw9 => k_is)
    (case aw10 => k_is)
    (case aw11 => k_is)
    (case aw12 => k_is)
    (case aw13 => k_is)
    (case awW => k_is)
    (case okw => kernel_rfl)
    (case xe2 => kernel_rfl)
    (case ne2 => k_is)
    (case xe13 => kernel_rfl)
    (case ne13 => k_is)

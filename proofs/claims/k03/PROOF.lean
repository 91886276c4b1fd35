import PyProof.Rows.All
import Wide.All
import OpenK.AllK
import Wide.FinOn
import HandS.ForMost
import HandS.Evl
import HandS.IsInst
import HandS.Codes
import HandS.StrMore
import HandS.Wide
import HandS.EndBits
import HandS.Style
import KE.KDictDisplayH
import KE.KRevSl
import PyProof.Draws
import PyProof.EnumMake
import PyProof.Rows.TupDisplay
import PyProof.StrLawsLast
import HandS.Walk
import PySem.Challenge.RW_helperwire_k03_together_and_back
set_option Elab.async false
set_option linter.all false
set_option maxRecDepth 100000
namespace HW
open PySem PySem.Spec PyProof.Rows L2 Evl SX

/-! ### data as a whole -/
inductive D where
  | non | bl (b : Bool) | int (i : Int) | str (l : List Nat) | tup (ds : List D) | lst (ds : List D)

mutual
def Rp (H : Hp) : D → V → Prop
  | .non, v => v = .non
  | .bl b, v => v = .bl b
  | .int i, v => v = .int i
  | .str l, v => v = .str (S l)
  | .tup ds, v => ∃ p vs, v = .ref p ∧ H p = some (.tup vs) ∧ Rps H ds vs
  | .lst ds, v => ∃ p vs, v = .ref p ∧ H p = some (.lst vs) ∧ Rps H ds vs
def Rps (H : Hp) : List D → List V → Prop
  | [], vs => vs = []
  | d :: ds, vs => ∃ v r, vs = v :: r ∧ Rp H d v ∧ Rps H ds r
end
mutual
theorem Rp.ex {H H' : Hp} (e : Ex H H') : ∀ {d : D} {v : V}, Rp H d v → Rp H' d v
  | .non, _, h => by rw [Rp] at h ⊢; exact h
  | .bl _, _, h => by rw [Rp] at h ⊢; exact h
  | .int _, _, h => by rw [Rp] at h ⊢; exact h
  | .str _, _, h => by rw [Rp] at h ⊢; exact h
  | .tup ds, _, h => by
    rw [Rp] at h ⊢
    obtain ⟨p, vs, h1, h2, h3⟩ := h
    exact ⟨p, vs, h1, e _ _ h2, Rps.ex e h3⟩
  | .lst ds, _, h => by
    rw [Rp] at h ⊢
    obtain ⟨p, vs, h1, h2, h3⟩ := h
    exact ⟨p, vs, h1, e _ _ h2, Rps.ex e h3⟩
theorem Rps.ex {H H' : Hp} (e : Ex H H') : ∀ {ds : List D} {vs : List V}, Rps H ds vs → Rps H' ds vs
  | [], _, h => by rw [Rps] at h ⊢; exact h
  | d :: ds, _, h => by
    rw [Rps] at h ⊢
    obtain ⟨v, r, h1, h2, h3⟩ := h
    exact ⟨v, r, h1, Rp.ex e h2, Rps.ex e h3⟩
end
section
variable {H : Hp} {v : V} {vs : List V}
theorem rp_non : Rp H .non v ↔ v = .non := by rw [Rp]
theorem rp_bl {b : Bool} : Rp H (.bl b) v ↔ v = .bl b := by rw [Rp]
theorem rp_int {i : Int} : Rp H (.int i) v ↔ v = .int i := by rw [Rp]
theorem rp_str {l : List Nat} : Rp H (.str l) v ↔ v = .str (S l) := by rw [Rp]
theorem rp_tup {ds : List D} : Rp H (.tup ds) v ↔ ∃ p vs, v = .ref p ∧ H p = some (.tup vs) ∧ Rps H ds vs := by rw [Rp]
theorem rp_lst {ds : List D} : Rp H (.lst ds) v ↔ ∃ p vs, v = .ref p ∧ H p = some (.lst vs) ∧ Rps H ds vs := by rw [Rp]
theorem rps_nil : Rps H [] vs ↔ vs = [] := by rw [Rps]
theorem rps_cons {d : D} {ds : List D} : Rps H (d :: ds) vs ↔ ∃ v r, vs = v :: r ∧ Rp H d v ∧ Rps H ds r := by rw [Rps]
theorem rps_len : ∀ {ds : List D} {vs : List V}, Rps H ds vs → vs.length = ds.length
  | [], _, h => by rw [rps_nil.mp h]; rfl
  | d :: ds, _, h => by
    obtain ⟨v, r, rfl, _, h3⟩ := rps_cons.mp h
    show r.length + 1 = ds.length + 1
    rw [rps_len h3]
theorem rps_get : ∀ {ds : List D} {vs : List V} {i : Nat} {d : D}, Rps H ds vs → ds[i]? = some d → ∃ v, vs[i]? = some v ∧ Rp H d v
  | [], _, _, _, _, e => by simp at e
  | d :: ds, _, 0, _, h, e => by
    obtain ⟨v, r, rfl, h2, h3⟩ := rps_cons.mp h
    have e : d = _ := Option.some.inj e
    subst e
    exact ⟨v, rfl, h2⟩
  | d :: ds, _, i + 1, d', h, e => by
    obtain ⟨v, r, rfl, h2, h3⟩ := rps_cons.mp h
    exact rps_get (i := i) h3 e
theorem rps_app : ∀ {ds es : List D} {vs ws : List V}, Rps H ds vs → Rps H es ws → Rps H (ds ++ es) (vs ++ ws)
  | [], es, _, _, h, h' => by rw [rps_nil.mp h]; exact h'
  | d :: ds, es, _, _, h, h' => by
    obtain ⟨v, r, rfl, h2, h3⟩ := rps_cons.mp h
    exact rps_cons.mpr ⟨v, _, rfl, h2, rps_app h3 h'⟩
end
mutual
theorem Rp.dp {K : PySem.W.Frag} {H : Hp} : ∀ {d : D} {v : V}, Rp H d v → ∃ e : PyData, Dp K H v e ∧ ∀ H' v', Rp H' d v' → Dp K H' v' e
  | .non, _, h => by
    rw [rp_non.mp h]
    exact ⟨_, .non, fun H' v' h' => by rw [rp_non.mp h']; exact .non⟩
  | .bl b, _, h => by
    rw [rp_bl.mp h]
    exact ⟨_, .bl b, fun H' v' h' => by rw [rp_bl.mp h']; exact .bl b⟩
  | .int b, _, h => by
    rw [rp_int.mp h]
    exact ⟨_, .int b, fun H' v' h' => by rw [rp_int.mp h']; exact .int b⟩
  | .str b, _, h => by
    rw [rp_str.mp h]
    exact ⟨_, .str _, fun H' v' h' => by rw [rp_str.mp h']; exact .str _⟩
  | .tup ds, _, h => by
    obtain ⟨p, vs, rfl, h2, h3⟩ := rp_tup.mp h
    obtain ⟨es, q1, q2⟩ := Rps.dp (K := K) h3
    exact ⟨_, .tup (st_of h2) q1, fun H' v' h' => by
      obtain ⟨p, vs, rfl, h2, h3⟩ := rp_tup.mp h'
      exact .tup (st_of h2) (q2 _ _ h3)⟩
  | .lst ds, _, h => by
    obtain ⟨p, vs, rfl, h2, h3⟩ := rp_lst.mp h
    obtain ⟨es, q1, q2⟩ := Rps.dp (K := K) h3
    exact ⟨_, .lst (sq_of h2) q1, fun H' v' h' => by
      obtain ⟨p, vs, rfl, h2, h3⟩ := rp_lst.mp h'
      exact .lst (sq_of h2) (q2 _ _ h3)⟩
theorem Rps.dp {K : PySem.W.Frag} {H : Hp} : ∀ {ds : List D} {vs : List V}, Rps H ds vs → ∃ es : List PyData, DpAll K H vs es ∧ ∀ H' vs', Rps H' ds vs' → DpAll K H' vs' es
  | [], _, h => by
    rw [rps_nil.mp h]
    exact ⟨[], .nil, fun H' v' h' => by rw [rps_nil.mp h']; exact .nil⟩
  | d :: ds, _, h => by
    obtain ⟨v, r, rfl, h2, h3⟩ := rps_cons.mp h
    obtain ⟨e, q1, q2⟩ := Rp.dp (K := K) h2
    obtain ⟨es, q3, q4⟩ := Rps.dp (K := K) h3
    exact ⟨e :: es, .cons q1 q3, fun H' v' h' => by
      obtain ⟨v, r, rfl, h2, h3⟩ := rps_cons.mp h'
      exact .cons (q2 _ _ h2) (q4 _ _ h3)⟩
end

/-! ### what evaluates to which data -/
def EvD (te : TE) (σ : L2.St) (H : Hp) (d : D) : Prop := ∀ H1, Ex H H1 → ∀ Q : VK, (∀ v H2, Ex H1 H2 → Rp H2 d v → Q v H2) → te σ H1 Q
def EvDA (ta : TA) (σ : L2.St) (H : Hp) (ds : List D) : Prop := ∀ H1, Ex H H1 → ∀ Q : List V → Hp → Prop, (∀ vs H2, Ex H1 H2 → Rps H2 ds vs → Q vs H2) → ta σ H1 Q
section
variable {K : PySem.W.Frag} {σ : L2.St} {H H' : Hp} {ta tb te tx : TE} {t u : TT} {x y z v : V} {r : R2} {d e : D} {ds : List D}
theorem EvD.mono (e : Ex H H') (h : EvD te σ H d) : EvD te σ H' d := fun H1 a Q q => h H1 (e.trans a) Q q
theorem EvDA.mono {ta : TA} (e : Ex H H') (h : EvDA ta σ H ds) : EvDA ta σ H' ds := fun H1 a Q q => h H1 (e.trans a) Q q
theorem ed_var {i : Nat} (h : σ[i]? = some (some v)) (r : Rp H d v) : EvD (tVar i) σ H d := fun H1 e _ q => ⟨v, h, q v H1 (Ex.refl H1) (r.ex e)⟩
theorem ed_of (h : Ev te σ H v) (r : Rp H d v) : EvD te σ H d := fun H1 e Q q => h H1 e Q fun H2 e2 => q v H2 e2 (r.ex (e.trans e2))
theorem ed_i {i : Int} (h : Ev te σ H (.int i)) : EvD te σ H (.int i) := ed_of h (rp_int.mpr rfl)
theorem ed_s {l : List Nat} (h : Ev te σ H (.str (S l))) : EvD te σ H (.str l) := ed_of h (rp_str.mpr rfl)
theorem ed_b {b : Bool} (h : Ev te σ H (.bl b)) : EvD te σ H (.bl b) := ed_of h (rp_bl.mpr rfl)
theorem ed_n (h : Ev te σ H .non) : EvD te σ H .non := ed_of h (rp_non.mpr rfl)
theorem EvD.i {i : Int} (h : EvD te σ H (.int i)) : Ev te σ H (.int i) := fun H1 e Q q => h H1 e Q fun v H2 e2 r => by rw [rp_int.mp r]; exact q H2 e2
theorem EvD.s {l : List Nat} (h : EvD te σ H (.str l)) : Ev te σ H (.str (S l)) := fun H1 e Q q => h H1 e Q fun v H2 e2 r => by rw [rp_str.mp r]; exact q H2 e2
theorem EvD.b {b : Bool} (h : EvD te σ H (.bl b)) : Ev te σ H (.bl b) := fun H1 e Q q => h H1 e Q fun v H2 e2 r => by rw [rp_bl.mp r]; exact q H2 e2
theorem eda_nil : EvDA tNil σ H [] := fun H1 _ _ q => q [] H1 (Ex.refl H1) (rps_nil.mpr rfl)
theorem eda_cons {tr : TA} (h : EvD ta σ H d) (hr : EvDA tr σ H ds) : EvDA (tCons ta tr) σ H (d :: ds) := fun H1 e _ q =>
  h H1 e _ fun v H2 e2 r => hr H2 (e.trans e2) _ fun vs H3 e3 rs => q _ H3 (e2.trans e3) (rps_cons.mpr ⟨v, vs, rfl, r.ex e3, rs⟩)
theorem ed_tup {ta : TA} (h : EvDA ta σ H ds) (hl : ds.length ≤ 100000 := by simp) : EvD (tTup ta) σ H (.tup ds) := fun H1 e _ q =>
  h H1 e _ fun vs H2 e2 rs => ⟨sz_of (by rw [rps_len rs]; exact hl), fun p hp => q _ _ (e2.trans (Ex.new hp)) (rp_tup.mpr ⟨p, vs, rfl, upd_same, rs.ex (Ex.new hp)⟩)⟩
theorem ed_lst {ta : TA} (h : EvDA ta σ H ds) (hl : ds.length ≤ 100000 := by simp) : EvD (tLst ta) σ H (.lst ds) := fun H1 e _ q =>
  h H1 e _ fun vs H2 e2 rs => ⟨sz_of (by rw [rps_len rs]; exact hl), fun p hp => q _ _ (e2.trans (Ex.new hp)) (rp_lst.mpr ⟨p, vs, rfl, upd_same, rs.ex (Ex.new hp)⟩)⟩
theorem ed_if {b : Bool} (h : EvT t σ H b) (h1 : b = true → EvD ta σ H d) (h2 : b = false → EvD tb σ H d) : EvD (tIf t ta tb) σ H d := fun H1 e Q q => h H1 e _ fun H2 e2 => by
  cases b with
  | true =>
    show ta σ H2 Q
    exact h1 rfl H2 (e.trans e2) Q fun v H3 e3 r => q v H3 (e2.trans e3) r
  | false =>
    show tb σ H2 Q
    exact h2 rfl H2 (e.trans e2) Q fun v H3 e3 r => q v H3 (e2.trans e3) r
/-- an item of a tuple, of a list -/
theorem ed_ixT {i : Int} (h : EvD ta σ H (.tup ds)) (hi : Ev tb σ H (.int i)) (hd : atI ds i = some d) : EvD (tOp (rIxT K) ta tb) σ H d := fun H1 e Q q =>
  h H1 e _ fun v H2 e2 r => hi H2 (e.trans e2) _ fun H3 e3 => by
    obtain ⟨p, vs, rfl, h2, h3⟩ := rp_tup.mp (r.ex e3)
    have hl := rps_len h3
    unfold atI at hd
    cases hj : ixN ds.length i with
    | none => rw [hj] at hd; cases hd
    | some j =>
      rw [hj] at hd
      obtain ⟨w, hw, rw'⟩ := rps_get h3 (show ds[j]? = some d from hd)
      refine ⟨p, vs, i, w, rfl, rfl, st_of h2, ?_, q w H3 (e2.trans e3) rw'⟩
      unfold atI
      rw [hl, hj]
      exact hw
theorem ed_ixL {i : Int} (h : EvD ta σ H (.lst ds)) (hi : Ev tb σ H (.int i)) (hd : atI ds i = some d) : EvD (tOp (rIxL K) ta tb) σ H d := fun H1 e Q q =>
  h H1 e _ fun v H2 e2 r => hi H2 (e.trans e2) _ fun H3 e3 => by
    obtain ⟨p, vs, rfl, h2, h3⟩ := rp_lst.mp (r.ex e3)
    have hl := rps_len h3
    unfold atI at hd
    cases hj : ixN ds.length i with
    | none => rw [hj] at hd; cases hd
    | some j =>
      rw [hj] at hd
      obtain ⟨w, hw, rw'⟩ := rps_get h3 (show ds[j]? = some d from hd)
      refine ⟨p, vs, i, w, rfl, rfl, sq_of h2, ?_, q w H3 (e2.trans e3) rw'⟩
      unfold atI
      rw [hl, hj]
      exact hw
/-! ### promises of defs that change nothing -/
/-- n arguments that read as ds: what is told reads as d -/
def SpR (n : Nat) (R : List D → D → Prop) : Sp := fun vs H Q _ => ∃ ds d, ds.length = n ∧ Rps H ds vs ∧ R ds d ∧ ∀ v H', Ex H H' → Rp H' d v → Q v H'
theorem SpR.len {n : Nat} {R : List D → D → Prop} {vs : List V} {H : Hp} {Q : VK} {E : XK} (h : SpR n R vs H Q E) : vs.length = n := by
  obtain ⟨ds, d, h1, h2, _⟩ := h
  rw [rps_len h2, h1]
theorem ed_call {n : Nat} {R : List D → D → Prop} {E : XK} {ta : TA} (h : EvDA ta σ H ds) (hR : R ds d) (hn : ds.length = n := by rfl) : EvD (tCall (SpR n R) [] E ta) σ H d := fun H1 e Q q =>
  h H1 e _ fun vs H2 e2 rs => ⟨ds, d, hn, by rw [List.append_nil]; exact rs, hR, fun v H3 e3 r => q v H3 (e2.trans e3) r⟩
/-! ### statements -/
variable {D' : Ends} {tu tw tz : TS} {g : TG}
theorem sd_ret (h : EvD te σ H d) (k : ∀ v H1, Ex H H1 → Rp H1 d v → D'.rt v H1) : tRet te D' σ H := h H (Ex.refl H) _ k
theorem sd_asg {i : Nat} (h : EvD te σ H d) (k : ∀ v H1, Ex H H1 → Rp H1 d v → D'.nx (σ.set i (some v)) H1) : tAsg te (gName i) D' σ H := h H (Ex.refl H) _ k
theorem qd_asg {i : Nat} (h : EvD te σ H d) (k : ∀ v H1, Ex H H1 → Rp H1 d v → tz D' (σ.set i (some v)) H1) : tSeq (tAsg te (gName i)) tz D' σ H := sd_asg (D' := { D' with nx := tz D' }) h k
theorem qd_drop (h : EvD te σ H d) (k : ∀ H1, Ex H H1 → tz D' σ H1) : tSeq (tDrop te) tz D' σ H := h H (Ex.refl H) _ fun v H1 e _ => k H1 e
theorem sd_un2 {i j : Nat} {d1 d2 : D} (h : EvD te σ H (.tup [d1, d2])) (k : ∀ v1 v2 H1, Ex H H1 → Rp H1 d1 v1 → Rp H1 d2 v2 → D'.nx ((σ.set i (some v1)).set j (some v2)) H1) :
    tAsg te (gTup K 2 (gCons (gName i) (gCons (gName j) gNil))) D' σ H := h H (Ex.refl H) _ fun v H1 e r => by
  obtain ⟨p, vs, rfl, h2, h3⟩ := rp_tup.mp r
  obtain ⟨v1, r1, rfl, a1, h3⟩ := rps_cons.mp h3
  obtain ⟨v2, r2, rfl, a2, h3⟩ := rps_cons.mp h3
  rw [rps_nil.mp h3] at h2
  exact ⟨p, [v1, v2], rfl, st_of h2, rfl, v1, [v2], rfl, v2, [], rfl, rfl, k v1 v2 H1 e a1 a2⟩
theorem qd_un2 {i j : Nat} {d1 d2 : D} (h : EvD te σ H (.tup [d1, d2])) (k : ∀ v1 v2 H1, Ex H H1 → Rp H1 d1 v1 → Rp H1 d2 v2 → tz D' ((σ.set i (some v1)).set j (some v2)) H1) :
    tSeq (tAsg te (gTup K 2 (gCons (gName i) (gCons (gName j) gNil)))) tz D' σ H := sd_un2 (D' := { D' with nx := tz D' }) h k
theorem sd_un3 {i j l : Nat} {d1 d2 d3 : D} (h : EvD te σ H (.tup [d1, d2, d3])) (k : ∀ v1 v2 v3 H1, Ex H H1 → Rp H1 d1 v1 → Rp H1 d2 v2 → Rp H1 d3 v3 → D'.nx (((σ.set i (some v1)).set j (some v2)).set l (some v3)) H1) :
    tAsg te (gTup K 3 (gCons (gName i) (gCons (gName j) (gCons (gName l) gNil)))) D' σ H := h H (Ex.refl H) _ fun v H1 e r => by
  obtain ⟨p, vs, rfl, h2, h3⟩ := rp_tup.mp r
  obtain ⟨v1, r1, rfl, a1, h3⟩ := rps_cons.mp h3
  obtain ⟨v2, r2, rfl, a2, h3⟩ := rps_cons.mp h3
  obtain ⟨v3, r3, rfl, a3, h3⟩ := rps_cons.mp h3
  rw [rps_nil.mp h3] at h2
  exact ⟨p, [v1, v2, v3], rfl, st_of h2, rfl, v1, _, rfl, v2, _, rfl, v3, [], rfl, rfl, k v1 v2 v3 H1 e a1 a2 a3⟩
theorem qd_un3 {i j l : Nat} {d1 d2 d3 : D} (h : EvD te σ H (.tup [d1, d2, d3])) (k : ∀ v1 v2 v3 H1, Ex H H1 → Rp H1 d1 v1 → Rp H1 d2 v2 → Rp H1 d3 v3 → tz D' (((σ.set i (some v1)).set j (some v2)).set l (some v3)) H1) :
    tSeq (tAsg te (gTup K 3 (gCons (gName i) (gCons (gName j) (gCons (gName l) gNil))))) tz D' σ H := sd_un3 (D' := { D' with nx := tz D' }) h k
theorem sd_un4 {i j l m : Nat} {d1 d2 d3 d4 : D} (h : EvD te σ H (.tup [d1, d2, d3, d4])) (k : ∀ v1 v2 v3 v4 H1, Ex H H1 → Rp H1 d1 v1 → Rp H1 d2 v2 → Rp H1 d3 v3 → Rp H1 d4 v4 → D'.nx ((((σ.set i (some v1)).set j (some v2)).set l (some v3)).set m (some v4)) H1) :
    tAsg te (gTup K 4 (gCons (gName i) (gCons (gName j) (gCons (gName l) (gCons (gName m) gNil))))) D' σ H := h H (Ex.refl H) _ fun v H1 e r => by
  obtain ⟨p, vs, rfl, h2, h3⟩ := rp_tup.mp r
  obtain ⟨v1, r1, rfl, a1, h3⟩ := rps_cons.mp h3
  obtain ⟨v2, r2, rfl, a2, h3⟩ := rps_cons.mp h3
  obtain ⟨v3, r3, rfl, a3, h3⟩ := rps_cons.mp h3
  obtain ⟨v4, r4, rfl, a4, h3⟩ := rps_cons.mp h3
  rw [rps_nil.mp h3] at h2
  exact ⟨p, [v1, v2, v3, v4], rfl, st_of h2, rfl, v1, _, rfl, v2, _, rfl, v3, _, rfl, v4, [], rfl, rfl, k v1 v2 v3 v4 H1 e a1 a2 a3 a4⟩
theorem qd_un4 {i j l m : Nat} {d1 d2 d3 d4 : D} (h : EvD te σ H (.tup [d1, d2, d3, d4])) (k : ∀ v1 v2 v3 v4 H1, Ex H H1 → Rp H1 d1 v1 → Rp H1 d2 v2 → Rp H1 d3 v3 → Rp H1 d4 v4 → tz D' ((((σ.set i (some v1)).set j (some v2)).set l (some v3)).set m (some v4)) H1) :
    tSeq (tAsg te (gTup K 4 (gCons (gName i) (gCons (gName j) (gCons (gName l) (gCons (gName m) gNil)))))) tz D' σ H := sd_un4 (D' := { D' with nx := tz D' }) h k
end

/-! ### a def that stands -/
structure Df (P : Program) (w : World) (K : PySem.W.Frag) (mg : Str → Option Value) (base : Heap) (x : Str) (ps : List Str) (k : Nat) (sp : Sp) : Prop where
  ex : ∃ f fd, FnOk P w K mg base CX0 k f fd ps sp ∧ mg x = some (.ref f) ∧ PySem.W.keepIn K (.ref f) = true ∧ Binds K fd ps []
theorem Df.pe {X : Cx} {x : Str} {ps : List Str} {k : Nat} {sp : Sp} {e : Expr} {es : List Expr} {t : TA} {p pos : Pos} (d : Df X.prog X.w X.K X.mg X.base x ps k sp) (hr : Room k X.A) (ha : PA X (e :: es) t) (hg : Gl X x := by rfl)
    (hdb : (x == ("__debug__" : Str)) = false := by decide) (he : starEach (e :: es) X.env = (false, eval e X.env) :: starEach es X.env := by rfl) (hpl : (backTo pos (starEach es X.env)).any (·.1) = false := by rfl) : PE X (.Call (.Name x p) (e :: es) [] pos) (tCall sp [] E0 t) := by
  obtain ⟨f, fd, h1, h2, h3, h4⟩ := d.ex
  exact pe_call h1 hr hg h2 h3 h4 .nil pass0 ha hdb he hpl
end HW

set_option Elab.async false
set_option linter.all false
set_option maxRecDepth 100000
namespace HW
open PySem PySem.Spec PyProof.Rows L2 Evl SX
section
variable {X : Cx}
/-! ### text * int -/
def rMulS : R2 := fun x y H Q => ∃ z n, x = .str z ∧ y = .int n ∧ MulOk z n ∧ Q (.str (Txt.mul z n)) H
theorem op_mulS : OpR X (binaryOp .Mult) rMulS := by
  intro pins s σ H x y v u Q I rx ry h
  obtain ⟨z, n, rfl, rfl, hok, q⟩ := h
  obtain ⟨t, rfl⟩ := rx
  obtain ⟨t', rfl⟩ := ry
  exact SB.mul hok fun t2 k => ⟨.str (Txt.mul z n), H, I.tok _, ⟨_, rfl⟩, q⟩
/-! ### text[::-1] -/
def tRevS (te : TE) : TE := fun σ H Q => te σ H fun x H1 => ∃ z, x = .str z ∧ z.length ≤ sizeLine ∧ Q (.str ⟨z.cps.toList.reverse.toArray⟩) H1
theorem slice_rev_str (z : Str) : (Builtin.Str.strSliceIndices none none (-1) z.length).filterMap (z.cps[·]?) = z.cps.toList.reverse := by
  show (sliceRange ((z.length : Int) - 1) (-1) (-1)).filterMap (z.cps[·]?) = _
  rw [PySem.W.krv_sliceRange, PySem.W.krv_range, List.filterMap_reverse]
  exact congrArg List.reverse (PySem.W.krv_all z.cps)
theorem pe_revS {e : Expr} {te : TE} {k : Nat} {p1 p2 p3 pos : Pos} (he : PE X e te) : PE X (.Subscript e (.Slice none none (some (.UnaryOp .USub (.Constant (.int 1) k p1) p2)) p3) pos) (tRevS te) := by
  refine ⟨fun pins s σ H Q I h => ?_⟩
  refine Subscript_ (thn (he.run pins s σ H _ I h) fun v s1 ⟨x, H1, I1, r1, q1⟩ => ?_)
  obtain ⟨z, ex, hz, q⟩ := q1
  subst ex
  obtain ⟨t, rfl⟩ := r1
  have hst : PO X (some (.UnaryOp .USub (.Constant (.int 1) k p1) p2)) (tPart (tUn (rU fun i => .int (-i)) (tC (.int 1)))) := po_some (pe_un un_neg pe_int)
  refine wpAny_Slice (thn (po_none.run pins s1 σ H1 (fun o H2 => o = none ∧ H2 = H1) I1 ⟨rfl, rfl⟩) fun vl s2 ⟨l, H2, I2, pl, el, e2⟩ => ?_)
  subst el e2
  refine thn (po_none.run pins s2 σ H2 (fun o H3 => o = none ∧ H3 = H2) I2 ⟨rfl, rfl⟩) fun vu s3 ⟨u, H3, I3, pu, eu, e3⟩ => ?_
  subst eu e3
  refine thn (hst.run pins s3 σ H3 (fun o H4 => o = some (-1) ∧ H4 = H3) I3 ⟨1, rfl, -1, rfl, rfl, rfl⟩) fun vs s4 ⟨o, H4, I4, ps, eo, e4⟩ => ?_
  subst eo e4
  have I5 : Inv X pins σ H4 { s4 with heap := s4.heap.push { cls := .type "slice", data := .fields #[vl, vu, vs] } } := I4.kept (t' := s4.toks) fun b ob q => Heap.get?_push_of_some _ q
  obtain ⟨l0, rfl, el0⟩ := IsPart.raw pl
  obtain ⟨u0, rfl, eu0⟩ := IsPart.raw pu
  obtain ⟨st0, rfl, es0⟩ := IsPart.raw ps
  refine tail_any (ops := [.str z t, .ref s4.heap.objs.size]) (typeIs_str _ _ _) F.slot_str_getitem.lookup ?_ (by with_unfolding_all rfl)
  refine wpAny_getItem_str_slice (l := l0) (u := u0) (st := st0) ⟨_, Heap.get?_push_size _ rfl, rfl, rfl⟩ (by rw [es0]; rfl) ?_
  unfold sliceMade slicePicked
  rw [el0, eu0, es0]
  show Made.post (if ((-1 : Int) == 1 && (Builtin.Str.strSliceIndices none none (-1) z.length).length == z.length) = true then _ else Made.str ⟨((Builtin.Str.strSliceIndices none none (-1) z.length).filterMap (z.cps[·]?)).toArray⟩) _ _
  rw [if_neg (by simp), slice_rev_str]
  refine ⟨?_, .str _, H4, I5.tok _, ⟨_, rfl⟩, q⟩
  show (z.cps.toList.reverse.toArray).size ≤ sizeLine
  rw [List.size_toArray, List.length_reverse, Array.length_toList]
  exact hz
/-! ### {(..): v} -/
def tDispT1 (tk tv : TE) : TE := fun σ H Q => ∀ p, H p = none → tk σ (upd H p (.dT [])) fun x H1 => tv σ H1 fun y H2 => ∃ b k, x = .ref b ∧ H2 b = some (.tup (k.map kV)) ∧ H2 p = some (.dT []) ∧ Q (.ref p) (upd H2 p (.dT [(k, y)]))
theorem pe_dispT1 {k v : Expr} {tk tv : TE} {pos : Pos} (hu : X.A.units + 1 < cLine) (hk : PE X k tk) (hv : PE X v tv) : PE X (.Dict [some k] [v] pos) (tDispT1 tk tv) := by
  refine ⟨fun pins s σ H Q I q => ?_⟩
  have hn := I.hok.fresh (Nat.le_refl s.heap.objs.size)
  have I1 := I.laid (a := s.heap.objs.size) (o := .dT []) (h' := s.heap.push { cls := .type "dict", data := .dict #[] }) (t' := s.toks) (fun _ _ q => Heap.get?_push_of_some _ q) (Nat.le_refl _) (dt_empty s.heap I.big)
  refine wpAny_Dict_any rfl rfl (by simp) (by show 1 ≤ 15; decide) ?_
  refine pairTrees_cons_walk (thn (hk.run pins _ σ _ _ I1 (q _ hn)) fun u s1 ⟨x, H1, I2, rx, q1⟩ => thn (hv.run pins s1 σ H1 _ I2 q1) fun w2 s2 ⟨y, H2, I3, ry, q2⟩ => pairTrees_nil_walk ?_)
  obtain ⟨b, ks, ex, hb, hp, q⟩ := q2
  subst ex
  cases (show u = Value.ref b from rx)
  obtain ⟨z, hd, xs, rel, dd⟩ := dt_of I3.hok hp
  cases rel
  unfold storeAll
  rw [List.forIn_cons]
  refine wpAny_bind (wpAny_bind (wpAny_dictSet_heap (hsz := by decide) (show X.A.units < cLine from Nat.lt_of_succ_lt hu) (key_of I3.hok hb) dd fun h' dd' hs => wpAny_pure ?_))
  show wpAny _ _ (forIn [] _ _) _ _ _
  rw [List.forIn_nil]
  refine wpAny_pure ?_
  obtain ⟨qo, es, ep, hq, h2, h3, h4, _, h5⟩ := dd'
  refine ⟨.ref s.heap.objs.size, _, d_write (ob := .dT [(ks, y)]) I3 (by rw [hp]; exact True.intro) hs ⟨qo, hq⟩ ⟨?_, hd, [(ks, b, w2)], .cons ⟨rfl, ?_, ry⟩ .nil, qo, es, ep, hq, h2, h3, h4, h5⟩, rfl, q⟩
  · show 1 ≤ sizeLine
    decide
  · show (upd H2 _ _) b = _
    rw [upd_ne (ne_of hb hp (fun z => nomatch z))]
    exact hb
/-! ### enumerate(text) -/
def Ites (x : Str) : It :=
  ⟨fun i _ => i < x.cps.size, fun i H v H' => ∃ T c, v = .ref T ∧ H T = none ∧ x.cps[i]? = some c ∧ H' = upd H T (.tup [.int (i : Nat), .str ⟨#[c]⟩]), fun i _ => i = x.cps.size⟩
theorem draws_str {P : Program} {w : World} {A : Around} (hh : A.handled = none) (it : Addr) (x : Str) (t : Tok) (ty : String) (hty : ty = "str_ascii_iterator" ∨ ty = "str_iterator") :
    Draws P w A it [it] x.cps.size (fun i v => ∃ c u, x.cps[i]? = some c ∧ v = .str ⟨#[c]⟩ u) (fun i h => h.IsStrIter it ty x t i) := by
  rcases hty with e | e
  · rw [e]; exact Draws.strAscii hh it x t
  · rw [e]; exact Draws.strWide hh it x t
theorem turn_enumS {P : Program} {w : World} {K : PySem.W.Frag} {elts : List Expr} {kk : Nat} {tpos : Pos} (x : Str) (t : Tok) (ty : String) (hty : ty = "str_ascii_iterator" ∨ ty = "str_iterator") (e it : Addr) :
    Turn P w K (.Tuple elts kk tpos) (Ites x) [e, it] e (fun i h => (∃ old, IsEnum h e it ((i : Nat) : Int) old) ∧ h.IsStrIter it ty x t i ∧ e ≠ it) where
  mem := by simp
  obj := fun i h st b hb => by
    obtain ⟨⟨old, he⟩, ⟨o, ho, hc, hd⟩, _⟩ := st
    have e' : b = e ∨ b = it := by simpa using hb
    rcases e' with z | z
    · rw [z]; exact ⟨_, he, fun v q => nomatch q⟩
    · rw [z]; exact ⟨o, ho, fun v q => by rw [hd] at q; cases q⟩
  keep := fun i h h' st k => let ⟨⟨old, he⟩, ⟨o, ho, r⟩, hne⟩ := st; ⟨⟨old, k e (by simp) _ he⟩, ⟨o, k it (by simp) o ho, r⟩, hne⟩
  item := by
    intro X hP hw hK hc i pins s σ H E I hf st hg
    subst hP hw hK
    obtain ⟨⟨old, he⟩, hit, hne⟩ := st
    have hel : e < s.heap.objs.size := Heap.lt_size he
    have hil : it < s.heap.objs.size := by obtain ⟨_, q, _⟩ := hit; exact Heap.lt_size q
    refine wpAny_pyNext_enum_itemD (fp := [it]) (St := fun i h => h.IsStrIter it ty x t i) (draws_str (A := X.A.in1) (I.ok.hd hc) it x t ty hty) he hit hg hne (by simpa using hne) fun u h' tk hu ho hit' hT hsz hk => ?_
    obtain ⟨c, ut, hc2, rfl⟩ := hu
    refine ⟨_, rfl, wpAny_letOwnedTupleGo_enum (s := { s with heap := h', toks := tk + 1 }) ho fun h'' he' sb => ?_⟩
    have hT2 : h''.get? s.heap.objs.size = some { cls := .type "tuple", data := .seq #[.int i tk, .str ⟨#[c]⟩ ut] } := (sb.2 _ (Nat.ne_of_gt hel)).trans hT
    have new : ObjOk X.prog X.w (upd H s.heap.objs.size (.tup [.int (i : Nat), .str ⟨#[c]⟩])) h'' s.heap.objs.size (.tup [.int (i : Nat), .str ⟨#[c]⟩]) :=
      ⟨by show 2 ≤ sizeLine; decide, [.int i tk, .str ⟨#[c]⟩ ut], .cons ⟨_, rfl⟩ (.cons ⟨_, rfl⟩ .nil), ⟨_, hT2, rfl, _, rfl⟩⟩
    have I1 : Inv X pins σ (upd H s.heap.objs.size (.tup [.int (i : Nat), .str ⟨#[c]⟩])) { s with heap := h'', toks := tk + 1 } :=
      I.turnedNew (ch := [e, it]) (fun b ob hb q => (sb.2 b (fun z => hb (by simp [z]))).trans (hk b ob (fun z => hb (by simp [z])) (fun z => hb (by simp [z])) q)) hf (Nat.le_refl _) new
    refine ⟨.ref s.heap.objs.size, _, I1, rfl, ⟨_, c, rfl, I.hok.fresh (Nat.le_refl _), hc2, rfl⟩, ⟨⟨.str ⟨#[c]⟩ ut, ?_⟩, ?_, hne⟩, fun b hb => ?_⟩
    · have e1 : ((i + 1 : Nat) : Int) = (i : Int) + 1 := by omega
      rw [e1]; exact he'
    · obtain ⟨o, ho2, r⟩ := hit'
      exact ⟨o, (sb.2 it (Ne.symm hne)).trans ho2, r⟩
    · have hb' : b < s.heap.objs.size := by
        have e' : b = e ∨ b = it := by simpa using hb
        rcases e' with z | z
        · rw [z]; exact hel
        · rw [z]; exact hil
      rw [upd_ne (Nat.ne_of_lt hb')]
      exact (hf b hb).1
  done := by
    intro X hP hw hK hc i pins s σ H E I hf st hg
    subst hP hw hK
    obtain ⟨⟨old, he⟩, hit, hne⟩ := st
    obtain ⟨f0, f1, f2, f3, f4, f5⟩ := hf it (by simp)
    have hg : i = x.cps.size := hg
    subst hg
    exact wpAny_pyNext_enum_endD (fp := [it]) (St := fun i h => h.IsStrIter it ty x t i) (draws_str (A := X.A.in1) (I.ok.hd hc) it x t ty hty) he hit fun h' eb => ⟨rfl, I.turned (t' := s.toks) (fun b o hb q => eb b o hb q) f0 f1 f3 f4 f5⟩
  self := fun A i s Q E st h => let ⟨⟨_, he⟩, _⟩ := st; wpAny_pyIter_enum he h
def iEnumS (ta : TA) : TI := fun σ H R => ta σ H fun vs H1 => ∃ x, vs = [.str x] ∧ R (Ites x) H1
theorem pi_enumS {e : Expr} {ta : TA} {p pos tpos : Pos} {elts : List Expr} {kk : Nat} (hg : Gl X "enumerate") (hm : X.mg "enumerate" = none) (ha : PA X [e] ta) (hs : starEach [e] X.env = [(false, eval e X.env)] := by rfl) :
    PI X (.Tuple elts kk tpos) (.Call (.Name "enumerate" p) [e] [] pos) (iEnumS ta) := by
  refine ⟨fun pins s σ H R I h => ?_⟩
  refine Call_ (ld_blt I hg hm boot_enumerate (PyProof.Rows.callWith_type1 (thn (ha.run pos pins s σ H _ I h) fun us s1 ⟨vs, H1, I1, r1, q1⟩ => ?_) hs rfl))
  obtain ⟨x, ex, q⟩ := q1
  subst ex
  cases r1 with
  | cons r rr =>
    cases rr
    obtain ⟨t, rfl⟩ := r
    refine call_enumerate_str fun h' he hit hsz hk => wpAny_pyIter_enum he ?_
    have I2 : Inv X pins σ H1 { s1 with heap := h' } := I1.kept (t' := s1.toks) hk
    have hty : strIterType x = "str_ascii_iterator" ∨ strIterType x = "str_iterator" := by
      unfold strIterType
      by_cases c : (x.cps.all (· < 128)) = true
      · rw [if_pos c]; exact .inl rfl
      · rw [if_neg c]; exact .inr rfl
    refine ⟨s1.heap.objs.size + 1, [s1.heap.objs.size + 1, s1.heap.objs.size], _, _, H1, rfl, I2, turn_enumS x t (strIterType x) hty (s1.heap.objs.size + 1) s1.heap.objs.size, ⟨⟨.none, he⟩, hit, Nat.succ_ne_self _⟩, fun b hb => ?_, q⟩
    have e' : b = s1.heap.objs.size + 1 ∨ b = s1.heap.objs.size := by simpa using hb
    have hle : s1.heap.objs.size ≤ b := by
      rcases e' with z | z
      · rw [z]; exact Nat.le_add_right _ _
      · rw [z]; exact Nat.le_refl _
    exact I1.fpOk hle (I1.hok.fresh hle)
end
end HW

set_option Elab.async false
set_option linter.all false
namespace HW
open PySem PySem.Spec PyProof.Rows L2 Evl SX
/-! ### signs, places -/
def sgn (c : Nat) : Bool := (decide (32 ≤ c) && decide (c ≤ 126)) || decide (c = 10)
def stp (p : Nat × Nat) (c : Nat) : Nat × Nat := if c = 10 then (p.1 + 1, 0) else (p.1, p.2 + 1)
def posF (s : List Nat) : Nat × Nat := s.foldl stp (0, 0)
def pos (s : List Nat) (n : Nat) : Nat × Nat := posF (s.take n)
def rwsA (acc : List Nat) : List Nat → List (List Nat)
  | [] => [acc]
  | c :: r => if c = 10 then acc :: rwsA [] r else rwsA (acc ++ [c]) r
def rws (s : List Nat) : List (List Nat) := rwsA [] s
theorem pos_zero (s : List Nat) : pos s 0 = (0, 0) := rfl
theorem pos_succ {s : List Nat} {n c : Nat} (h : s[n]? = some c) : pos s (n + 1) = stp (pos s n) c := by
  unfold pos posF
  rw [List.take_add_one, h, List.foldl_append]
  rfl
theorem spl_rws : ∀ (s acc : List Nat), TL.spl [10] 0 acc s = rwsA acc s
  | [], acc => rfl
  | c :: r, acc => by
    by_cases h : c = 10
    · subst h
      rw [TL.spl_hit (by rfl), rwsA, if_pos rfl]
      exact congrArg (fun z => acc :: z) (spl_rws r [])
    · rw [TL.spl_miss (TL.pre_of_head _ _ h), rwsA, if_neg h]
      exact spl_rws r _
theorem split_rws (s : List Nat) : Txt.split (S s) (S [10]) = (rws s).map S := by
  rw [split_S (by simp) (by decide), spl_rws]
  rfl
theorem fold_shift : ∀ (s : List Nat) (k l : Nat), s.foldl stp (k, l) = (k + (s.foldl stp (0, l)).1, (s.foldl stp (0, l)).2)
  | [], k, l => by simp
  | c :: r, k, l => by
    rw [List.foldl_cons, List.foldl_cons]
    by_cases h : c = 10
    · rw [stp, if_pos h, stp, if_pos h]
      rw [fold_shift r (k + 1) 0, fold_shift r (0 + 1) 0]
      simp only [Prod.mk.injEq, and_true]
      omega
    · rw [stp, if_neg h, stp, if_neg h]
      exact fold_shift r k (l + 1)
theorem rwsA_head : ∀ (s acc : List Nat), ∃ t r, rwsA acc s = (acc ++ t) :: r
  | [], acc => ⟨[], [], by rw [List.append_nil]; rfl⟩
  | c :: r, acc => by
    by_cases h : c = 10
    · rw [rwsA, if_pos h]
      exact ⟨[], _, by rw [List.append_nil]⟩
    · rw [rwsA, if_neg h]
      obtain ⟨t, q, e⟩ := rwsA_head r (acc ++ [c])
      exact ⟨[c] ++ t, q, by rw [e, List.append_assoc]⟩
def before (rs : List (List Nat)) (k : Nat) : Nat := ((rs.take k).map fun r => r.length + 1).sum
theorem rwsA_pos : ∀ (s acc : List Nat) (n : Nat), n ≤ s.length →
    ∃ row, (rwsA acc s)[((s.take n).foldl stp (0, acc.length)).1]? = some row ∧ ((s.take n).foldl stp (0, acc.length)).2 ≤ row.length ∧
      before (rwsA acc s) ((s.take n).foldl stp (0, acc.length)).1 + ((s.take n).foldl stp (0, acc.length)).2 = n + acc.length
  | s, acc, 0, _ => by
    obtain ⟨t, r, e⟩ := rwsA_head s acc
    rw [List.take_zero, List.foldl_nil, e]
    refine ⟨_, rfl, ?_, ?_⟩
    · rw [List.length_append]; exact Nat.le_add_right _ _
    · unfold before
      rw [List.take_zero]
      simp
  | [], acc, n + 1, h => by simp at h
  | c :: r, acc, n + 1, h => by
    have h' : n ≤ r.length := by
      rw [List.length_cons] at h
      omega
    rw [List.take_succ_cons, List.foldl_cons]
    by_cases hc : c = 10
    · rw [stp, if_pos hc, rwsA, if_pos hc, fold_shift]
      obtain ⟨row, h1, h2, h3⟩ := rwsA_pos r [] n h'
      have e0 : (([] : List Nat).length) = 0 := rfl
      rw [e0] at h1 h2 h3
      have ek : 0 + 1 + ((r.take n).foldl stp (0, 0)).1 = ((r.take n).foldl stp (0, 0)).1 + 1 := by omega
      simp only [ek]
      refine ⟨row, ?_, h2, ?_⟩
      · rw [List.getElem?_cons_succ]; exact h1
      · unfold before at h3 ⊢
        rw [List.take_succ_cons, List.map_cons, List.sum_cons]
        omega
    · rw [stp, if_neg hc, rwsA, if_neg hc]
      obtain ⟨row, h1, h2, h3⟩ := rwsA_pos r (acc ++ [c]) n h'
      have e0 : (acc ++ [c]).length = acc.length + 1 := by simp
      rw [e0] at h1 h2 h3
      exact ⟨row, h1, h2, h3.trans (by omega)⟩
theorem rws_pos {s : List Nat} {n : Nat} (h : n ≤ s.length) :
    ∃ row, (rws s)[(pos s n).1]? = some row ∧ (pos s n).2 ≤ row.length ∧ before (rws s) (pos s n).1 + (pos s n).2 = n := rwsA_pos s [] n h
theorem pos_inj {s : List Nat} {n m : Nat} (hn : n ≤ s.length) (hm : m ≤ s.length) (h : pos s n = pos s m) : n = m := by
  obtain ⟨_, _, _, h1⟩ := rws_pos hn
  obtain ⟨_, _, _, h2⟩ := rws_pos hm
  rw [h] at h1
  omega
theorem rwsA_len : ∀ (s acc : List Nat) (row : List Nat), row ∈ rwsA acc s → row.length ≤ acc.length + s.length
  | [], acc, row, h => by
    rw [rwsA, List.mem_singleton] at h
    rw [h]
    omega
  | c :: r, acc, row, h => by
    rw [List.length_cons]
    by_cases hc : c = 10
    · rw [rwsA, if_pos hc] at h
      rcases List.mem_cons.mp h with e | h
      · rw [e]; omega
      · have := rwsA_len r [] row h
        rw [List.length_nil] at this
        omega
    · rw [rwsA, if_neg hc] at h
      have := rwsA_len r _ row h
      rw [List.length_append, List.length_singleton] at this
      omega
theorem rws_len {s row : List Nat} (h : row ∈ rws s) : row.length ≤ s.length := by
  have := rwsA_len s [] row h
  rw [List.length_nil] at this
  omega
theorem rwsA_many : ∀ (s acc : List Nat), (rwsA acc s).length ≤ s.length + 1
  | [], acc => by rw [rwsA]; simp
  | c :: r, acc => by
    rw [List.length_cons]
    by_cases hc : c = 10
    · rw [rwsA, if_pos hc, List.length_cons]
      have := rwsA_many r []
      omega
    · rw [rwsA, if_neg hc]
      have := rwsA_many r (acc ++ [c])
      omega
theorem before_int : ∀ (rs : List (List Nat)), ((rs.map fun r => (r.length : Int) + 1).sum) = (((rs.map fun r => r.length + 1).sum : Nat) : Int)
  | [] => rfl
  | r :: rs => by
    rw [List.map_cons, List.map_cons, List.sum_cons, List.sum_cons, before_int rs]
    omega
theorem fold_cnt : ∀ (s : List Nat) (k l : Nat), (s.foldl stp (k, l)).1 = k + s.count 10
  | [], k, l => by simp
  | c :: r, k, l => by
    rw [List.foldl_cons]
    by_cases h : c = 10
    · rw [stp, if_pos h, fold_cnt r, h, List.count_cons_self]
      omega
    · rw [stp, if_neg h, fold_cnt r, List.count_cons_of_ne h]
theorem fold_no : ∀ (s : List Nat) (k l : Nat), (∀ i : Nat, s[i]? ≠ some 10) → (s.foldl stp (k, l)).2 = l + s.length
  | [], k, l, _ => by simp
  | c :: r, k, l, h => by
    rw [List.foldl_cons]
    have h0 : c ≠ 10 := fun e => h 0 (by rw [e]; rfl)
    rw [stp, if_neg h0, fold_no r _ _ fun i e => h (i + 1) (by rw [List.getElem?_cons_succ]; exact e), List.length_cons]
    omega
theorem fold_last : ∀ (s : List Nat) (k l i : Nat), s[i]? = some 10 → (∀ j, i < j → s[j]? ≠ some 10) → (s.foldl stp (k, l)).2 + i + 1 = s.length
  | [], k, l, i, h, _ => by simp at h
  | c :: r, k, l, 0, h, hn => by
    have e : c = 10 := Option.some.inj h
    rw [List.foldl_cons, stp, if_pos e, fold_no r _ _ fun i e => hn (i + 1) (by omega) (by rw [List.getElem?_cons_succ]; exact e), List.length_cons]
    omega
  | c :: r, k, l, i + 1, h, hn => by
    rw [List.foldl_cons, List.length_cons]
    have ih := fold_last r (stp (k, l) c).1 (stp (k, l) c).2 i (by rw [List.getElem?_cons_succ] at h; exact h) fun j hj e => hn (j + 1) (by omega) (by rw [List.getElem?_cons_succ]; exact e)
    have ih : (List.foldl stp (stp (k, l) c) r).2 + i + 1 = r.length := ih
    omega
theorem cnt_count (s : List Nat) : PyProof.Rows.cnt 10 s = ((s.count 10 : Nat) : Int) := by
  induction s with
  | nil => rfl
  | cons c r ih =>
    rw [PyProof.Rows.cnt_cons, ih]
    by_cases h : c = 10
    · rw [if_pos h, h, List.count_cons_self]
      omega
    · rw [if_neg h, List.count_cons_of_ne h]
      omega
theorem count_S (s : List Nat) : Txt.count (S s) (S [10]) = ((s.count 10 : Nat) : Int) :=
  (show Txt.count (S s) (S [10]) = _ from PyProof.Rows.count_cnt (S s) 10).trans (cnt_count s)
theorem at10 (s : List Nat) (i : Nat) : StrLaws.At (S s) (S [10]) (S s).length i ↔ s[i]? = some 10 := by
  refine (TL.at_iff (x := S s) (y := S [10]) (by simp) i).trans ?_
  show TL.pre [10] (s.drop i) = true ↔ _
  unfold TL.pre
  show ((s.drop i).take 1 == [10]) = true ↔ _
  rw [beq_iff_eq]
  cases h : s.drop i with
  | nil =>
    have hl := List.drop_eq_nil_iff.mp h
    rw [List.getElem?_eq_none hl]
    simp
  | cons c r =>
    have e : s[i]? = some c := by
      have := List.getElem?_drop (xs := s) (i := i) (j := 0)
      rw [h] at this
      simpa using this.symm
    rw [e]
    simp
theorem rfind_S (s : List Nat) : Txt.rfind (S s) (S [10]) = (s.length : Int) - ((posF s).2 : Int) - 1 := by
  have hsp := StrLaws.last_spec (S s) (S [10])
  unfold Txt.rfind
  rcases hsp with ⟨e, h⟩ | ⟨i, e, h1, h2⟩
  · rw [e]
    have hn := fold_no s 0 0 fun i q => h i ((at10 s i).mpr q)
    unfold posF
    rw [hn]
    show (-1 : Int) = _
    omega
  · rw [e]
    have hl := fold_last s 0 0 i ((at10 s i).mp h1) fun j hj q => h2 j hj ((at10 s j).mpr q)
    unfold posF
    show (i : Int) = _
    omega
end HW

set_option Elab.async false
set_option linter.all false
set_option maxRecDepth 100000
namespace HW
open PySem PySem.Spec PyProof.Rows L2 Evl SX
/-! ### flat lists -/
section
variable {H : Hp}
theorem rps_map {α : Type} (f : α → D) (g : α → V) (h : ∀ a v, Rp H (f a) v → v = g a) : ∀ {xs : List α} {vs : List V}, Rps H (xs.map f) vs → vs = xs.map g
  | [], _, r => rps_nil.mp r
  | x :: xs, _, r => by
    obtain ⟨v, q, rfl, h1, h2⟩ := rps_cons.mp r
    rw [h x v h1, rps_map f g h h2]
    rfl
theorem rps_ints {xs : List Int} {vs : List V} (r : Rps H (xs.map D.int) vs) : vs = xs.map V.int := rps_map D.int V.int (fun _ _ q => rp_int.mp q) r
theorem rps_bls {xs : List Bool} {vs : List V} (r : Rps H (xs.map D.bl) vs) : vs = xs.map V.bl := rps_map D.bl V.bl (fun _ _ q => rp_bl.mp q) r
theorem rps_strs {xs : List (List Nat)} {vs : List V} (r : Rps H (xs.map D.str) vs) : vs = xs.map (fun l => V.str (S l)) := rps_map D.str (fun l => V.str (S l)) (fun _ _ q => rp_str.mp q) r
theorem rps_of_map {α : Type} (f : α → D) (g : α → V) (h : ∀ a, Rp H (f a) (g a)) : ∀ (xs : List α), Rps H (xs.map f) (xs.map g)
  | [] => rps_nil.mpr rfl
  | x :: xs => rps_cons.mpr ⟨g x, xs.map g, rfl, h x, rps_of_map f g h xs⟩
theorem rps_take : ∀ {ds : List D} {vs : List V} (n : Nat), Rps H ds vs → Rps H (ds.take n) (vs.take n)
  | _, _, 0, _ => by rw [List.take_zero, List.take_zero]; exact rps_nil.mpr rfl
  | [], _, n + 1, r => by rw [rps_nil.mp r]; exact rps_nil.mpr rfl
  | d :: ds, _, n + 1, r => by
    obtain ⟨v, q, rfl, h1, h2⟩ := rps_cons.mp r
    exact rps_cons.mpr ⟨v, q.take n, rfl, h1, rps_take n h2⟩
end
/-! ### the type of data -/
def tyD : D → String
  | .non => "NoneType" | .bl _ => "bool" | .int _ => "int" | .str _ => "str" | .tup _ => "tuple" | .lst _ => "list"
theorem tyD_of {K : PySem.W.Frag} {H : Hp} {v : V} : ∀ {d : D}, Rp H d v → TyX K H v (.type (tyD d))
  | .non, r => by rw [rp_non.mp r]; exact .base .non
  | .bl b, r => by rw [rp_bl.mp r]; exact .base (.bl b)
  | .int b, r => by rw [rp_int.mp r]; exact .base (.int b)
  | .str b, r => by rw [rp_str.mp r]; exact .base (.str _)
  | .tup b, r => by obtain ⟨p, vs, rfl, h, _⟩ := rp_tup.mp r; exact .base (.tup h)
  | .lst b, r => by obtain ⟨p, vs, rfl, h, _⟩ := rp_lst.mp r; exact .base (.lst h)
/-! ### data without lists: tuples stay, whatever is changed -/
mutual
def nl : D → Bool
  | .tup ds => nls ds
  | .lst _ => false
  | _ => true
def nls : List D → Bool
  | [] => true
  | d :: ds => nl d && nls ds
end
def Tx (H H' : Hp) : Prop := ∀ b xs, H b = some (.tup xs) → H' b = some (.tup xs)
theorem Tx.of {H H' : Hp} (e : Ex H H') : Tx H H' := fun b xs h => e b _ h
theorem Tx.refl (H : Hp) : Tx H H := fun _ _ h => h
theorem Tx.trans {H H1 H2 : Hp} (a : Tx H H1) (b : Tx H1 H2) : Tx H H2 := fun c xs h => b c xs (a c xs h)
theorem Tx.upd {H : Hp} {l : Addr} {o : HO} (h : ∀ xs, H l ≠ some (.tup xs)) : Tx H (upd H l o) := fun b xs e => by
  rw [upd_ne (fun z => h xs (by rw [← z]; exact e))]
  exact e
theorem Tx.lst {H : Hp} {l : Addr} {o : HO} {ys : List V} (h : H l = some (.lst ys)) : Tx H (L2.upd H l o) := Tx.upd fun xs e => by rw [h] at e; cases e
mutual
theorem Rp.tx {H H' : Hp} (e : Tx H H') : ∀ {d : D} {v : V}, nl d = true → Rp H d v → Rp H' d v
  | .non, _, _, r => rp_non.mpr (rp_non.mp r)
  | .bl _, _, _, r => rp_bl.mpr (rp_bl.mp r)
  | .int _, _, _, r => rp_int.mpr (rp_int.mp r)
  | .str _, _, _, r => rp_str.mpr (rp_str.mp r)
  | .tup ds, _, h, r => by
    obtain ⟨p, vs, h1, h2, h3⟩ := rp_tup.mp r
    rw [nl] at h
    exact rp_tup.mpr ⟨p, vs, h1, e _ _ h2, Rps.tx e h h3⟩
  | .lst _, _, h, _ => by rw [nl] at h; cases h
theorem Rps.tx {H H' : Hp} (e : Tx H H') : ∀ {ds : List D} {vs : List V}, nls ds = true → Rps H ds vs → Rps H' ds vs
  | [], _, _, r => rps_nil.mpr (rps_nil.mp r)
  | d :: ds, _, h, r => by
    obtain ⟨v, q, h1, h2, h3⟩ := rps_cons.mp r
    rw [nls, Bool.and_eq_true] at h
    exact rps_cons.mpr ⟨v, q, h1, Rp.tx e h.1 h2, Rps.tx e h.2 h3⟩
end
theorem nls_all : ∀ {ds : List D}, (∀ d ∈ ds, nl d = true) → nls ds = true
  | [], _ => rfl
  | d :: ds, h => by
    rw [nls, h d List.mem_cons_self, nls_all fun x hx => h x (List.mem_cons_of_mem _ hx)]
    rfl
/-! ### data compared with itself -/
mutual
def pd : D → PyData
  | .non => .none | .bl b => .bool b | .int i => .int i | .str l => .str (S l) | .tup ds => .tuple (pds ds) | .lst ds => .list (pds ds)
def pds : List D → List PyData
  | [] => []
  | d :: ds => pd d :: pds ds
end
mutual
theorem Rp.pd {K : PySem.W.Frag} {H : Hp} : ∀ {d : D} {v : V}, Rp H d v → Dp K H v (pd d)
  | .non, _, r => by rw [rp_non.mp r, HW.pd]; exact .non
  | .bl b, _, r => by rw [rp_bl.mp r, HW.pd]; exact .bl b
  | .int b, _, r => by rw [rp_int.mp r, HW.pd]; exact .int b
  | .str b, _, r => by rw [rp_str.mp r, HW.pd]; exact .str _
  | .tup ds, _, r => by
    obtain ⟨p, vs, rfl, h, h2⟩ := rp_tup.mp r
    rw [HW.pd]
    exact .tup (st_of h) (Rps.pd h2)
  | .lst ds, _, r => by
    obtain ⟨p, vs, rfl, h, h2⟩ := rp_lst.mp r
    rw [HW.pd]
    exact .lst (sq_of h) (Rps.pd h2)
theorem Rps.pd {K : PySem.W.Frag} {H : Hp} : ∀ {ds : List D} {vs : List V}, Rps H ds vs → DpAll K H vs (pds ds)
  | [], _, r => by rw [rps_nil.mp r, pds]; exact .nil
  | d :: ds, _, r => by
    obtain ⟨v, q, rfl, h1, h2⟩ := rps_cons.mp r
    rw [pds]
    exact .cons (Rp.pd h1) (Rps.pd h2)
end

section
variable {K : PySem.W.Frag} {σ : L2.St} {H H' : Hp} {ta tb tc te tx : TE} {t u : TT} {x y z v : V} {r r' : R2} {d e : D} {ds : List D}
/-! ### comparisons -/
theorem ev_chain {k k' : Bool} (ha : Ev ta σ H x) (hb : Ev tb σ H y) (hr : RV r x y H (.bl k)) (hc : k = true → Ev tc σ H z) (hr' : k = true → RV r' y z H (.bl k')) : Ev (tChain r r' ta tb tc) σ H (.bl (k && k')) := fun H1 e Q q =>
  ha H1 e _ fun H2 e2 => hb H2 (e.trans e2) _ fun H3 e3 => hr H3 ((e.trans e2).trans e3) _ fun H4 e4 => ⟨k, rfl, by
    cases k with
    | true =>
      show tc σ H4 _
      exact hc rfl H4 (((e.trans e2).trans e3).trans e4) _ fun H5 e5 => hr' rfl H5 ((((e.trans e2).trans e3).trans e4).trans e5) Q fun H6 e6 => q H6 ((((e2.trans e3).trans e4).trans e5).trans e6)
    | false =>
      show Q (.bl false) H4
      exact q H4 ((e2.trans e3).trans e4)⟩
theorem et_chain {k k' : Bool} (ha : Ev ta σ H x) (hb : Ev tb σ H y) (hr : RV r x y H (.bl k)) (hc : k = true → Ev tc σ H z) (hr' : k = true → RV r' y z H (.bl k')) : EvT (tTest (tChain r r' ta tb tc)) σ H (k && k') := et_test (ev_chain ha hb hr hc hr')
theorem rv_leS {a b : List Nat} : RV (fun x y H Q => ∃ i j, x = .str i ∧ y = .str j ∧ Q (.bl (!decide (j.cps.toList < i.cps.toList))) H) (.str (S a)) (.str (S b)) H (.bl (!decide (b < a))) := fun H1 _ _ q => ⟨S a, S b, rfl, rfl, q H1 (Ex.refl H1)⟩
theorem rv_addS {a b : List Nat} (hl : a.length + b.length ≤ 100000) : RV (fun x y H Q => ∃ i j, x = .str i ∧ y = .str j ∧ i.length + j.length ≤ sizeLine ∧ Q (.str (i ++ j)) H) (.str (S a)) (.str (S b)) H (.str (S (a ++ b))) := fun H1 _ _ q =>
  ⟨S a, S b, rfl, rfl, by rw [S_len, S_len]; exact sz_of hl, by rw [S_cat]; exact q H1 (Ex.refl H1)⟩
theorem rv_eqS {a b : List Nat} : RV rEq (.str (S a)) (.str (S b)) H (.bl (decide (a = b))) := fun H1 _ _ q => ⟨rfl, by
  have e : decide (V.str (S a) = V.str (S b)) = decide (a = b) := by
    by_cases h : a = b
    · subst h; simp
    · have h' : ¬ V.str (S a) = V.str (S b) := fun z => h (S_inj (V.str.inj z))
      rw [decide_eq_false h, decide_eq_false h']
  rw [e]
  exact q H1 (Ex.refl H1)⟩
theorem rv_neS {a b : List Nat} : RV rNe (.str (S a)) (.str (S b)) H (.bl (!decide (a = b))) := fun H1 _ _ q => ⟨rfl, by
  have e : decide (V.str (S a) = V.str (S b)) = decide (a = b) := by
    by_cases h : a = b
    · subst h; simp
    · have h' : ¬ V.str (S a) = V.str (S b) := fun z => h (S_inj (V.str.inj z))
      rw [decide_eq_false h, decide_eq_false h']
  rw [e]
  exact q H1 (Ex.refl H1)⟩
theorem rv_eqI {a b : Int} : RV rEq (.int a) (.int b) H (.bl (decide (a = b))) := fun H1 _ _ q => ⟨rfl, by
  have e : decide (V.int a = V.int b) = decide (a = b) := by
    by_cases h : a = b
    · subst h; simp
    · rw [decide_eq_false h, decide_eq_false fun z => h (V.int.inj z)]
  rw [e]
  exact q H1 (Ex.refl H1)⟩
theorem rv_neI {a b : Int} : RV rNe (.int a) (.int b) H (.bl (!decide (a = b))) := fun H1 _ _ q => ⟨rfl, by
  have e : decide (V.int a = V.int b) = decide (a = b) := by
    by_cases h : a = b
    · subst h; simp
    · rw [decide_eq_false h, decide_eq_false fun z => h (V.int.inj z)]
  rw [e]
  exact q H1 (Ex.refl H1)⟩
theorem rv_neB {a b : Bool} : RV rNe (.bl a) (.bl b) H (.bl (!decide (a = b))) := fun H1 _ _ q => ⟨rfl, by
  have e : decide (V.bl a = V.bl b) = decide (a = b) := by
    by_cases h : a = b
    · subst h; simp
    · rw [decide_eq_false h, decide_eq_false fun z => h (V.bl.inj z)]
  rw [e]
  exact q H1 (Ex.refl H1)⟩
theorem rv_isN {x : V} : RV (fun x y H Q => y = .non ∧ Q (.bl (decide (x = .non))) H) x .non H (.bl (decide (x = .non))) := fun H1 _ _ q => ⟨rfl, q H1 (Ex.refl H1)⟩
/-! ### isinstance -/
theorem ed_isi {n : String} {b : Bool} (h : EvD ta σ H d) (hk : kitB (tyD d) n = some b) : Ev (tCB (rIsi K) (tCons ta (tCons (tC (.ty n)) tNil))) σ H (.bl b) := fun H1 e Q q =>
  h H1 e _ fun v H2 e2 r => ⟨v, .ty n, .type (tyD d), .type n, b, rfl, .ty n, tyD_of r, kit_ty hk, q H2 e2⟩
theorem ed_isiT {n m : String} {b : Bool} (h : EvD ta σ H d) (hk : PySem.W.kitAny K (.type (tyD d)) [.type n, .type m] = some b) :
    Ev (tCB (rIsiT K) (tCons ta (tCons (tTup (tCons (tC (.ty n)) (tCons (tC (.ty m)) tNil))) tNil))) σ H (.bl b) := fun H1 e Q q =>
  h H1 e _ fun v H2 e2 r => ⟨by show 2 ≤ sizeLine; decide, fun p hp => ⟨v, p, [.ty n, .ty m], .type (tyD d), [.type n, .type m], b, rfl, upd_same, .cons (.ty n) (.cons (.ty m) .nil), tyD_of (r.ex (Ex.new hp)), hk, q _ (e2.trans (Ex.new hp))⟩⟩
theorem k_ss : kitB "str" "str" = some true := by decide +kernel
theorem k_ii : kitB "int" "int" = some true := by decide +kernel
theorem k_ib : kitB "int" "bool" = some false := by decide +kernel
theorem k_tt : kitB "tuple" "tuple" = some true := by decide +kernel
theorem k_tl : kitB "tuple" "list" = some false := by decide +kernel
theorem k_lt : kitB "list" "tuple" = some false := by decide +kernel
theorem k_ll : kitB "list" "list" = some true := by decide +kernel
theorem k_nt : kitB "NoneType" "tuple" = some false := by decide +kernel
theorem k_nl : kitB "NoneType" "list" = some false := by decide +kernel
theorem k_st : kitB "str" "tuple" = some false := by decide +kernel
theorem k_sl : kitB "str" "list" = some false := by decide +kernel
theorem k_it : kitB "int" "tuple" = some false := by decide +kernel
theorem k_il : kitB "int" "list" = some false := by decide +kernel
theorem k_is : kitB "int" "str" = some false := by decide +kernel
theorem k_bt : kitB "bool" "tuple" = some false := by decide +kernel
theorem k_bl : kitB "bool" "list" = some false := by decide +kernel
theorem k_bs : kitB "bool" "str" = some false := by decide +kernel
theorem k_bb : kitB "bool" "bool" = some true := by decide +kernel
theorem kit2 {t n m : String} {b c : Bool} (h1 : kitB t n = some b) (h2 : kitB t m = some c) : PySem.W.kitAny K (.type t) [.type n, .type m] = some (b || c) :=
  kitAny_cons (kit_ty h1) (fun hb => by rw [hb, Bool.false_or]; exact kitAny_cons (kit_ty h2) (fun hc => by rw [hc]; exact kitAny_nil) fun hc => hc) fun hb => by rw [hb]; rfl
/-! ### len -/
theorem ev_lenS {l : List Nat} (h : Ev ta σ H (.str (S l))) (hl : l.length ≤ 100000) : Ev (tCB (fun xs H Q => ∃ z, xs = [.str z] ∧ z.length ≤ sizeLine ∧ Q (.int z.length) H) (tCons ta tNil)) σ H (.int (l.length : Int)) := fun H1 e Q q =>
  h H1 e _ fun H2 e2 => ⟨S l, rfl, by rw [S_len]; exact sz_of hl, by rw [S_len]; exact q H2 e2⟩
theorem ed_lenL (h : EvD ta σ H (.lst ds)) : Ev (tCB (fun xs H Q => ∃ p ys, xs = [.ref p] ∧ (SqL K H p ys ∨ SqT K H p ys) ∧ Q (.int ys.length) H) (tCons ta tNil)) σ H (.int (ds.length : Int)) := fun H1 e Q q =>
  h H1 e _ fun v H2 e2 r => by
    obtain ⟨p, vs, rfl, h2, h3⟩ := rp_lst.mp r
    exact ⟨p, vs, rfl, .inl (sq_of h2), by rw [rps_len h3]; exact q H2 e2⟩
theorem ed_lenT (h : EvD ta σ H (.tup ds)) : Ev (tCB (fun xs H Q => ∃ p ys, xs = [.ref p] ∧ (SqL K H p ys ∨ SqT K H p ys) ∧ Q (.int ys.length) H) (tCons ta tNil)) σ H (.int (ds.length : Int)) := fun H1 e Q q =>
  h H1 e _ fun v H2 e2 r => by
    obtain ⟨p, vs, rfl, h2, h3⟩ := rp_tup.mp r
    exact ⟨p, vs, rfl, .inr (st_of h2), by rw [rps_len h3]; exact q H2 e2⟩
/-! ### all, sum, max, min -/
theorem ed_all {bs : List Bool} (h : EvD ta σ H (.lst (bs.map D.bl))) : Ev (tCB (rAll K) (tCons ta tNil)) σ H (.bl (bs.all id)) := fun H1 e Q q =>
  h H1 e _ fun v H2 e2 r => by
    obtain ⟨p, vs, rfl, h2, h3⟩ := rp_lst.mp r
    rw [rps_bls h3] at h2
    exact ⟨p, bs, rfl, sq_of h2, q H2 e2⟩
theorem ed_sum {ns : List Int} (h : EvD ta σ H (.lst (ns.map D.int))) : Ev (tCB (rSum K) (tCons ta tNil)) σ H (.int ns.sum) := fun H1 e Q q =>
  h H1 e _ fun v H2 e2 r => by
    obtain ⟨p, vs, rfl, h2, h3⟩ := rp_lst.mp r
    rw [rps_ints h3] at h2
    exact ⟨p, ns, rfl, sq_of h2, q H2 e2⟩
theorem ed_max {ns : List Int} {m : Int} (h : EvD ta σ H (.lst (ns.map D.int))) (h1 : m ∈ ns) (h2 : ∀ y ∈ ns, y ≤ m) : Ev (tCB (rMax K) (tCons ta tNil)) σ H (.int m) := fun H1 e Q q =>
  h H1 e _ fun v H2 e2 r => by
    obtain ⟨p, vs, rfl, h2', h3⟩ := rp_lst.mp r
    rw [rps_ints h3] at h2'
    refine ⟨p, ns, rfl, sq_of h2', List.length_pos_iff.mpr (List.ne_nil_of_mem h1), fun m' hm hle => ?_⟩
    have : m' = m := Int.le_antisymm (h2 m' hm) (hle m h1)
    rw [this]
    exact q H2 e2
theorem ev_min2 {i j : Int} (ha : Ev ta σ H (.int i)) (hb : Ev tb σ H (.int j)) : Ev (tCB (fun xs H Q => ∃ i j, xs = [.int i, .int j] ∧ Q (.int (if j < i then j else i)) H) (tCons ta (tCons tb tNil))) σ H (.int (min i j)) := fun H1 e Q q =>
  ha H1 e _ fun H2 e2 => hb H2 (e.trans e2) _ fun H3 e3 => ⟨i, j, rfl, by
    have em : (if j < i then j else i) = min i j := by
      by_cases h : j < i
      · rw [if_pos h]; omega
      · rw [if_neg h]; omega
    rw [em]
    exact q H3 (e2.trans e3)⟩
/-! ### texts -/
theorem ed_split {l : List Nat} (h : Ev ta σ H (.str (S l))) (hl : l.length ≤ 100000) :
    EvD (tM1 (fun x xs H Q => ∃ a b, x = .str a ∧ xs = [.str b] ∧ (b.length == 0) = false ∧ a.length + 2 ≤ sizeLine ∧ rNewStrs (Txt.split a b) H Q) ta (tC (.str (Str.ofString "\n")))) σ H (.lst ((rws l).map D.str)) := fun H1 e Q q =>
  h H1 e _ fun H2 e2 => ⟨⟨_, rfl⟩, S l, S [10], rfl, rfl, rfl, by rw [S_len]; exact Nat.le_trans (Nat.add_le_add_right hl 2) (by decide), fun p hp => by
    refine q _ _ (e2.trans (Ex.new hp)) (rp_lst.mpr ⟨p, _, rfl, upd_same, ?_⟩)
    rw [split_rws, List.map_map]
    exact rps_of_map D.str (fun l => V.str (S l)) (fun _ => rp_str.mpr rfl) (rws l)⟩
theorem ev_count {l : List Nat} (h : Ev ta σ H (.str (S l))) : Ev (tM1 (fun x xs H Q => ∃ a b, x = .str a ∧ xs = [.str b] ∧ Q (.int (Txt.count a b)) H) ta (tC (.str (Str.ofString "\n")))) σ H (.int ((l.count 10 : Nat) : Int)) := fun H1 e Q q =>
  h H1 e _ fun H2 e2 => ⟨⟨_, rfl⟩, S l, S [10], rfl, rfl, by rw [count_S]; exact q H2 e2⟩
theorem ev_rfind {l : List Nat} (h : Ev ta σ H (.str (S l))) : Ev (tM1 (fun x xs H Q => ∃ a b, x = .str a ∧ xs = [.str b] ∧ Q (.int (Txt.rfind a b)) H) ta (tC (.str (Str.ofString "\n")))) σ H (.int ((l.length : Int) - ((posF l).2 : Int) - 1)) := fun H1 e Q q =>
  h H1 e _ fun H2 e2 => ⟨⟨_, rfl⟩, S l, S [10], rfl, rfl, by rw [rfind_S]; exact q H2 e2⟩
theorem sIx_n {n d : Nat} {i : Nat} : HT.sIx n d (some (i : Int)) = min i n := HT.sIx_nat n d i
theorem cut_to (l : List Nat) (n : Nat) : cutS (S l) none (some (n : Int)) = S (l.take n) := by
  unfold cutS
  rw [HT.sIx_none, sIx_n]
  show S ((l.drop 0).take (min n (S l).length - 0)) = S (l.take n)
  rw [List.drop_zero, S_len, Nat.sub_zero]
  refine congrArg S ?_
  by_cases h : n ≤ l.length
  · rw [Nat.min_eq_left h]
  · rw [Nat.min_eq_right (by omega), List.take_of_length_le (Nat.le_refl _), List.take_of_length_le (by omega)]
theorem cut_from (l : List Nat) (n : Nat) : cutS (S l) (some (n : Int)) none = S (l.drop n) := by
  unfold cutS
  rw [HT.sIx_none, sIx_n]
  show S ((l.drop (min n (S l).length)).take ((S l).length - min n (S l).length)) = S (l.drop n)
  rw [S_len]
  refine congrArg S ?_
  by_cases h : n ≤ l.length
  · rw [Nat.min_eq_left h, List.take_of_length_le (by rw [List.length_drop]; omega)]
  · rw [Nat.min_eq_right (by omega), List.drop_eq_nil_of_le (show l.length ≤ n by omega), List.drop_eq_nil_of_le (Nat.le_refl _), List.take_nil]
theorem cut_mid (l : List Nat) (a b : Nat) (h1 : a ≤ b) (h2 : b ≤ l.length) : cutS (S l) (some (a : Int)) (some (b : Int)) = S ((l.drop a).take (b - a)) := by
  unfold cutS
  rw [sIx_n, sIx_n]
  show S ((l.drop (min a (S l).length)).take (min b (S l).length - min a (S l).length)) = _
  rw [S_len, Nat.min_eq_left h2, Nat.min_eq_left (Nat.le_trans h1 h2)]
theorem ev_slS {lo hi : Option Int} {tl th : TO} {l m : List Nat} (h : Ev ta σ H (.str (S l))) (h1 : EvO tl σ H lo) (h2 : EvO th σ H hi) (hl : l.length ≤ 100000) (hm : cutS (S l) lo hi = S m) : Ev (tSl rSlS ta tl th) σ H (.str (S m)) := fun H1 e Q q =>
  h H1 e _ fun H2 e2 => h1 H2 (e.trans e2) _ fun H3 e3 => h2 H3 ((e.trans e2).trans e3) _ fun H4 e4 => ⟨S l, rfl, by rw [S_len]; exact sz_of hl, by rw [hm]; exact q H4 ((e2.trans e3).trans e4)⟩
theorem ev_to {th : TE} {l : List Nat} {n : Nat} (h : Ev ta σ H (.str (S l))) (h2 : Ev th σ H (.int (n : Int))) (hl : l.length ≤ 100000) : Ev (tSl rSlS ta tNoPart (tPart th)) σ H (.str (S (l.take n))) := ev_slS h eo_none (eo_some h2) hl (cut_to l n)
theorem ev_from {tl : TE} {l : List Nat} {n : Nat} (h : Ev ta σ H (.str (S l))) (h2 : Ev tl σ H (.int (n : Int))) (hl : l.length ≤ 100000) : Ev (tSl rSlS ta (tPart tl) tNoPart) σ H (.str (S (l.drop n))) := ev_slS h (eo_some h2) eo_none hl (cut_from l n)
theorem ev_mid {tl th : TE} {l : List Nat} {a b : Nat} (h : Ev ta σ H (.str (S l))) (h1 : Ev tl σ H (.int (a : Int))) (h2 : Ev th σ H (.int (b : Int))) (hl : l.length ≤ 100000) (hab : a ≤ b) (hb : b ≤ l.length) : Ev (tSl rSlS ta (tPart tl) (tPart th)) σ H (.str (S ((l.drop a).take (b - a)))) :=
  ev_slS h (eo_some h1) (eo_some h2) hl (cut_mid l a b hab hb)
theorem ev_revS {l : List Nat} (h : Ev ta σ H (.str (S l))) (hl : l.length ≤ 100000) : Ev (tRevS ta) σ H (.str (S l.reverse)) := fun H1 e Q q =>
  h H1 e _ fun H2 e2 => ⟨S l, rfl, by rw [S_len]; exact sz_of hl, q H2 e2⟩
theorem ev_ixS {l : List Nat} {i c : Nat} (h : Ev ta σ H (.str (S l))) (hi : Ev tb σ H (.int (i : Int))) (hl : l.length ≤ 100000) (hc : l[i]? = some c) : Ev (tOp rIxS ta tb) σ H (.str (S [c])) :=
  ev_op h hi (rv_ixS (by rw [S_len]; exact hl) (atI_nat hc))
theorem cutV_to (vs : List V) (n : Nat) : cutV vs none (some (n : Int)) = vs.take n := by
  unfold cutV
  rw [HT.sIx_none, sIx_n, List.drop_zero, Nat.sub_zero]
  by_cases h : n ≤ vs.length
  · rw [Nat.min_eq_left h]
  · rw [Nat.min_eq_right (by omega), List.take_of_length_le (Nat.le_refl _), List.take_of_length_le (by omega)]
theorem ed_toL {th : TE} {n : Nat} (h : EvD ta σ H (.lst ds)) (h2 : Ev th σ H (.int (n : Int))) : EvD (tSl (rSlL K) ta tNoPart (tPart th)) σ H (.lst (ds.take n)) := fun H1 e Q q =>
  h H1 e _ fun v H2 e2 r => h2 H2 (e.trans e2) _ fun H3 e3 => ⟨n, rfl, by
    obtain ⟨p, vs, rfl, h4, h5⟩ := rp_lst.mp (r.ex e3)
    refine ⟨p, vs, rfl, sq_of h4, fun p' hp => q _ _ ((e2.trans e3).trans (Ex.new hp)) (rp_lst.mpr ⟨p', _, rfl, upd_same, ?_⟩)⟩
    rw [cutV_to]
    exact rps_take n (h5.ex (Ex.new hp))⟩
/-! ### what is walked -/
/-- n turns, the i-th gives what reads as dy i -/
def EvI (wi : TI) (σ : L2.St) (H : Hp) (n : Nat) (dy : Nat → D) : Prop := ∀ H1, Ex H H1 → ∀ R : It → Hp → Prop, (∀ J H2 G Y, Ex H1 H2 → Walk J n G Y → (∀ H3, Ex H2 H3 → G H3) →
  (∀ i H3 x H4, i < n → Ex H2 H3 → Y i H3 x H4 → Ex H3 H4 ∧ Rp H4 (dy i) x) → R J H2) → wi σ H1 R
theorem ei_list (h : EvD ta σ H (.lst ds)) : EvI (iList K ta) σ H ds.length (fun i => ds.getD i .non) := fun H1 e R q =>
  h H1 e _ fun v H2 e2 r => by
    obtain ⟨p, vs, rfl, h4, h5⟩ := rp_lst.mp r
    refine ⟨p, rfl, ⟨vs, sq_of h4⟩, q _ H2 (fun H => SqL K H p vs) (YAt vs) e2 (by rw [← rps_len h5]; exact walk_list) (fun H3 e3 => sq_of (e3 p _ h4)) fun i H3 x H4 hi e3 hy => ?_⟩
    obtain ⟨rfl, hx⟩ := hy
    have hd : ds[i]? = some ds[i] := List.getElem?_eq_getElem hi
    obtain ⟨v, hv, rv⟩ := rps_get h5 hd
    rw [hv] at hx
    cases hx
    refine ⟨Ex.refl _, ?_⟩
    show Rp H4 (ds.getD i .non) x
    rw [List.getD_eq_getElem?_getD, hd]
    exact rv.ex e3
theorem ei_rev (h : EvD ta σ H (.lst ds)) : EvI (iRev K (tCons ta tNil)) σ H ds.length (fun i => ds.getD (ds.length - 1 - i) .non) := fun H1 e R q =>
  h H1 e _ fun v H2 e2 r => by
    obtain ⟨p, vs, rfl, h4, h5⟩ := rp_lst.mp r
    have hl := rps_len h5
    refine ⟨p, vs, rfl, sq_of h4, q _ H2 (fun H => SqL K H p vs) _ e2 (by rw [← hl]; exact walk_rev) (fun H3 e3 => sq_of (e3 p _ h4)) fun i H3 x H4 hi e3 hy => ?_⟩
    obtain ⟨rfl, hx⟩ := hy
    have hd : ds[ds.length - 1 - i]? = some ds[ds.length - 1 - i] := List.getElem?_eq_getElem (by omega)
    obtain ⟨v, hv, rv⟩ := rps_get h5 hd
    rw [hl, hv] at hx
    cases hx
    refine ⟨Ex.refl _, ?_⟩
    show Rp H4 (ds.getD (ds.length - 1 - i) .non) x
    rw [List.getD_eq_getElem?_getD, hd]
    exact rv.ex e3
theorem ei_str {l : List Nat} (h : Ev ta σ H (.str (S l))) : EvI (iStr ta) σ H l.length (fun i => .str [l.getD i 0]) := fun H1 e R q =>
  h H1 e _ fun H2 e2 => ⟨S l, rfl, q _ H2 (fun _ => True) _ e2 (by have w := walk_str (z := S l); exact w) (fun _ _ => trivial) fun i H3 x H4 hi e3 hy => by
    obtain ⟨rfl, c, hc, rfl⟩ := hy
    refine ⟨Ex.refl _, rp_str.mpr ?_⟩
    have hc : l[i]? = some c := by simpa [S] using hc
    rw [List.getD_eq_getElem?_getD, hc]
    rfl⟩
theorem ei_range {n : Int} (h : Ev ta σ H (.int n)) (hn : 0 ≤ n ∧ n ≤ 100000) : EvI (iRng1 (tCons ta tNil)) σ H n.toNat (fun i => .int (i : Int)) := fun H1 e R q =>
  h H1 e _ fun H2 e2 => ⟨n, rfl, by omega, by omega, q _ H2 (fun _ => True) _ e2 walk_range (fun _ _ => trivial) fun i H3 x H4 hi e3 hy => by
    obtain ⟨rfl, rfl⟩ := hy
    refine ⟨Ex.refl _, rp_int.mpr ?_⟩
    show V.int (0 + (i : Int)) = V.int (i : Int)
    rw [Int.zero_add]⟩
/-! ### comprehensions -/
def picked (n : Nat) (f : Nat → Bool) (dv : Nat → D) : List D := ((List.range n).filter f).map dv
theorem picked_yes {n : Nat} {f : Nat → Bool} {v : Nat → D} (h : f n = true) : picked (n + 1) f v = picked n f v ++ [v n] := by
  unfold picked
  rw [List.range_succ, List.filter_append, List.map_append, List.filter_cons, if_pos h] <;> rfl
theorem picked_no {n : Nat} {f : Nat → Bool} {v : Nat → D} (h : f n = false) : picked (n + 1) f v = picked n f v := by
  unfold picked
  rw [List.range_succ, List.filter_append, List.map_append, List.filter_cons, if_neg (by rw [h]; decide)]
  show _ ++ [] = _
  rw [List.append_nil]
theorem picked_len (n : Nat) (f : Nat → Bool) (v : Nat → D) : (picked n f v).length ≤ n := by
  unfold picked
  rw [List.length_map]
  have h := List.length_filter_le f (List.range n)
  rw [List.length_range] at h
  exact h
theorem ed_lc {wi : TI} {n j : Nat} {dy : Nat → D} {ws : List Nat} (f : Nat → Bool) (dv : Nat → D) (h : EvI wi σ H n dy) (hz : n ≤ 40000) (hnl : ∀ i, nl (dv i) = true) (hw : ∀ x, wipe ((wipe σ ws).set j (some x)) ws = wipe σ ws)
    (ht : ∀ (i : Nat) (x : V) H1, i < n → Ex H H1 → Rp H1 (dy i) x → EvT t ((wipe σ ws).set j (some x)) H1 (f i)) (he : ∀ (i : Nat) (x : V) H1, i < n → Ex H H1 → Rp H1 (dy i) x → f i = true → EvD te ((wipe σ ws).set j (some x)) H1 (dv i)) :
    EvD (tLc wi (gName j) t te ws) σ H (.lst (picked n f dv)) := fun H0 e Q q => h H0 e _ fun J H1 G Y e1 W hG hY Dl hD =>
  lc_it W (fun i H' => ∃ vs, Ex H1 H' ∧ H' Dl = some (.lst vs) ∧ Rps H' (picked i f dv) vs) ⟨[], Ex.new hD, upd_same, rps_nil.mpr rfl⟩ (fun i H' hi ⟨_, p, _⟩ => hG H' p)
    (fun i x H' H'' hi ⟨vs, p1, p2, p3⟩ hy => by
      obtain ⟨ey, ry⟩ := hY i H' x H'' hi p1 hy
      refine ⟨hw x, ht i x H'' hi ((e.trans e1).trans (p1.trans ey)) ry H'' (Ex.refl _) _ fun H3 e3 => ?_⟩
      have p12 := p1.trans (ey.trans e3)
      cases hf : f i with
      | true =>
        show te _ H3 _
        refine he i x H'' hi ((e.trans e1).trans (p1.trans ey)) ry hf H3 e3 _ fun y H4 e4 ry4 => ⟨vs, e4 Dl _ (e3 Dl _ (ey Dl _ p2)), ?_, vs ++ [y], Ex.mut (p12.trans e4) hD, upd_same, ?_⟩
        · have := picked_len i f dv
          rw [rps_len p3]
          exact sz_lt (by omega)
        · rw [picked_yes hf]
          have tx : Tx H4 (upd H4 Dl (.lst (vs ++ [y]))) := Tx.lst (e4 Dl _ (e3 Dl _ (ey Dl _ p2)))
          refine rps_app (Rps.tx tx (nls_all fun d hd => ?_) (p3.ex (ey.trans (e3.trans e4)))) (rps_cons.mpr ⟨y, [], rfl, Rp.tx tx (hnl i) ry4, rps_nil.mpr rfl⟩)
          unfold picked at hd
          obtain ⟨k, _, rfl⟩ := List.mem_map.mp hd
          exact hnl k
      | false =>
        show ∃ vs, _
        refine ⟨vs, p12, e3 Dl _ (ey Dl _ p2), ?_⟩
        rw [picked_no hf]
        exact p3.ex (ey.trans e3)) fun H' ⟨vs, p1, p2, p3⟩ => q _ H' (e1.trans p1) (rp_lst.mpr ⟨Dl, vs, rfl, p2, p3⟩)
end
end HW

set_option Elab.async false
set_option linter.all false
set_option maxRecDepth 100000
namespace HW
open PySem PySem.Spec PyProof.Rows L2 Evl SX
theorem picked_map {α : Type} {xs : List α} (f : α → D) {dv : Nat → D} (h : ∀ (i : Nat) x, xs[i]? = some x → dv i = f x) : picked xs.length (fun _ => true) dv = xs.map f := by
  unfold picked
  rw [List.filter_eq_self.mpr (fun _ _ => rfl)]
  refine List.ext_getElem? fun i => ?_
  rw [List.getElem?_map, List.getElem?_map]
  by_cases hi : i < xs.length
  · rw [List.getElem?_range hi, List.getElem?_eq_getElem hi]
    show some (dv i) = some (f xs[i])
    rw [h i _ (List.getElem?_eq_getElem hi)]
  · rw [List.getElem?_eq_none (by simpa using hi), List.getElem?_eq_none (by simpa using hi)]
    rfl
section
variable {K : PySem.W.Frag} {σ : L2.St} {H H' : Hp} {ta tb tc te tx : TE} {t u : TT} {x y z v : V} {r r' : R2} {d e : D} {ds : List D} {D' : Ends} {tu tw tz : TS} {g : TG}
theorem rv_le {i j : Int} (h : i ≤ j) : RV (rI0 fun i j => .bl (decide (i ≤ j))) (.int i) (.int j) H (.bl true) := by
  have := rv_I0 (H := H) (g := fun i j => V.bl (decide (i ≤ j))) (i := i) (j := j)
  rw [decide_eq_true h] at this
  exact this
theorem rv_lt {i j : Int} (h : i < j) : RV (rI0 fun i j => .bl (decide (i < j))) (.int i) (.int j) H (.bl true) := by
  have := rv_I0 (H := H) (g := fun i j => V.bl (decide (i < j))) (i := i) (j := j)
  rw [decide_eq_true h] at this
  exact this
theorem et_no (h : EvT t σ H true) : EvT (tNot t) σ H false := et_is (et_not h) rfl
theorem et_yes (h : EvT t σ H false) : EvT (tNot t) σ H true := et_is (et_not h) rfl
theorem et_or0 {b : Bool} (h1 : EvT t σ H false) (h2 : EvT u σ H b) : EvT (tOr t u) σ H b := et_is (et_or h1 fun _ => h2) (Bool.false_or b)
theorem et_and1 {b : Bool} (h1 : EvT t σ H true) (h2 : EvT u σ H b) : EvT (tAnd t u) σ H b := et_is (et_and h1 fun _ => h2) (Bool.true_and b)
theorem et_and0 (h1 : EvT t σ H false) : EvT (tAnd t u) σ H false := fun H1 e Q q => h1 H1 e _ fun H2 e2 => by
  show Q false H2
  exact q H2 e2
theorem q_par {i j : Nat} (ha : Ev ta σ H x) (hb : Ev tb σ H y) (k : ∀ H1, Ex H H1 → tz D' ((σ.set i (some x)).set j (some y)) H1) : tSeq (tPar i j (tCons ta (tCons tb tNil))) tz D' σ H :=
  ha H (Ex.refl _) _ fun H1 e1 => hb H1 e1 _ fun H2 e2 => ⟨x, y, rfl, k H2 (e1.trans e2)⟩
theorem qd_par {i j : Nat} {d e : D} (ha : EvD ta σ H d) (hb : EvD tb σ H e) (k : ∀ x y H1, Ex H H1 → Rp H1 d x → Rp H1 e y → tz D' ((σ.set i (some x)).set j (some y)) H1) : tSeq (tPar i j (tCons ta (tCons tb tNil))) tz D' σ H :=
  ha H (Ex.refl _) _ fun x H1 e1 r1 => hb H1 e1 _ fun y H2 e2 r2 => ⟨x, y, rfl, k x y H2 (e1.trans e2) (r1.ex e2) r2⟩
theorem q_parL {i j : Nat} {xs : List V} (ha : Ev ta σ H x) (hb : EvL tb σ H xs) (k : ∀ p H1, H p = none → Ex H H1 → H1 p = some (.lst xs) → tz D' ((σ.set i (some x)).set j (some (.ref p))) H1) : tSeq (tPar i j (tCons ta (tCons tb tNil))) tz D' σ H :=
  ha H (Ex.refl _) _ fun H1 e1 => hb H1 e1 _ fun p H2 hp e2 h2 => ⟨x, .ref p, rfl, k p H2 (fresh_back e1 hp) (e1.trans e2) h2⟩
theorem qd_app {l : Addr} {xs : List V} (hl : H l = some (.lst xs)) (ha : Ev ta σ H (.ref l)) (h : EvD te σ H d) (hz : xs.length < 100000) (k : ∀ v H1, Ex H H1 → Rp H1 d v → tz D' σ (upd H1 l (.lst (xs ++ [v])))) :
    tSeq (tDrop (tBM K "list" rAppend ta (tCons te tNil))) tz D' σ H := ha H (Ex.refl H) _ fun H1 e1 =>
  ⟨Or.inl ⟨rfl, xs, sq_of (e1 l _ hl)⟩, h H1 e1 _ fun v H2 e2 r => ⟨l, xs, v, rfl, rfl, e2 l _ (e1 l _ hl), sz_lt hz, k v H2 (e1.trans e2) r⟩⟩
theorem sd_app {l : Addr} {xs : List V} (hl : H l = some (.lst xs)) (ha : Ev ta σ H (.ref l)) (h : EvD te σ H d) (hz : xs.length < 100000) (k : ∀ v H1, Ex H H1 → Rp H1 d v → D'.nx σ (upd H1 l (.lst (xs ++ [v])))) :
    tDrop (tBM K "list" rAppend ta (tCons te tNil)) D' σ H := ha H (Ex.refl H) _ fun H1 e1 =>
  ⟨Or.inl ⟨rfl, xs, sq_of (e1 l _ hl)⟩, h H1 e1 _ fun v H2 e2 r => ⟨l, xs, v, rfl, rfl, e2 l _ (e1 l _ hl), sz_lt hz, k v H2 (e1.trans e2) r⟩⟩
theorem q_appG {l : Addr} {xs : List V} {i : Nat} (hl : H l = some (.lst xs)) (hv : σ[i]? = some (some (.ref l))) (h : te σ H fun v H1 => rAppend (.ref l) [v] H1 fun _ H3 => tz D' σ H3) :
    tSeq (tDrop (tBM K "list" rAppend (tVar i) (tCons te tNil))) tz D' σ H := ⟨.ref l, hv, Or.inl ⟨rfl, xs, sq_of hl⟩, h⟩
/-- for i, x in enumerate(list) -/
theorem q_forE {a : Addr} {xs : List V} {p q : Nat} (h : Ev ta σ H (.ref a)) (hx : SqL K H a xs) (Pv : Nat → L2.St → Hp → Prop) (h0 : ∀ H1, Ex H H1 → Pv 0 σ H1) (hl : ∀ i σ' H', i ≤ xs.length → Pv i σ' H' → SqL K H' a xs)
    (hs : ∀ (i : Nat) x σ' H' T, xs[i]? = some x → Pv i σ' H' → H' T = none → tu { D' with nx := Pv (i + 1), ct := Pv (i + 1), bk := tz D' } ((σ'.set p (some (.int (i : Nat)))).set q (some x)) (upd H' T (.tup [.int (i : Nat), x])))
    (hd : ∀ σ' H', Pv xs.length σ' H' → tz D' σ' H') : tSeq (tFor (iEnum K (tCons ta tNil)) (gTup K 2 (gCons (gName p) (gCons (gName q) gNil))) tu) tz D' σ H :=
  h H (Ex.refl H) _ fun H1 e => ⟨a, xs, rfl, ex_l e hx, for_it walk_enum Pv (h0 H1 e) hl (fun i v σ' H' H'' hi p hy => by
    obtain ⟨T, x, y, rfl, hT, rfl, e1, e2⟩ := hy
    cases e1
    exact ⟨T, _, rfl, st_of upd_same, rfl, _, _, rfl, _, _, rfl, rfl, hs i y σ' H' T e2 p hT⟩) hd⟩
/-- for c in text -/
theorem q_forS {l : List Nat} {j : Nat} (h : Ev ta σ H (.str (S l))) (Pv : Nat → L2.St → Hp → Prop) (h0 : ∀ H1, Ex H H1 → Pv 0 σ H1)
    (hs : ∀ (i : Nat) c σ' H', l[i]? = some c → Pv i σ' H' → tu { D' with nx := Pv (i + 1), ct := Pv (i + 1), bk := tz D' } (σ'.set j (some (.str (S [c])))) H')
    (hd : ∀ σ' H', Pv l.length σ' H' → tz D' σ' H') : tSeq (tFor (iStr ta) (gName j) tu) tz D' σ H :=
  h H (Ex.refl H) _ fun H1 e => ⟨S l, rfl, for_it (show Walk (Its (S l)) l.length _ _ from walk_str (z := S l)) Pv (h0 H1 e) (fun _ _ _ _ _ => trivial) (fun i v σ' H' H'' hi p hy => by
    obtain ⟨rfl, c, hc, rfl⟩ := hy
    exact hs i c σ' _ (by simpa [S] using hc) p) hd⟩
theorem walk_enumS {z : Str} : Walk (Ites z) z.cps.size (fun _ => True) (fun i H v H' => ∃ T c, v = .ref T ∧ H T = none ∧ z.cps[i]? = some c ∧ H' = upd H T (.tup [.int (i : Nat), .str ⟨#[c]⟩])) :=
  ⟨fun _ _ hi _ => hi, fun _ _ => rfl, fun _ _ _ _ _ _ y => y⟩
/-- for i, c in enumerate(text) -/
theorem q_forES {l : List Nat} {p q : Nat} (h : Ev ta σ H (.str (S l))) (Pv : Nat → L2.St → Hp → Prop) (h0 : ∀ H1, Ex H H1 → Pv 0 σ H1)
    (hs : ∀ (i : Nat) c σ' H' T, l[i]? = some c → Pv i σ' H' → H' T = none → tu { D' with nx := Pv (i + 1), ct := Pv (i + 1), bk := tz D' } ((σ'.set p (some (.int (i : Nat)))).set q (some (.str (S [c])))) (upd H' T (.tup [.int (i : Nat), .str (S [c])])))
    (hd : ∀ σ' H', Pv l.length σ' H' → tz D' σ' H') : tSeq (tFor (iEnumS (tCons ta tNil)) (gTup K 2 (gCons (gName p) (gCons (gName q) gNil))) tu) tz D' σ H :=
  h H (Ex.refl H) _ fun H1 e => ⟨S l, rfl, for_it (show Walk (Ites (S l)) l.length _ _ from walk_enumS (z := S l)) Pv (h0 H1 e) (fun _ _ _ _ _ => trivial) (fun i v σ' H' H'' hi p hy => by
    obtain ⟨T, c, rfl, hT, hc, rfl⟩ := hy
    exact ⟨T, _, rfl, st_of upd_same, rfl, _, _, rfl, _, _, rfl, rfl, hs i c σ' H' T (by simpa [S] using hc) p hT⟩) hd⟩
theorem ed_ixAT {i : Int} (h : EvD ta σ H (.tup ds)) (hi : Ev tb σ H (.int i)) (hd : atI ds i = some d) : EvD (tOp (rIx K) ta tb) σ H d := fun H1 e Q q =>
  h H1 e _ fun v H2 e2 r => hi H2 (e.trans e2) _ fun H3 e3 => by
    obtain ⟨p, vs, rfl, h2, h3⟩ := rp_tup.mp (r.ex e3)
    have hl := rps_len h3
    unfold atI at hd
    cases hj : ixN ds.length i with
    | none => rw [hj] at hd; cases hd
    | some j =>
      rw [hj] at hd
      obtain ⟨w, hw, rw'⟩ := rps_get h3 (show ds[j]? = some d from hd)
      refine .inr (.inl ⟨p, vs, i, w, rfl, rfl, st_of h2, ?_, q w H3 (e2.trans e3) rw'⟩)
      unfold atI
      rw [hl, hj]
      exact hw
theorem ed_ixAL {i : Int} (h : EvD ta σ H (.lst ds)) (hi : Ev tb σ H (.int i)) (hd : atI ds i = some d) : EvD (tOp (rIx K) ta tb) σ H d := fun H1 e Q q =>
  h H1 e _ fun v H2 e2 r => hi H2 (e.trans e2) _ fun H3 e3 => by
    obtain ⟨p, vs, rfl, h2, h3⟩ := rp_lst.mp (r.ex e3)
    have hl := rps_len h3
    unfold atI at hd
    cases hj : ixN ds.length i with
    | none => rw [hj] at hd; cases hd
    | some j =>
      rw [hj] at hd
      obtain ⟨w, hw, rw'⟩ := rps_get h3 (show ds[j]? = some d from hd)
      refine .inl ⟨p, vs, i, w, rfl, rfl, sq_of h2, ?_, q w H3 (e2.trans e3) rw'⟩
      unfold atI
      rw [hl, hj]
      exact hw
/-- if xs: of a list -/
theorem et_truL (h : EvD ta σ H (.lst ds)) : EvT (fun σ H Q => ta σ H fun x H' => ∃ k, TruV K x H' k ∧ Q k H') σ H (!ds.isEmpty) := fun H1 e Q q =>
  h H1 e _ fun v H2 e2 r => by
    obtain ⟨p, vs, rfl, h4, h5⟩ := rp_lst.mp r
    refine ⟨!ds.isEmpty, .inl ⟨vs, sq_of h4, ?_⟩, q H2 e2⟩
    have hl := rps_len h5
    cases ds with
    | nil => rw [List.length_nil] at hl; rw [List.length_eq_zero_iff.mp hl]; rfl
    | cons a b =>
      cases vs with
      | nil => simp at hl
      | cons _ _ => rfl
end
end HW

set_option Elab.async false
set_option linter.all false
set_option maxRecDepth 100000
namespace HW
open PySem PySem.Spec PyProof.Rows L2 Evl SX
def topS (i : Nat) : Stmt := PySem.Challenge.pw_helperwire_k03_together_and_back.main.body.getD i (.Pass ⟨0, 0, 0, 0⟩)
section
variable {P : Program} {w : World} {K : PySem.W.Frag} {mg : Str → Option Value} {base : Heap}
/-! ### the promises -/
def okT (m : Nat) (s : List Nat) : Prop := s.length ≤ m ∧ s.all sgn = true
def pl (p : Nat × Nat) : D := .tup [.int p.1, .int p.2]
def spanD (s : List Nat) (a b : Nat) (q : List Nat) : D := .tup [.str s, .int a, .int b, .str q]
def put (s : List Nat) (a b : Nat) (q : List Nat) : List Nat := s.take a ++ q ++ s.drop b
def sp_is_sign : Sp := SpR 1 fun ds d => ∃ c, ds = [.str [c]] ∧ d = .bl (sgn c)
def sp_is_text_of_signs : Sp := SpR 2 fun ds d => ∃ s m, ds = [.str s, .int m] ∧ s.length ≤ 40000 ∧ d = .bl (decide ((s.length : Int) ≤ m) && s.all sgn)
def sp_check_sheet : Sp := SpR 1 fun ds d => ∃ s, ds = [.str s] ∧ okT 200 s ∧ d = .non
def sp_is_number : Sp := SpR 1 fun ds d => ∃ i, ds = [.int i] ∧ d = .bl true
def sp_is_two_numbers : Sp := SpR 1 fun ds d => ∃ i j, ds = [.tup [.int i, .int j]] ∧ d = .bl true
def sp_is_place : Sp := SpR 2 fun ds d => ∃ s n, ds = [.str s, pl (pos s n)] ∧ s.length ≤ 40000 ∧ n ≤ s.length ∧ d = .bl true
def sp_number_in : Sp := SpR 2 fun ds d => ∃ s n, ds = [.str s, pl (pos s n)] ∧ s.length ≤ 40000 ∧ n ≤ s.length ∧ d = .int n
def sp_place_in : Sp := SpR 2 fun ds d => ∃ s n, ds = [.str s, .int (n : Nat)] ∧ s.length ≤ 40000 ∧ n ≤ s.length ∧ d = pl (pos s n)
def sp_behind : Sp := SpR 1 fun ds d => ∃ s a b q, ds = [spanD s a b q] ∧ s.length ≤ 40000 ∧ q.length ≤ 10000 ∧ a ≤ s.length ∧ b ≤ s.length ∧ d = .str (put s a b q)
theorem lt1 (a b : Nat) : ([a] < [b]) ↔ a < b := by
  rw [List.cons_lt_cons_iff]
  constructor
  · rintro (h | ⟨_, h⟩)
    · exact h
    · exact absurd h (List.lt_irrefl [])
  · exact .inl
theorem sc_is_sign : FnScope ["sign"] ["sign"] (defScope (topS 14)) := ⟨rfl, rfl, rfl, by decide +kernel, rfl, by decide +kernel, by decide +kernel⟩
theorem ok_is_sign {f : Addr} {fd : FuncData} (F : Fun K "is_sign" "is_sign" (topS 14) f fd) : FnOk P w K mg base CX0 1 f fd ["sign"] sp_is_sign := by
  refine F.ok sc_is_sign (fun vs H Q E h => by exact SpR.len h) (fun cdv A outer s H vs Q E hr h => ?_)
  obtain ⟨ds, d, hl, rs, ⟨c, rfl, rfl⟩, q⟩ := h
  obtain ⟨v, r, rfl, h1, h2⟩ := rps_cons.mp rs
  rw [rps_nil.mp h2, rp_str.mp h1]
  refine ⟨_, (pss_one (ps_ret (pe_or (pe_chain op_le_str op_le_str pe_str (pv 0) pe_str) (pe_one (pe_cmpR op_eq (pv 0) pe_str (nomark _)))))), ?_⟩
  refine sd_ret (d := .bl (sgn c)) (ed_b ?_) q
  have e1 : (!decide ([c] < [32])) = decide (32 ≤ c) := by
    by_cases h : 32 ≤ c
    · rw [decide_eq_true h, decide_eq_false (fun z => by have := (lt1 _ _).mp z; omega)]; rfl
    · rw [decide_eq_false h, decide_eq_true ((lt1 _ _).mpr (by omega))]; rfl
  have e2 : (!decide ([126] < [c])) = decide (c ≤ 126) := by
    by_cases h : c ≤ 126
    · rw [decide_eq_true h, decide_eq_false (fun z => by have := (lt1 _ _).mp z; omega)]; rfl
    · rw [decide_eq_false h, decide_eq_true ((lt1 _ _).mpr (by omega))]; rfl
  have e3 : decide ([c] = [10]) = decide (c = 10) := by simp
  refine ev_is (ev_orV (ev_chain (k := decide (32 ≤ c)) (k' := decide (c ≤ 126)) (ev_c (v := .str (S [32]))) (ev_var rfl) (by rw [← e1]; exact rv_leS) (fun _ => ev_c (v := .str (S [126]))) fun _ => by rw [← e2]; exact rv_leS) fun _ => ev_op (ev_var rfl) (ev_c (v := .str (S [10]))) rv_eqS) ?_
  rw [e3]
  rfl
theorem sc_is_text_of_signs : FnScope ["text", "most", "sign"] ["text", "most"] (defScope (topS 13)) := ⟨rfl, rfl, rfl, by decide +kernel, rfl, by decide +kernel, by decide +kernel⟩
theorem ok_is_text_of_signs {f : Addr} {fd : FuncData} (F : Fun K "is_text_of_signs" "is_text_of_signs" (topS 13) f fd) (m_str : mg "str" = none) (m_isinstance : mg "isinstance" = none) (m_len : mg "len" = none) (m_all : mg "all" = none) (d_is_sign : Df P w K mg base "is_sign" ["sign"] 1 sp_is_sign) : FnOk P w K mg base CX0 2 f fd ["text", "most"] sp_is_text_of_signs := by
  refine F.ok sc_is_text_of_signs (fun vs H Q E h => by exact SpR.len h) (fun cdv A outer s H vs Q E hr h => ?_)
  obtain ⟨ds, d, hl, rs, ⟨l, m, rfl, hz, rfl⟩, q⟩ := h
  obtain ⟨v, r, rfl, h1, h2⟩ := rps_cons.mp rs
  obtain ⟨v2, r2, rfl, h3, h2⟩ := rps_cons.mp h2
  rw [rps_nil.mp h2, rp_str.mp h1, rp_int.mp h3]
  refine ⟨_, (pss_one (ps_ret (pe_and (pe_callB call_isi (by rfl) m_isinstance (by decide +kernel) (pa_cons (pv 0) (pa_cons (pe_bltn (v := .ty "str") (by rfl) m_str (by decide +kernel) rfl) pa_nil))) (pe_and (pe_cmpR op_le (pe_callB call_len_str (by rfl) m_len PySem.boot_len (pa_cons (pv 0) pa_nil)) (pv 1) (nomark _)) (pe_one (pe_callB (cr_all rfl) (by rfl) m_all (by decide +kernel) (pa_cons (pe_lc (own := [("sign", 2)]) (g := gName 2) (tt := tYes) rfl sc_is_text_of_signs.nd (pi_str (pv 0)) (blkOk_by (own := [("sign", 2)]) (N := ["text", "most", "sign"]) (sc := defScope (topS 13)) (by decide +kernel)) (fun _ _ _ _ _ => (pg_name (i := 2) sc_is_text_of_signs.nd rfl (.inl rfl))) (fun _ _ _ _ _ => pts_nil) (fun _ _ _ _ _ => (d_is_sign.pe (hr.mono (by decide)) (pa_cons (pv 2) pa_nil)))) pa_nil))))))), ?_⟩
  refine sd_ret (ed_b ?_) q
  refine ev_is (ev_andV (ed_isi (b := true) (ed_s (ev_var rfl)) k_ss) fun _ => ev_andV (ev_op (ev_lenS (ev_var rfl) (by omega)) (ev_var rfl) rv_I0) fun _ => ed_all (bs := l.map sgn) ?_) ?_
  · have e : (l.map sgn).map D.bl = picked l.length (fun _ => true) (fun i => .bl (sgn (l.getD i 0))) := by
      rw [List.map_map]
      exact (picked_map _ fun i x h => by rw [List.getD_eq_getElem?_getD, h]; rfl).symm
    rw [e]
    refine ed_lc (fun _ => true) _ (ei_str (ev_var rfl)) hz (fun _ => rfl) (fun _ => rfl) (fun i x H1 _ _ _ => fun H2 e2 Q q => q H2 (Ex.refl _)) fun i x H1 hi e1 r1 _ => ?_
    exact ed_call (eda_cons (ed_var rfl r1) eda_nil) ⟨_, rfl, rfl⟩
  · rw [List.all_map]
    rfl
theorem sc_check_sheet : FnScope ["sheet"] ["sheet"] (defScope (topS 12)) := ⟨rfl, rfl, rfl, by decide +kernel, rfl, by decide +kernel, by decide +kernel⟩
theorem ok_check_sheet {f : Addr} {fd : FuncData} (F : Fun K "check_sheet" "check_sheet" (topS 12) f fd) {t_MOST_SIGNS : Tok} (c_MOST_SIGNS : mg "MOST_SIGNS" = some (.int 200 t_MOST_SIGNS)) (d_is_text_of_signs : Df P w K mg base "is_text_of_signs" ["text", "most"] 2 sp_is_text_of_signs) : FnOk P w K mg base CX0 3 f fd ["sheet"] sp_check_sheet := by
  refine F.ok sc_check_sheet (fun vs H Q E h => by exact SpR.len h) (fun cdv A outer s H vs Q E hr h => ?_)
  obtain ⟨ds, d, hl, rs, ⟨l, rfl, ⟨h40, hs⟩, rfl⟩, q⟩ := h
  obtain ⟨v, r, rfl, h1, h2⟩ := rps_cons.mp rs
  rw [rps_nil.mp h2, rp_str.mp h1]
  refine ⟨_, (pss_one (ps_if (pt_not (pt_val (d_is_text_of_signs.pe (hr.mono (by decide)) (pa_cons (pv 0) (pa_cons (pe_glob (v := .int 200) (by rfl) c_MOST_SIGNS ⟨_, rfl⟩) pa_nil)))))
        (pss_one ps_never)
        pss_nil)), ?_⟩
  have e : (decide ((l.length : Int) ≤ 200) && l.all sgn) = true := by rw [decide_eq_true (by omega), hs]; rfl
  exact s_when (et_is (et_not (et_B (EvD.b (ed_call (eda_cons (ed_s (ev_var rfl)) (eda_cons (ed_i ev_c) eda_nil)) ⟨l, 200, rfl, by omega, rfl⟩)))) (show (!_) = false by rw [e]; rfl)) (fun z => by cases z) fun _ H1 e1 => q _ H1 e1 (rp_non.mpr rfl)
theorem sc_is_number : FnScope ["value"] ["value"] (defScope (topS 15)) := ⟨rfl, rfl, rfl, by decide +kernel, rfl, by decide +kernel, by decide +kernel⟩
theorem ok_is_number {f : Addr} {fd : FuncData} (F : Fun K "is_number" "is_number" (topS 15) f fd) (m_int : mg "int" = none) (m_isinstance : mg "isinstance" = none) (m_bool : mg "bool" = none) : FnOk P w K mg base CX0 1 f fd ["value"] sp_is_number := by
  refine F.ok sc_is_number (fun vs H Q E h => by exact SpR.len h) (fun cdv A outer s H vs Q E hr h => ?_)
  obtain ⟨ds, d, hl, rs, ⟨i, rfl, rfl⟩, q⟩ := h
  obtain ⟨v, r, rfl, h1, h2⟩ := rps_cons.mp rs
  rw [rps_nil.mp h2, rp_int.mp h1]
  refine ⟨_, (pss_one (ps_ret (pe_and (pe_callB call_isi (by rfl) m_isinstance (by decide +kernel) (pa_cons (pv 0) (pa_cons (pe_bltn (v := .ty "int") (by rfl) m_int (by decide +kernel) rfl) pa_nil))) (pe_one (pe_not (pe_callB call_isi (by rfl) m_isinstance (by decide +kernel) (pa_cons (pv 0) (pa_cons (pe_bltn (v := .ty "bool") (by rfl) m_bool (by decide +kernel) rfl) pa_nil)))))))), ?_⟩
  exact sd_ret (ed_b (ev_andV (b := true) (ed_isi (b := true) (ed_i (ev_var rfl)) k_ii) fun _ => ev_notV (ed_isi (b := false) (ed_i (ev_var rfl)) k_ib))) q
theorem sc_is_two_numbers : FnScope ["value"] ["value"] (defScope (topS 16)) := ⟨rfl, rfl, rfl, by decide +kernel, rfl, by decide +kernel, by decide +kernel⟩
theorem ok_is_two_numbers {f : Addr} {fd : FuncData} (F : Fun K "is_two_numbers" "is_two_numbers" (topS 16) f fd) (m_tuple : mg "tuple" = none) (m_isinstance : mg "isinstance" = none) (m_len : mg "len" = none) (d_is_number : Df P w K mg base "is_number" ["value"] 1 sp_is_number) : FnOk P w K mg base CX0 2 f fd ["value"] sp_is_two_numbers := by
  refine F.ok sc_is_two_numbers (fun vs H Q E h => by exact SpR.len h) (fun cdv A outer s H vs Q E hr h => ?_)
  obtain ⟨ds, d, hl, rs, ⟨i, j, rfl, rfl⟩, q⟩ := h
  obtain ⟨v, r, rfl, h1, h2⟩ := rps_cons.mp rs
  rw [rps_nil.mp h2]
  refine ⟨_, (pss_one (ps_ret (pe_and (pe_callB call_isi (by rfl) m_isinstance (by decide +kernel) (pa_cons (pv 0) (pa_cons (pe_bltn (v := .ty "tuple") (by rfl) m_tuple (by decide +kernel) rfl) pa_nil))) (pe_and (pe_cmpR op_eq (pe_callB call_len_seq (by rfl) m_len PySem.boot_len (pa_cons (pv 0) pa_nil)) pe_int (nomark _)) (pe_and (d_is_number.pe (hr.mono (by decide)) (pa_cons (pe_ix (r := rIxT K) ix_tup (pv 0) pe_int (fun _ _ => rfl)) pa_nil)) (pe_one (d_is_number.pe (hr.mono (by decide)) (pa_cons (pe_ix (r := rIxT K) ix_tup (pv 0) pe_int (fun _ _ => rfl)) pa_nil)))))))), ?_⟩
  refine sd_ret (ed_b ?_) q
  refine ev_andV (a := true) (b := true) (ed_isi (ed_var rfl h1) k_tt) fun _ => ev_andV (a := true) (b := true) (ev_is (ev_op (ed_lenT (ed_var rfl h1)) ev_c rv_eqI) rfl) fun _ => ev_andV (a := true) (b := true) (EvD.b (ed_call (eda_cons (d := .int i) (ed_ixT (ed_var rfl h1) ev_c rfl) eda_nil) ⟨i, rfl, rfl⟩)) fun _ =>
    EvD.b (ed_call (eda_cons (d := .int j) (ed_ixT (ed_var rfl h1) ev_c rfl) eda_nil) ⟨j, rfl, rfl⟩)
theorem sc_is_place : FnScope ["sheet", "value", "row", "column", "rows"] ["sheet", "value"] (defScope (topS 17)) := ⟨rfl, rfl, rfl, by decide +kernel, rfl, by decide +kernel, by decide +kernel⟩
theorem ok_is_place {f : Addr} {fd : FuncData} (F : Fun K "is_place" "is_place" (topS 17) f fd) (m_len : mg "len" = none) (d_is_two_numbers : Df P w K mg base "is_two_numbers" ["value"] 2 sp_is_two_numbers) : FnOk P w K mg base CX0 3 f fd ["sheet", "value"] sp_is_place := by
  refine F.ok sc_is_place (fun vs H Q E h => by exact SpR.len h) (fun cdv A outer s H vs Q E hr h => ?_)
  obtain ⟨ds, d, hl, rs, ⟨l, n, rfl, hz, hn, rfl⟩, q⟩ := h
  obtain ⟨v, r, rfl, h1, h2⟩ := rps_cons.mp rs
  obtain ⟨v2, r2, rfl, h3, h2⟩ := rps_cons.mp h2
  rw [rps_nil.mp h2, rp_str.mp h1]
  refine ⟨_, (pss_cons (ps_if (pt_not (pt_val (d_is_two_numbers.pe (hr.mono (by decide)) (pa_cons (pv 1) pa_nil))))
        (pss_one (ps_ret pe_bl))
        pss_nil)
      (pss_cons (ps_asg (pv 1) (pg_tup rfl (pgs_cons (pg_name (i := 2) sc_is_place.nd rfl (.inl rfl)) (pgs_cons (pg_name (i := 3) sc_is_place.nd rfl (.inl rfl)) pgs_nil))))
      (pss_cons (ps_set (i := 4) sc_is_place.nd rfl (.inl rfl) (pe_split (pv 0) pe_str))
      (pss_one (ps_ret (pe_and (pe_chain op_le op_lt pe_int (pv 2) (pe_callB call_len_seq (by rfl) m_len PySem.boot_len (pa_cons (pv 4) pa_nil))) (pe_one (pe_chain op_le op_le pe_int (pv 3) (pe_callB call_len_str (by rfl) m_len PySem.boot_len (pa_cons (pe_ix (r := rIxL K) ix_list (pv 4) (pv 2) (fun _ _ => rfl)) pa_nil)))))))))), ?_⟩
  obtain ⟨row, g1, g2, g3⟩ := rws_pos hn
  refine q_when (et_is (et_not (et_B (EvD.b (ed_call (eda_cons (ed_var rfl h3) eda_nil) ⟨_, _, rfl, rfl⟩)))) (show (!true) = false from rfl)) (fun z => by cases z) fun _ H1 e1 => ?_
  refine qd_un2 (ed_var rfl (h3.ex e1)) fun w1 w2 H2 e2 r1 r2 => ?_
  rw [rp_int.mp r1, rp_int.mp r2]
  refine qd_asg (ed_split (ev_var rfl) (by omega)) fun w3 H3 e3 r3 => ?_
  have hlt : (pos l n).1 < (rws l).length := by
    rcases Nat.lt_or_ge (pos l n).1 (rws l).length with h | h
    · exact h
    · rw [List.getElem?_eq_none h] at g1; cases g1
  refine sd_ret (ed_b (ev_andV (a := true) (b := true) ?_ fun _ => ?_)) fun v H4 e4 r4 => q v H4 (((e1.trans e2).trans e3).trans e4) r4
  · exact ev_is (ev_chain (k := true) (k' := true) ev_c (ev_var rfl) (by have := rv_I0 (H := H3) (g := fun i j => V.bl (decide (i ≤ j))) (i := 0) (j := ((pos l n).1 : Int)); rw [decide_eq_true (by omega)] at this; exact this) (fun _ => ed_lenL (ed_var rfl r3)) fun _ => by
      have := rv_I0 (H := H3) (g := fun i j => V.bl (decide (i < j))) (i := ((pos l n).1 : Int)) (j := (((rws l).map D.str).length : Int))
      rw [decide_eq_true (by rw [List.length_map]; omega)] at this
      exact this) rfl
  · exact ev_is (ev_chain (k := true) (k' := true) ev_c (ev_var rfl) (by have := rv_I0 (H := H3) (g := fun i j => V.bl (decide (i ≤ j))) (i := 0) (j := ((pos l n).2 : Int)); rw [decide_eq_true (by omega)] at this; exact this)
      (fun _ => ev_lenS (EvD.s (ed_ixL (ed_var rfl r3) (ev_var rfl) (atI_nat (by rw [List.getElem?_map, g1]; rfl)))) (by have := rws_len (List.mem_of_getElem? g1); omega)) fun _ => by
      have := rv_I0 (H := H3) (g := fun i j => V.bl (decide (i ≤ j))) (i := ((pos l n).2 : Int)) (j := (row.length : Int))
      rw [decide_eq_true (by omega)] at this
      exact this) rfl
theorem sc_number_in : FnScope ["sheet", "place", "row", "column", "above"] ["sheet", "place"] (defScope (topS 18)) := ⟨rfl, rfl, rfl, by decide +kernel, rfl, by decide +kernel, by decide +kernel⟩
theorem ok_number_in {f : Addr} {fd : FuncData} (F : Fun K "number_in" "number_in" (topS 18) f fd) (m_len : mg "len" = none) (m_sum : mg "sum" = none) (d_is_place : Df P w K mg base "is_place" ["sheet", "value"] 3 sp_is_place) : FnOk P w K mg base CX0 4 f fd ["sheet", "place"] sp_number_in := by
  refine F.ok sc_number_in (fun vs H Q E h => by exact SpR.len h) (fun cdv A outer s H vs Q E hr h => ?_)
  obtain ⟨ds, d, hl, rs, ⟨l, n, rfl, hz, hn, rfl⟩, q⟩ := h
  obtain ⟨v, r, rfl, h1, h2⟩ := rps_cons.mp rs
  obtain ⟨v2, r2, rfl, h3, h2⟩ := rps_cons.mp h2
  rw [rps_nil.mp h2, rp_str.mp h1]
  refine ⟨_, (pss_cons (ps_if (pt_not (pt_val (d_is_place.pe (hr.mono (by decide)) (pa_cons (pv 0) (pa_cons (pv 1) pa_nil)))))
        (pss_one ps_never)
        pss_nil)
      (pss_cons (ps_asg (pv 1) (pg_tup rfl (pgs_cons (pg_name (i := 2) sc_number_in.nd rfl (.inl rfl)) (pgs_cons (pg_name (i := 3) sc_number_in.nd rfl (.inl rfl)) pgs_nil))))
      (pss_one (ps_ret (pe_op op_add (pe_callB (cr_sum rfl) (by rfl) m_sum (by decide +kernel) (pa_cons (pe_lc (own := [("above", 4)]) (g := gName 4) (tt := tYes) rfl sc_number_in.nd (pi_list (pe_slice sl_list (pe_split (pv 0) pe_str) po_none (po_some (pv 2)))) (blkOk_by (own := [("above", 4)]) (N := ["sheet", "place", "row", "column", "above"]) (sc := defScope (topS 18)) (by decide +kernel)) (fun _ _ _ _ _ => (pg_name (i := 4) sc_number_in.nd rfl (.inl rfl))) (fun _ _ _ _ _ => pts_nil) (fun _ _ _ _ _ => (pe_op op_add (pe_callB call_len_str (by rfl) m_len PySem.boot_len (pa_cons (pv 4) pa_nil)) pe_int))) pa_nil)) (pv 3)))))), ?_⟩
  obtain ⟨row, g1, g2, g3⟩ := rws_pos hn
  refine q_when (et_no (et_B (EvD.b (ed_call (eda_cons (ed_s (ev_var rfl)) (eda_cons (ed_var rfl h3) eda_nil)) ⟨l, n, rfl, hz, hn, rfl⟩)))) (fun z => by cases z) fun _ H1 e1 => ?_
  refine qd_un2 (ed_var rfl (h3.ex e1)) fun w1 w2 H2 e2 r1 r2 => ?_
  rw [rp_int.mp r1, rp_int.mp r2]
  refine sd_ret (ed_i (ev_is (ev_op (ed_sum (ns := ((rws l).take (pos l n).1).map fun r => (r.length : Int) + 1) ?_) (ev_var rfl) rv_I0) ?_)) fun v H4 e4 r4 => q v H4 ((e1.trans e2).trans e4) r4
  · have e : (((rws l).take (pos l n).1).map fun r => (r.length : Int) + 1).map D.int = picked (((rws l).map D.str).take (pos l n).1).length (fun _ => true) (fun i => .int (((((rws l).take (pos l n).1).getD i []).length : Int) + 1)) := by
      rw [List.map_map, ← List.map_take, List.length_map]
      exact (picked_map _ fun i x h => by rw [List.getD_eq_getElem?_getD, h]; rfl).symm
    rw [e]
    refine ed_lc (fun _ => true) _ (ei_list (ed_toL (ed_split (ev_var rfl) (by omega)) (ev_var rfl))) ?_ (fun _ => rfl) (fun _ => rfl) (fun i x H1 _ _ _ => fun H2 e2 Q q => q H2 (Ex.refl _)) fun i x H1 hi e1 r1 _ => ?_
    · have := rwsA_many l []
      have : (rws l).length ≤ l.length + 1 := this
      have hlt : (pos l n).1 < (rws l).length := by
        rcases Nat.lt_or_ge (pos l n).1 (rws l).length with h | h
        · exact h
        · rw [List.getElem?_eq_none h] at g1; cases g1
      rw [List.length_take, List.length_map]
      omega
    · rw [← List.map_take, List.length_map] at hi
      have hg : ((rws l).take (pos l n).1)[i]? = some ((rws l).take (pos l n).1)[i] := List.getElem?_eq_getElem hi
      rw [← List.map_take, List.getD_eq_getElem?_getD, List.getElem?_map, hg] at r1
      have hm : ((rws l).take (pos l n).1)[i] ∈ rws l := List.mem_of_mem_take (List.getElem_mem hi)
      have hml := rws_len hm
      rw [List.getD_eq_getElem?_getD, hg]
      exact ed_i (ev_op (ev_lenS (ev_is (ev_var rfl) (rp_str.mp r1)) (by omega)) ev_c rv_I0)
  · show V.int (_ + _) = _
    rw [before_int]
    unfold before at g3
    congr 1
    omega
theorem sc_place_in : FnScope ["sheet", "number", "ahead"] ["sheet", "number"] (defScope (topS 19)) := ⟨rfl, rfl, rfl, by decide +kernel, rfl, by decide +kernel, by decide +kernel⟩
theorem ok_place_in {f : Addr} {fd : FuncData} (F : Fun K "place_in" "place_in" (topS 19) f fd) (m_len : mg "len" = none) (d_is_number : Df P w K mg base "is_number" ["value"] 1 sp_is_number) : FnOk P w K mg base CX0 2 f fd ["sheet", "number"] sp_place_in := by
  refine F.ok sc_place_in (fun vs H Q E h => by exact SpR.len h) (fun cdv A outer s H vs Q E hr h => ?_)
  obtain ⟨ds, d, hl, rs, ⟨l, n, rfl, hz, hn, rfl⟩, q⟩ := h
  obtain ⟨v, r, rfl, h1, h2⟩ := rps_cons.mp rs
  obtain ⟨v2, r2, rfl, h3, h2⟩ := rps_cons.mp h2
  rw [rps_nil.mp h2, rp_str.mp h1, rp_int.mp h3]
  refine ⟨_, (pss_cons (ps_if (PW.pt (pw_or (pt_not (pt_val (d_is_number.pe (hr.mono (by decide)) (pa_cons (pv 1) pa_nil)))) (pw_or1 (pt_not (pt_chain op_le op_le pe_int (pv 1) (pe_callB call_len_str (by rfl) m_len PySem.boot_len (pa_cons (pv 0) pa_nil)))))))
        (pss_one ps_never)
        pss_nil)
      (pss_cons (ps_set (i := 2) sc_place_in.nd rfl (.inl rfl) (pe_slice sl_str (pv 0) po_none (po_some (pv 1))))
      (pss_one (ps_ret (pe_tup (pa_cons (pe_m1 PySem.F.slot_str_count PySem.F.type_str_count mt_count (pv 2) pe_str) (pa_cons (pe_op op_sub (pv 1) (pe_op op_add (pe_m1 PySem.F.slot_str_rfind PySem.F.type_str_rfind mt_rfind (pv 2) pe_str) pe_int)) pa_nil))))))), ?_⟩
  refine q_when (et_or0 (et_no (et_B (EvD.b (ed_call (eda_cons (ed_i (ev_var rfl)) eda_nil) ⟨_, rfl, rfl⟩)))) (et_no (et_is (et_chain (k := true) (k' := true) ev_c (ev_var rfl) (rv_le (by omega)) (fun _ => ev_lenS (ev_var rfl) (by omega)) fun _ => rv_le (by omega)) rfl))) (fun z => by cases z) fun _ H1 e1 => ?_
  refine q_asg (ev_to (ev_var rfl) (ev_var rfl) (by omega)) fun H2 e2 => ?_
  refine sd_ret (d := pl (pos l n)) (ed_tup (eda_cons (ed_i (ev_is (ev_count (ev_var rfl)) ?_)) (eda_cons (ed_i (ev_is (ev_op (ev_var rfl) (ev_op (ev_rfind (ev_var rfl)) ev_c rv_I0) rv_I0) ?_)) eda_nil))) fun v H3 e3 r3 => q v H3 ((e1.trans e2).trans e3) r3
  · unfold pos posF
    rw [fold_cnt]
    simp
  · show V.int ((n : Int) - (((l.take n).length : Int) - ((posF (l.take n)).2 : Int) - 1 + 1)) = V.int ((posF (l.take n)).2 : Int)
    rw [List.length_take, Nat.min_eq_left hn]
    congr 1
    omega
theorem sc_behind : FnScope ["span", "sheet", "first", "last", "put"] ["span"] (defScope (topS 22)) := ⟨rfl, rfl, rfl, by decide +kernel, rfl, by decide +kernel, by decide +kernel⟩
theorem ok_behind {f : Addr} {fd : FuncData} (F : Fun K "behind" "behind" (topS 22) f fd) : FnOk P w K mg base CX0 1 f fd ["span"] sp_behind := by
  refine F.ok sc_behind (fun vs H Q E h => by exact SpR.len h) (fun cdv A outer s H vs Q E hr h => ?_)
  obtain ⟨ds, d, hl, rs, ⟨l, a, b, p, rfl, hz, hp, ha, hb, rfl⟩, q⟩ := h
  obtain ⟨v, r, rfl, h1, h2⟩ := rps_cons.mp rs
  rw [rps_nil.mp h2]
  refine ⟨_, (pss_cons (ps_asg (pv 0) (pg_tup rfl (pgs_cons (pg_name (i := 1) sc_behind.nd rfl (.inl rfl)) (pgs_cons (pg_name (i := 2) sc_behind.nd rfl (.inl rfl)) (pgs_cons (pg_name (i := 3) sc_behind.nd rfl (.inl rfl)) (pgs_cons (pg_name (i := 4) sc_behind.nd rfl (.inl rfl)) pgs_nil))))))
      (pss_one (ps_ret (pe_op op_add_str (pe_op op_add_str (pe_slice sl_str (pv 1) po_none (po_some (pv 2))) (pv 4)) (pe_slice sl_str (pv 1) (po_some (pv 3)) po_none))))), ?_⟩
  refine qd_un4 (ed_var rfl h1) fun w1 w2 w3 w4 H1 e1 r1 r2 r3 r4 => ?_
  rw [rp_str.mp r1, rp_int.mp r2, rp_int.mp r3, rp_str.mp r4]
  refine sd_ret (ed_s (ev_op (ev_op (ev_to (ev_var rfl) (ev_var rfl) (by omega)) (ev_var rfl) (rv_addS ?_)) (ev_from (ev_var rfl) (ev_var rfl) (by omega)) (rv_addS ?_))) fun v H3 e3 r3 => q v H3 (e1.trans e3) r3
  · rw [List.length_take]; omega
  · rw [List.length_append, List.length_take, List.length_drop]; omega
/-! ### edits -/
structure Ed where
  a : Nat
  b : Nat
  q : List Nat
abbrev Ed.on (e : Ed) (s : List Nat) : List Nat := put s e.a e.b e.q
def edD (s : List Nat) (e : Ed) : D := .tup [pl (pos s e.a), pl (pos s e.b), .str e.q]
def Ed.can (e : Ed) (s : List Nat) : Prop := e.a ≤ e.b ∧ e.b ≤ s.length ∧ okT 40 e.q ∧ (e.on s).length ≤ 200
theorem put_len {s q : List Nat} {a b : Nat} (h1 : a ≤ b) (h2 : b ≤ s.length) : (put s a b q).length = s.length - (b - a) + q.length := by
  unfold put
  rw [List.length_append, List.length_append, List.length_take, List.length_drop]
  omega
def sp_can_be_done : Sp := SpR 2 fun ds d => ∃ s e, ds = [.str s, edD s e] ∧ okT 200 s ∧ e.can s ∧ d = .bl true
theorem sc_can_be_done : FnScope ["sheet", "edit", "begin", "end", "put", "taken"] ["sheet", "edit"] (defScope (topS 21)) := ⟨rfl, rfl, rfl, by decide +kernel, rfl, by decide +kernel, by decide +kernel⟩
theorem ok_can_be_done {f : Addr} {fd : FuncData} (F : Fun K "can_be_done" "can_be_done" (topS 21) f fd) (m_tuple : mg "tuple" = none) (m_isinstance : mg "isinstance" = none) (m_len : mg "len" = none) {t_MOST_PUT : Tok} (c_MOST_PUT : mg "MOST_PUT" = some (.int 40 t_MOST_PUT)) {t_MOST_SIGNS : Tok} (c_MOST_SIGNS : mg "MOST_SIGNS" = some (.int 200 t_MOST_SIGNS)) (d_is_place : Df P w K mg base "is_place" ["sheet", "value"] 3 sp_is_place) (d_is_text_of_signs : Df P w K mg base "is_text_of_signs" ["text", "most"] 2 sp_is_text_of_signs) (d_number_in : Df P w K mg base "number_in" ["sheet", "place"] 4 sp_number_in) : FnOk P w K mg base CX0 5 f fd ["sheet", "edit"] sp_can_be_done := by
  refine F.ok sc_can_be_done (fun vs H Q E h => by exact SpR.len h) (fun cdv A outer s H vs Q E hr h => ?_)
  obtain ⟨ds, d, hl, rs, ⟨l, e, rfl, hs, hc, rfl⟩, q⟩ := h
  obtain ⟨v, r, rfl, h1, h2⟩ := rps_cons.mp rs
  obtain ⟨v2, r2, rfl, h3, h2⟩ := rps_cons.mp h2
  rw [rps_nil.mp h2, rp_str.mp h1]
  obtain ⟨c1, c2, ⟨c3, c4⟩, c5⟩ := hc
  have hs1 := hs.1
  have hpl := put_len (q := e.q) c1 c2
  have c5 : (put l e.a e.b e.q).length ≤ 200 := c5
  refine ⟨_, (pss_cons (ps_if (PW.pt (pw_or (pt_not (pt_val (pe_callB call_isi (by rfl) m_isinstance (by decide +kernel) (pa_cons (pv 1) (pa_cons (pe_bltn (v := .ty "tuple") (by rfl) m_tuple (by decide +kernel) rfl) pa_nil))))) (pw_or1 (pt_cmpR op_ne (pe_callB call_len_seq (by rfl) m_len PySem.boot_len (pa_cons (pv 1) pa_nil)) pe_int (nomark _)))))
        (pss_one (ps_ret pe_bl))
        pss_nil)
      (pss_cons (ps_asg (pv 1) (pg_tup rfl (pgs_cons (pg_name (i := 2) sc_can_be_done.nd rfl (.inl rfl)) (pgs_cons (pg_name (i := 3) sc_can_be_done.nd rfl (.inl rfl)) (pgs_cons (pg_name (i := 4) sc_can_be_done.nd rfl (.inl rfl)) pgs_nil)))))
      (pss_cons (ps_if (PW.pt (pw_or (pt_not (pt_val (d_is_place.pe (hr.mono (by decide)) (pa_cons (pv 0) (pa_cons (pv 2) pa_nil))))) (pw_or (pt_not (pt_val (d_is_place.pe (hr.mono (by decide)) (pa_cons (pv 0) (pa_cons (pv 3) pa_nil))))) (pw_or1 (pt_not (pt_val (d_is_text_of_signs.pe (hr.mono (by decide)) (pa_cons (pv 4) (pa_cons (pe_glob (v := .int 40) (by rfl) c_MOST_PUT ⟨_, rfl⟩) pa_nil)))))))))
        (pss_one (ps_ret pe_bl))
        pss_nil)
      (pss_cons (ps_set (i := 5) sc_can_be_done.nd rfl (.inl rfl) (pe_op op_sub (d_number_in.pe (hr.mono (by decide)) (pa_cons (pv 0) (pa_cons (pv 3) pa_nil))) (d_number_in.pe (hr.mono (by decide)) (pa_cons (pv 0) (pa_cons (pv 2) pa_nil)))))
      (pss_one (ps_ret (pe_and (pe_cmpR op_ge (pv 5) pe_int (nomark _)) (pe_one (pe_cmpR op_le (pe_op op_add (pe_op op_sub (pe_callB call_len_str (by rfl) m_len PySem.boot_len (pa_cons (pv 0) pa_nil)) (pv 5)) (pe_callB call_len_str (by rfl) m_len PySem.boot_len (pa_cons (pv 4) pa_nil))) (pe_glob (v := .int 200) (by rfl) c_MOST_SIGNS ⟨_, rfl⟩) (nomark _)))))))))), ?_⟩
  refine q_when (et_or0 (et_no (et_B (ed_isi (ed_var rfl h3) k_tt))) (et_is (et_test (ev_op (ed_lenT (ed_var rfl h3)) ev_c rv_neI)) rfl)) (fun z => by cases z) fun _ H1 e1 => ?_
  refine qd_un3 (ed_var rfl (h3.ex e1)) fun w1 w2 w3 H2 e2 r1 r2 r3 => ?_
  rw [rp_str.mp r3]
  have n1 : ∀ {H'}, Ex H2 H' → EvD (tCall sp_number_in [] E0 (tCons (tVar 0) (tCons (tVar 2) tNil))) [some (.str (S l)), some v2, some w1, some w2, some (.str (S e.q)), none] H' (.int e.a) := fun e3 => ed_call (eda_cons (ed_s (ev_var rfl)) (eda_cons (ed_var rfl (r1.ex e3)) eda_nil)) ⟨l, e.a, rfl, by omega, by omega, rfl⟩
  have n2 : ∀ {H'}, Ex H2 H' → EvD (tCall sp_number_in [] E0 (tCons (tVar 0) (tCons (tVar 3) tNil))) [some (.str (S l)), some v2, some w1, some w2, some (.str (S e.q)), none] H' (.int e.b) := fun e3 => ed_call (eda_cons (ed_s (ev_var rfl)) (eda_cons (ed_var rfl (r2.ex e3)) eda_nil)) ⟨l, e.b, rfl, by omega, by omega, rfl⟩
  have ht : (decide ((e.q.length : Int) ≤ 40) && e.q.all sgn) = true := by rw [decide_eq_true (by omega), c4]; rfl
  refine q_when (et_or0 (et_no (et_B (EvD.b (ed_call (eda_cons (ed_s (ev_var rfl)) (eda_cons (ed_var rfl r1) eda_nil)) ⟨l, e.a, rfl, by omega, by omega, rfl⟩))))
    (et_or0 (et_no (et_B (EvD.b (ed_call (eda_cons (ed_s (ev_var rfl)) (eda_cons (ed_var rfl r2) eda_nil)) ⟨l, e.b, rfl, by omega, by omega, rfl⟩))))
      (et_no (et_B (EvD.b (ed_call (eda_cons (ed_s (ev_var rfl)) (eda_cons (ed_i ev_c) eda_nil)) ⟨e.q, 40, rfl, by omega, by rw [ht]⟩)))))) (fun z => by cases z) fun _ H3 e3 => ?_
  refine q_asg (ev_op (EvD.i (n2 e3)) (EvD.i (n1 e3)) rv_I0) fun H4 e4 => ?_
  refine sd_ret (ed_b (ev_is (ev_andV (ev_op (ev_var rfl) ev_c rv_I0) fun _ => ev_op (ev_op (ev_op (ev_lenS (ev_var rfl) (by omega)) (ev_var rfl) rv_I0) (ev_lenS (ev_var rfl) (by omega)) rv_I0) ev_c rv_I0) ?_)) fun v H5 e5 r5 => q v H5 ((((e1.trans e2).trans e3).trans e4).trans e5) r5
  rw [decide_eq_true (by omega), decide_eq_true (by omega)]
  rfl
def st : List Nat → List Ed → List (List Nat × Ed)
  | _, [] => []
  | s, e :: es => (s, e) :: st (e.on s) es
def fin : List Nat → List Ed → List Nat
  | s, [] => s
  | s, e :: es => fin (e.on s) es
def Ch : List Nat → List Ed → Prop
  | _, [] => True
  | s, e :: es => e.can s ∧ Ch (e.on s) es
theorem st_len : ∀ (s : List Nat) (es : List Ed), (st s es).length = es.length
  | _, [] => rfl
  | s, e :: es => by rw [st, List.length_cons, List.length_cons, st_len]
theorem st_get : ∀ (s : List Nat) (es : List Ed) (i : Nat) (e : Ed), es[i]? = some e → (st s es)[i]? = some (fin s (es.take i), e)
  | _, [], _, _, h => by simp at h
  | s, e :: es, 0, e', h => by cases h; rfl
  | s, e :: es, i + 1, e', h => by
    rw [st, List.getElem?_cons_succ, List.take_succ_cons, fin]
    exact st_get _ es i e' h
theorem fin_succ : ∀ (s : List Nat) (es : List Ed) (i : Nat) (e : Ed), es[i]? = some e → fin s (es.take (i + 1)) = e.on (fin s (es.take i))
  | _, [], _, _, h => by simp at h
  | s, e :: es, 0, e', h => by cases h; rfl
  | s, e :: es, i + 1, e', h => by
    rw [List.take_succ_cons, fin, List.take_succ_cons, fin]
    exact fin_succ _ es i e' h
theorem Ch.get : ∀ {s : List Nat} {es : List Ed} {i : Nat} {e : Ed}, Ch s es → es[i]? = some e → e.can (fin s (es.take i))
  | _, [], _, _, _, h => by simp at h
  | s, e :: es, 0, e', c, h => by cases h; exact c.1
  | s, e :: es, i + 1, e', c, h => by
    rw [List.take_succ_cons, fin]
    exact Ch.get (i := i) c.2 h
theorem put_ok {s q : List Nat} {a b : Nat} (h1 : s.all sgn = true) (h2 : q.all sgn = true) : (put s a b q).all sgn = true := by
  unfold put
  rw [List.all_append, List.all_append, Bool.and_eq_true, Bool.and_eq_true]
  rw [List.all_eq_true] at h1
  exact ⟨⟨List.all_eq_true.mpr fun x hx => h1 x (List.mem_of_mem_take hx), h2⟩, List.all_eq_true.mpr fun x hx => h1 x (List.mem_of_mem_drop hx)⟩
theorem on_ok {s : List Nat} {e : Ed} (h : okT 200 s) (c : e.can s) : okT 200 (e.on s) := ⟨c.2.2.2, put_ok h.2 c.2.2.1.2⟩
theorem fin_ok : ∀ {s : List Nat} {es : List Ed} (i : Nat), okT 200 s → Ch s es → okT 200 (fin s (es.take i))
  | s, _, 0, h, _ => h
  | s, [], i + 1, h, _ => h
  | s, e :: es, i + 1, h, c => by
    rw [List.take_succ_cons, fin]
    exact fin_ok i (on_ok h c.1) c.2
def spn (x : List Nat × Ed) : D := spanD x.1 x.2.a x.2.b x.2.q
def edx (x : List Nat × Ed) : D := edD x.1 x.2
theorem nl_spn (x : List Nat × Ed) : nl (spn x) = true := rfl
theorem nl_edx (x : List Nat × Ed) : nl (edx x) = true := rfl
def sp_spans_of : Sp := SpR 2 fun ds d => ∃ s es, ds = [.str s, .lst ((st s es).map edx)] ∧ okT 200 s ∧ Ch s es ∧ es.length ≤ 8 ∧ d = .lst ((st s es).map spn)
theorem sc_spans_of : FnScope ["sheet", "edits", "spans", "number", "edit", "begin", "end", "put", "span"] ["sheet", "edits"] (defScope (topS 20)) := ⟨rfl, rfl, rfl, by decide +kernel, rfl, by decide +kernel, by decide +kernel⟩
theorem ok_spans_of {f : Addr} {fd : FuncData} (F : Fun K "spans_of" "spans_of" (topS 20) f fd) (m_enumerate : mg "enumerate" = none) {t_MOST_EDITS : Tok} (c_MOST_EDITS : mg "MOST_EDITS" = some (.int 8 t_MOST_EDITS)) (d_check_sheet : Df P w K mg base "check_sheet" ["sheet"] 3 sp_check_sheet) (d_can_be_done : Df P w K mg base "can_be_done" ["sheet", "edit"] 5 sp_can_be_done) (d_number_in : Df P w K mg base "number_in" ["sheet", "place"] 4 sp_number_in) (d_behind : Df P w K mg base "behind" ["span"] 1 sp_behind) : FnOk P w K mg base CX0 6 f fd ["sheet", "edits"] sp_spans_of := by
  refine F.ok sc_spans_of (fun vs H Q E h => by exact SpR.len h) (fun cdv A outer s H vs Q E hr h => ?_)
  obtain ⟨ds, d, hl, rs, ⟨l, es, rfl, hs, hc, h8, rfl⟩, q⟩ := h
  obtain ⟨v, r, rfl, h1, h2⟩ := rps_cons.mp rs
  obtain ⟨v2, r2, rfl, h3, h4⟩ := rps_cons.mp h2
  obtain ⟨ea, evs, rfl, he, hes⟩ := rp_lst.mp h3
  obtain rfl := rps_nil.mp h4
  obtain rfl := rp_str.mp h1
  have hel : evs.length = es.length := by rw [rps_len hes, List.length_map, st_len]
  refine ⟨_, (pss_cons (ps_expr (d_check_sheet.pe (hr.mono (by decide)) (pa_cons (pv 0) pa_nil)))
      (pss_cons (ps_set (i := 2) sc_spans_of.nd rfl (.inl rfl) (pe_lst pa_nil))
      (pss_cons (ps_for PassesOwn.never rfl (pi_enum (by rfl) m_enumerate (pa_cons (pv 1) pa_nil)) (pg_tup rfl (pgs_cons (pg_name (i := 3) sc_spans_of.nd rfl (.inl rfl)) (pgs_cons (pg_name (i := 4) sc_spans_of.nd rfl (.inl rfl)) pgs_nil)))
        (pss_cons (ps_if (PW.pt (pw_or (pt_cmpR op_eq (pv 3) (pe_glob (v := .int 8) (by rfl) c_MOST_EDITS ⟨_, rfl⟩) (nomark _)) (pw_or1 (pt_not (pt_val (d_can_be_done.pe (hr.mono (by decide)) (pa_cons (pv 0) (pa_cons (pv 4) pa_nil))))))))
        (pss_one ps_never)
        pss_nil)
      (pss_cons (ps_asg (pv 4) (pg_tup rfl (pgs_cons (pg_name (i := 5) sc_spans_of.nd rfl (.inl rfl)) (pgs_cons (pg_name (i := 6) sc_spans_of.nd rfl (.inl rfl)) (pgs_cons (pg_name (i := 7) sc_spans_of.nd rfl (.inl rfl)) pgs_nil)))))
      (pss_cons (ps_set (i := 8) sc_spans_of.nd rfl (.inl rfl) (pe_tup (pa_cons (pv 0) (pa_cons (d_number_in.pe (hr.mono (by decide)) (pa_cons (pv 0) (pa_cons (pv 5) pa_nil))) (pa_cons (d_number_in.pe (hr.mono (by decide)) (pa_cons (pv 0) (pa_cons (pv 6) pa_nil))) (pa_cons (pv 7) pa_nil))))))
      (pss_cons (ps_expr (pe_bm PySem.F.plainAttrs_list PySem.F.slot_list_append PySem.F.type_list_append mt_append (pv 2) (pa_cons (pv 8) pa_nil)))
      (pss_one (ps_set (i := 0) sc_spans_of.nd rfl (.inl rfl) (d_behind.pe (hr.mono (by decide)) (pa_cons (pv 8) pa_nil)))))))))
      (pss_one (ps_ret (pv 2)))))), ?_⟩
  refine qd_drop (ed_call (eda_cons (ed_s (ev_var rfl)) eda_nil) ⟨l, rfl, hs, rfl⟩) fun H1 e1 => ?_
  refine q_asgL (el_lst ea_nil (by simp)) fun sp H2 hsp e2 hsp2 => ?_
  have e12 : Ex H H2 := e1.trans e2
  have hspn : H sp = none := fresh_back e1 hsp
  refine q_forE (xs := evs) (ev_var rfl) (sq_of (e12 _ _ he)) (fun i σ' H' => ∃ ws y3 y4 y5 y6 y7 y8, σ' = [some (.str (S (fin l (es.take i)))), some (.ref ea), some (.ref sp), y3, y4, y5, y6, y7, y8] ∧ Ex H H' ∧ H' sp = some (.lst ws) ∧ Rps H' (((st l es).take i).map spn) ws)
    (fun H3 e3 => ⟨[], none, none, none, none, none, none, rfl, e12.trans e3, e3 _ _ hsp2, rps_nil.mpr rfl⟩) (fun i σ' H' _ ⟨ws, y3, y4, y5, y6, y7, y8, _, p, _⟩ => sq_of (p _ _ he)) ?_ ?_
  · rintro i x σ' H' T hx ⟨ws, y3, y4, y5, y6, y7, y8, rfl, p1, p2, p3⟩ hT
    have hi : i < es.length := by
      rw [← hel]
      exact (List.getElem?_eq_some_iff.mp hx).1
    have hei : es[i]? = some es[i] := List.getElem?_eq_getElem hi
    have hst := st_get l es i _ hei
    have hcan := hc.get hei
    have hok := fin_ok i hs hc
    obtain ⟨x', hx', rx⟩ := rps_get (i := i) (d := edx (fin l (es.take i), es[i])) hes (by rw [List.getElem?_map, hst]; rfl)
    rw [hx] at hx'
    cases hx'
    have eT : Ex H' (upd H' T (.tup [.int (i : Nat), x])) := Ex.new hT
    have rx : Rp (upd H' T (.tup [.int (i : Nat), x])) (edD (fin l (es.take i)) es[i]) x := (rx.ex p1).ex eT
    have hlen := hok.1
    have c1 := hcan.1
    have c2 := hcan.2.1
    have c3 := hcan.2.2.1.1
    have nlp : nl (spn (fin l (es.take i), es[i])) = true := rfl
    refine q_when (et_or0 (et_is (et_test (ev_op (ev_var rfl) ev_c rv_eqI)) (decide_eq_false (by omega))) (et_no (et_B (EvD.b (ed_call (eda_cons (ed_s (ev_var rfl)) (eda_cons (ed_var rfl rx) eda_nil)) ⟨_, es[i], rfl, hok, hcan, rfl⟩))))) (fun z => by cases z) fun _ H3 e3 => ?_
    refine qd_un3 (ed_var rfl (rx.ex e3)) fun w1 w2 w3 H4 e4 r1 r2 r3 => ?_
    rw [rp_str.mp r3]
    refine qd_asg (d := spn (fin l (es.take i), es[i])) (ed_tup (eda_cons (ed_s (ev_var rfl)) (eda_cons (ed_call (eda_cons (ed_s (ev_var rfl)) (eda_cons (ed_var rfl r1) eda_nil)) ⟨_, es[i].a, rfl, by omega, by omega, rfl⟩) (eda_cons (ed_call (eda_cons (ed_s (ev_var rfl)) (eda_cons (ed_var rfl r2) eda_nil)) ⟨_, es[i].b, rfl, by omega, by omega, rfl⟩) (eda_cons (ed_s (ev_var rfl)) eda_nil))))) fun w4 H5 e5 r5 => ?_
    have e35 : Ex (upd H' T (.tup [.int (i : Nat), x])) H5 := (e3.trans e4).trans e5
    have p2' : H5 sp = some (.lst ws) := e35 _ _ (eT _ _ p2)
    refine qd_app p2' (ev_var rfl) (ed_var rfl r5) ?_ fun w5 H6 e6 r6 => ?_
    · have := rps_len p3
      rw [List.length_map, List.length_take] at this
      omega
    have p2'' : H6 sp = some (.lst ws) := e6 _ _ p2'
    have tx : Tx H6 (upd H6 sp (.lst (ws ++ [w5]))) := Tx.lst p2''
    refine sd_asg (ed_call (eda_cons (ed_var rfl ((r5.ex e6).tx tx nlp)) eda_nil) ⟨fin l (es.take i), es[i].a, es[i].b, es[i].q, rfl, by omega, by omega, by omega, by omega, rfl⟩) fun w6 H7 e7 r7 => ?_
    rw [rp_str.mp r7]
    refine ⟨ws ++ [w5], some (.int (i : Nat)), some x, some w1, some w2, some (.str (S es[i].q)), some w4, ?_, ?_, e7 _ _ upd_same, ?_⟩
    · rw [fin_succ l es i _ hei]
      rfl
    · exact ((p1.trans (eT.trans (e35.trans e6))).mut hspn).trans e7
    · rw [List.take_add_one, hst, List.map_append]
      refine (rps_app (Rps.tx tx (nls_all fun d hd => ?_) (p3.ex (eT.trans (e35.trans e6)))) (rps_cons.mpr ⟨w5, [], rfl, r6.tx tx nlp, rps_nil.mpr rfl⟩)).ex e7
      obtain ⟨y, _, rfl⟩ := List.mem_map.mp hd
      rfl
  · rintro σ' H' ⟨ws, y3, y4, y5, y6, y7, y8, rfl, p1, p2, p3⟩
    refine sd_ret (d := .lst ((st l es).map spn)) (ed_var rfl (rp_lst.mpr ⟨sp, ws, rfl, p2, ?_⟩)) fun v H8 e8 r8 => q v H8 (p1.trans e8) r8
    rw [hel, List.take_of_length_le (by rw [st_len]; exact Nat.le_refl _)] at p3
    exact p3
end
end HW

set_option Elab.async false
set_option linter.all false
set_option maxRecDepth 100000
namespace HW
open PySem PySem.Spec PyProof.Rows L2 Evl SX
section
variable {P : Program} {w : World} {K : PySem.W.Frag} {mg : Str → Option Value} {base : Heap}
theorem atI_m1 {α : Type} {xs : List α} (h : 0 < xs.length) : atI xs (-1) = xs[xs.length - 1]? := by
  have e : ixN xs.length (-1) = some (xs.length - 1) := by
    unfold ixN
    rw [if_neg (by omega), if_pos (by omega)]
    congr 1
    omega
  unfold atI
  rw [e]
  rfl
theorem st_last (l : List Nat) {es : List Ed} (h : 0 < es.length) (hs : okT 200 l) (hc : Ch l es) : ∃ s e, (st l es)[es.length - 1]? = some (s, e) ∧ e.on s = fin l es ∧ okT 200 s ∧ e.can s := by
  have hi : es.length - 1 < es.length := by omega
  have hei : es[es.length - 1]? = some es[es.length - 1] := List.getElem?_eq_getElem hi
  refine ⟨_, _, st_get l es _ _ hei, ?_, fin_ok _ hs hc, hc.get hei⟩
  rw [← fin_succ l es _ _ hei, List.take_of_length_le (by omega)]
def sp_edited : Sp := SpR 2 fun ds d => ∃ s es, ds = [.str s, .lst ((st s es).map edx)] ∧ okT 200 s ∧ Ch s es ∧ es.length ≤ 8 ∧ d = .str (fin s es)
theorem sc_edited : FnScope ["sheet", "edits", "spans"] ["sheet", "edits"] (defScope (topS 9)) := ⟨rfl, rfl, rfl, by decide +kernel, rfl, by decide +kernel, by decide +kernel⟩
theorem ok_edited {f : Addr} {fd : FuncData} (F : Fun K "edited" "edited" (topS 9) f fd) (d_spans_of : Df P w K mg base "spans_of" ["sheet", "edits"] 6 sp_spans_of) (d_behind : Df P w K mg base "behind" ["span"] 1 sp_behind) : FnOk P w K mg base CX0 7 f fd ["sheet", "edits"] sp_edited := by
  refine F.ok sc_edited (fun vs H Q E h => by exact SpR.len h) (fun cdv A outer s H vs Q E hr h => ?_)
  obtain ⟨ds, d, hl, rs, ⟨l, es, rfl, hs, hc, h8, rfl⟩, q⟩ := h
  obtain ⟨v, r, rfl, h1, h2⟩ := rps_cons.mp rs
  obtain ⟨v2, r2, rfl, h3, h4⟩ := rps_cons.mp h2
  rw [rps_nil.mp h4, rp_str.mp h1]
  refine ⟨_, (pss_cons (ps_set (i := 2) sc_edited.nd rfl (.inl rfl) (d_spans_of.pe (hr.mono (by decide)) (pa_cons (pv 0) (pa_cons (pv 1) pa_nil))))
      (pss_one (ps_ret (pe_ifExp (pt_truth (pv 2) (by intro _; rfl)) (d_behind.pe (hr.mono (by decide)) (pa_cons (pe_ix (r := rIxL K) ix_list (pv 2) (pe_un un_neg pe_int) (fun _ _ => rfl)) pa_nil)) (pv 0))))), ?_⟩
  refine qd_asg (ed_call (eda_cons (ed_s (ev_var rfl)) (eda_cons (ed_var rfl h3) eda_nil)) ⟨l, es, rfl, hs, hc, h8, rfl⟩) fun w1 H1 e1 r1 => ?_
  refine sd_ret (ed_if (et_truL (ed_var rfl r1)) (fun hb => ?_) fun hb => ?_) fun v H2 e2 r2 => q v H2 (e1.trans e2) r2
  · have hp : 0 < es.length := by
      cases es with
      | nil => cases hb
      | cons _ _ => simp
    obtain ⟨s', e', g1, g2, g3, g4⟩ := st_last l hp hs hc
    have a1 := g3.1
    have a2 := g4.1
    have a3 := g4.2.1
    have a4 := g4.2.2.1.1
    rw [← g2]
    exact ed_call (eda_cons (d := spn (s', e')) (ed_ixL (ed_var rfl r1) (ev_un ev_c ru_neg) (by rw [atI_m1 (by rw [List.length_map, st_len]; exact hp), List.getElem?_map, List.length_map, st_len, g1]; rfl)) eda_nil) ⟨s', e'.a, e'.b, e'.q, rfl, by omega, by omega, by omega, by omega, rfl⟩
  · have hp : es = [] := by
      cases es with
      | nil => rfl
      | cons _ _ => cases hb
    subst hp
    exact ed_s (ev_var rfl)
def lcp : List Nat → List Nat → Nat
  | [], _ => 0
  | _ :: _, [] => 0
  | a :: s, b :: t => if a = b then lcp s t + 1 else 0
theorem lcp_le : ∀ (s t : List Nat), lcp s t ≤ s.length ∧ lcp s t ≤ t.length
  | [], t => by rw [lcp]; exact ⟨Nat.zero_le _, Nat.zero_le _⟩
  | a :: s, [] => by rw [lcp]; exact ⟨Nat.zero_le _, Nat.zero_le _⟩
  | a :: s, b :: t => by
    rw [lcp]
    have := lcp_le s t
    split
    · rw [List.length_cons, List.length_cons]; omega
    · exact ⟨Nat.zero_le _, Nat.zero_le _⟩
theorem lcp_lt : ∀ {s t : List Nat} {k : Nat}, k < lcp s t → s[k]? = t[k]?
  | [], t, k, h => by rw [lcp] at h; omega
  | a :: s, [], k, h => by rw [lcp] at h; omega
  | a :: s, b :: t, k, h => by
    rw [lcp] at h
    by_cases e : a = b
    · rw [if_pos e] at h
      cases k with
      | zero => rw [e]; rfl
      | succ k =>
        rw [List.getElem?_cons_succ, List.getElem?_cons_succ]
        exact lcp_lt (by omega)
    · rw [if_neg e] at h; omega
theorem lcp_ne : ∀ {s t : List Nat} {x : Nat}, s[lcp s t]? = some x → t[lcp s t]? ≠ some x
  | [], t, x, h => by simp at h
  | a :: s, [], x, h => by simp
  | a :: s, b :: t, x, h => by
    rw [lcp] at h ⊢
    by_cases e : a = b
    · rw [if_pos e] at h ⊢
      rw [List.getElem?_cons_succ] at h ⊢
      exact lcp_ne h
    · rw [if_neg e] at h ⊢
      intro z
      cases h
      cases z
      exact e rfl
def sp_same_at_begin : Sp := SpR 2 fun ds d => ∃ s t, ds = [.str s, .str t] ∧ s.length ≤ 40000 ∧ t.length ≤ 40000 ∧ d = .int (lcp s t : Nat)
theorem sc_same_at_begin : FnScope ["one", "other", "many"] ["one", "other"] (defScope (topS 23)) := ⟨rfl, rfl, rfl, by decide +kernel, rfl, by decide +kernel, by decide +kernel⟩
theorem ok_same_at_begin {f : Addr} {fd : FuncData} (F : Fun K "same_at_begin" "same_at_begin" (topS 23) f fd) (m_len : mg "len" = none) : FnOk P w K mg base CX0 1 f fd ["one", "other"] sp_same_at_begin := by
  refine F.ok sc_same_at_begin (fun vs H Q E h => by exact SpR.len h) (fun cdv A outer s H vs Q E hr h => ?_)
  obtain ⟨ds, d, hl, rs, ⟨s1, s2, rfl, hs, ht, rfl⟩, q⟩ := h
  obtain ⟨v, r, rfl, h1, h2⟩ := rps_cons.mp rs
  obtain ⟨v2, r2, rfl, h3, h4⟩ := rps_cons.mp h2
  rw [rps_nil.mp h4, rp_str.mp h1, rp_str.mp h3]
  have hle := lcp_le s1 s2
  refine ⟨_, (pss_cons (ps_set (i := 2) sc_same_at_begin.nd rfl (.inl rfl) pe_int)
      (pss_cons (ps_while PassesOwn.never (PW.pt (pw_and (pt_cmpR op_lt (pv 2) (pe_callB call_len_str (by rfl) m_len PySem.boot_len (pa_cons (pv 0) pa_nil)) (nomark _)) (pw_and (pt_cmpR op_lt (pv 2) (pe_callB call_len_str (by rfl) m_len PySem.boot_len (pa_cons (pv 1) pa_nil)) (nomark _)) (pw_and1 (pt_cmpR op_eq (pe_ix ix_str (pv 0) (pv 2) (fun _ _ => rfl)) (pe_ix ix_str (pv 1) (pv 2) (fun _ _ => rfl)) (nomark _))))))
        (pss_one (ps_aug (i := 2) sc_same_at_begin.nd rfl (.inl rfl) pe_int ip_add)))
      (pss_one (ps_ret (pv 2))))), ?_⟩
  refine q_asg ev_c fun H1 e1 => ?_
  refine q_while (fun m σ' H' => ∃ k : Nat, k + m = lcp s1 s2 ∧ σ' = [some (.str (S s1)), some (.str (S s2)), some (.int k)] ∧ Ex H H') (lcp s1 s2) ⟨0, by omega, rfl, e1⟩ ?_
  rintro m σ' H' ⟨k, hk, rfl, p⟩
  by_cases hm : m = 0
  · have hk2 : k = lcp s1 s2 := by omega
    refine ⟨false, ?_, (fun z => by cases z), fun _ H2 e2 => ?_⟩
    · by_cases c1 : k < s1.length
      · by_cases c2 : k < s2.length
        · have g1 : s1[k]? = some s1[k] := List.getElem?_eq_getElem c1
          have g2 : s2[k]? = some s2[k] := List.getElem?_eq_getElem c2
          have ne : s1[k] ≠ s2[k] := fun z => by
            have g3 := g1
            rw [z] at g3
            generalize s2[k] = x at g3 g2
            rw [hk2] at g3 g2
            exact lcp_ne g3 g2
          exact et_and1 (et_is (et_test (ev_op (ev_var rfl) (ev_lenS (ev_var rfl) (by omega)) rv_I0)) (decide_eq_true (by omega))) (et_and1 (et_is (et_test (ev_op (ev_var rfl) (ev_lenS (ev_var rfl) (by omega)) rv_I0)) (decide_eq_true (by omega)))
            (et_is (et_test (ev_op (ev_ixS (ev_var rfl) (ev_var rfl) (by omega) g1) (ev_ixS (ev_var rfl) (ev_var rfl) (by omega) g2) rv_eqS)) (decide_eq_false fun z => ne (by injection z))))
        · exact et_and1 (et_is (et_test (ev_op (ev_var rfl) (ev_lenS (ev_var rfl) (by omega)) rv_I0)) (decide_eq_true (by omega))) (et_and0 (et_is (et_test (ev_op (ev_var rfl) (ev_lenS (ev_var rfl) (by omega)) rv_I0)) (decide_eq_false (by omega))))
      · exact et_and0 (et_is (et_test (ev_op (ev_var rfl) (ev_lenS (ev_var rfl) (by omega)) rv_I0)) (decide_eq_false (by omega)))
    · rw [hk2]
      exact sd_ret (ed_i (ev_var rfl)) fun v H3 e3 r3 => q v H3 ((p.trans e2).trans e3) r3
  · have hk2 : k < lcp s1 s2 := by omega
    have g1 : s1[k]? = some s1[k] := List.getElem?_eq_getElem (by omega)
    have g2 : s2[k]? = some s1[k] := by rw [← lcp_lt hk2]; exact g1
    refine ⟨true, ?_, fun _ H2 e2 => ⟨fun σ2 H3 => σ2 = [some (.str (S s1)), some (.str (S s2)), some (.int ((k + 1 : Nat) : Int))] ∧ Ex H H3, fun σ2 H3 hn => ⟨m - 1, by omega, k + 1, by omega, hn.1, hn.2⟩, ?_⟩, (fun z => by cases z)⟩
    · exact et_and1 (et_is (et_test (ev_op (ev_var rfl) (ev_lenS (ev_var rfl) (by omega)) rv_I0)) (decide_eq_true (by omega))) (et_and1 (et_is (et_test (ev_op (ev_var rfl) (ev_lenS (ev_var rfl) (by omega)) rv_I0)) (decide_eq_true (by omega)))
            (et_is (et_test (ev_op (ev_ixS (ev_var rfl) (ev_var rfl) (by omega) g1) (ev_ixS (ev_var rfl) (ev_var rfl) (by omega) g2) rv_eqS)) (decide_eq_true rfl)))
    · exact s_aug (f := fun a b => a + b) rfl ev_c fun H3 e3 => ⟨by show [_, _, some (V.int ((k : Int) + 1))] = _; congr 4, (p.trans e2).trans e3⟩
def undo (x : List Nat × Ed) : D := .tup [pl (pos x.1 x.2.a), pl (pos (x.2.on x.1) (x.2.a + x.2.q.length)), .str ((x.1.drop x.2.a).take (x.2.b - x.2.a))]
theorem nl_undo (x : List Nat × Ed) : nl (undo x) = true := rfl
def sp_undoing : Sp := SpR 1 fun ds d => ∃ x : List Nat × Ed, ds = [spn x] ∧ okT 200 x.1 ∧ x.2.can x.1 ∧ d = undo x
theorem sc_undoing : FnScope ["span", "sheet", "first", "last", "put", "begin", "end"] ["span"] (defScope (topS 24)) := ⟨rfl, rfl, rfl, by decide +kernel, rfl, by decide +kernel, by decide +kernel⟩
theorem ok_undoing {f : Addr} {fd : FuncData} (F : Fun K "undoing" "undoing" (topS 24) f fd) (m_len : mg "len" = none) (d_place_in : Df P w K mg base "place_in" ["sheet", "number"] 2 sp_place_in) (d_behind : Df P w K mg base "behind" ["span"] 1 sp_behind) : FnOk P w K mg base CX0 3 f fd ["span"] sp_undoing := by
  refine F.ok sc_undoing (fun vs H Q E h => by exact SpR.len h) (fun cdv A outer s H vs Q E hr h => ?_)
  obtain ⟨ds, d, hl, rs, ⟨⟨l, e⟩, rfl, hs, hc, rfl⟩, q⟩ := h
  obtain ⟨v, r, rfl, h1, h2⟩ := rps_cons.mp rs
  rw [rps_nil.mp h2]
  have h1 : Rp H (spanD l e.a e.b e.q) v := h1
  have a1 : l.length ≤ 200 := hs.1
  have a2 : e.a ≤ e.b := hc.1
  have a3 : e.b ≤ l.length := hc.2.1
  have a4 : e.q.length ≤ 40 := hc.2.2.1.1
  have a5 : (put l e.a e.b e.q).length ≤ 200 := hc.2.2.2
  have a6 := put_len (q := e.q) a2 a3
  refine ⟨_, (pss_cons (ps_asg (pv 0) (pg_tup rfl (pgs_cons (pg_name (i := 1) sc_undoing.nd rfl (.inl rfl)) (pgs_cons (pg_name (i := 2) sc_undoing.nd rfl (.inl rfl)) (pgs_cons (pg_name (i := 3) sc_undoing.nd rfl (.inl rfl)) (pgs_cons (pg_name (i := 4) sc_undoing.nd rfl (.inl rfl)) pgs_nil))))))
      (pss_cons (ps_set (i := 5) sc_undoing.nd rfl (.inl rfl) (d_place_in.pe (hr.mono (by decide)) (pa_cons (pv 1) (pa_cons (pv 2) pa_nil))))
      (pss_cons (ps_set (i := 6) sc_undoing.nd rfl (.inl rfl) (d_place_in.pe (hr.mono (by decide)) (pa_cons (d_behind.pe (hr.mono (by decide)) (pa_cons (pv 0) pa_nil)) (pa_cons (pe_op op_add (pv 2) (pe_callB call_len_str (by rfl) m_len PySem.boot_len (pa_cons (pv 4) pa_nil))) pa_nil))))
      (pss_one (ps_ret (pe_tup (pa_cons (pv 5) (pa_cons (pv 6) (pa_cons (pe_slice sl_str (pv 1) (po_some (pv 2)) (po_some (pv 3))) pa_nil))))))))), ?_⟩
  refine qd_un4 (ed_var rfl h1) fun w1 w2 w3 w4 H1 e1 r1 r2 r3 r4 => ?_
  rw [rp_str.mp r1, rp_int.mp r2, rp_int.mp r3, rp_str.mp r4]
  refine qd_asg (ed_call (eda_cons (ed_s (ev_var rfl)) (eda_cons (ed_i (ev_var rfl)) eda_nil)) ⟨l, e.a, rfl, by omega, by omega, rfl⟩) fun w5 H2 e2 r5 => ?_
  refine qd_asg (ed_call (eda_cons (ed_call (eda_cons (ed_var rfl ((h1.ex e1).ex e2)) eda_nil) ⟨l, e.a, e.b, e.q, rfl, by omega, by omega, by omega, by omega, rfl⟩) (eda_cons (ed_i (ev_op (ev_var rfl) (ev_lenS (ev_var rfl) (by omega)) rv_I0)) eda_nil)) ⟨put l e.a e.b e.q, e.a + e.q.length, rfl, by omega, by omega, rfl⟩) fun w6 H3 e3 r6 => ?_
  exact sd_ret (d := undo (l, e)) (ed_tup (eda_cons (ed_var rfl (r5.ex e3)) (eda_cons (ed_var rfl r6) (eda_cons (ed_s (ev_mid (l := l) (a := e.a) (b := e.b) (ev_var rfl) (ev_var rfl) (ev_var rfl) (by omega) a2 a3)) eda_nil)))) fun v H5 e5 r5 => q v H5 (((e1.trans e2).trans e3).trans e5) r5
def sp_back : Sp := SpR 2 fun ds d => ∃ s es, ds = [.str s, .lst ((st s es).map edx)] ∧ okT 200 s ∧ Ch s es ∧ es.length ≤ 8 ∧ d = .lst ((st s es).reverse.map undo)
theorem sc_back : FnScope ["sheet", "edits", "span"] ["sheet", "edits"] (defScope (topS 11)) := ⟨rfl, rfl, rfl, by decide +kernel, rfl, by decide +kernel, by decide +kernel⟩
theorem ok_back {f : Addr} {fd : FuncData} (F : Fun K "back" "back" (topS 11) f fd) (m_reversed : mg "reversed" = none) (d_spans_of : Df P w K mg base "spans_of" ["sheet", "edits"] 6 sp_spans_of) (d_undoing : Df P w K mg base "undoing" ["span"] 3 sp_undoing) : FnOk P w K mg base CX0 7 f fd ["sheet", "edits"] sp_back := by
  refine F.ok sc_back (fun vs H Q E h => by exact SpR.len h) (fun cdv A outer s H vs Q E hr h => ?_)
  obtain ⟨ds, d, hl, rs, ⟨l, es, rfl, hs, hc, h8, rfl⟩, q⟩ := h
  obtain ⟨v, r, rfl, h1, h2⟩ := rps_cons.mp rs
  obtain ⟨v2, r2, rfl, h3, h4⟩ := rps_cons.mp h2
  rw [rps_nil.mp h4, rp_str.mp h1]
  refine ⟨_, (pss_one (ps_ret (pe_lc (own := [("span", 2)]) (g := gName 2) (tt := tYes) rfl sc_back.nd (pi_reversed (by rfl) m_reversed (pa_cons (d_spans_of.pe (hr.mono (by decide)) (pa_cons (pv 0) (pa_cons (pv 1) pa_nil))) pa_nil)) (blkOk_by (own := [("span", 2)]) (N := ["sheet", "edits", "span"]) (sc := defScope (topS 11)) (by decide +kernel)) (fun _ _ _ _ _ => (pg_name (i := 2) sc_back.nd rfl (.inl rfl))) (fun _ _ _ _ _ => pts_nil) (fun _ _ _ _ _ => (d_undoing.pe (hr.mono (by decide)) (pa_cons (pv 2) pa_nil)))))), ?_⟩
  have e : (st l es).reverse.map undo = picked ((st l es).map spn).length (fun _ => true) (fun i => undo (((st l es).reverse).getD i (l, ⟨0, 0, []⟩))) := by
    rw [List.length_map, ← List.length_reverse]
    exact (picked_map _ fun i x h => by rw [List.getD_eq_getElem?_getD, h]; rfl).symm
  refine sd_ret (d := .lst ((st l es).reverse.map undo)) ?_ q
  rw [e]
  refine ed_lc (fun _ => true) _ (ei_rev (ed_call (eda_cons (ed_s (ev_var rfl)) (eda_cons (ed_var rfl h3) eda_nil)) ⟨l, es, rfl, hs, hc, h8, rfl⟩)) (by rw [List.length_map, st_len]; omega) (fun _ => rfl) (fun _ => rfl) (fun i x H1 _ _ _ => fun H2 e2 Q q => q H2 (Ex.refl _)) fun i x H1 hi e1 r1 _ => ?_
  rw [List.length_map, st_len] at hi
  have hi2 : es.length - 1 - i < es.length := by omega
  have hei : es[es.length - 1 - i]? = some es[es.length - 1 - i] := List.getElem?_eq_getElem hi2
  have hst := st_get l es _ _ hei
  have hrv : (st l es).reverse[i]? = some (fin l (es.take (es.length - 1 - i)), es[es.length - 1 - i]) := by
    rw [List.getElem?_reverse (by rw [st_len]; exact hi), st_len]
    exact hst
  rw [List.getD_eq_getElem?_getD, hrv]
  rw [List.getD_eq_getElem?_getD, List.length_map, List.getElem?_map, st_len, hst] at r1
  exact ed_call (eda_cons (ed_var rfl r1) eda_nil) ⟨_, rfl, fin_ok _ hs hc, hc.get hei, rfl⟩
def togD (s t : List Nat) : D := if t = s then .non else
  .tup [pl (pos s (lcp s t)), pl (pos s (s.length - lcp (s.drop (lcp s t)).reverse (t.drop (lcp s t)).reverse)),
    .str ((t.drop (lcp s t)).take (t.length - lcp (s.drop (lcp s t)).reverse (t.drop (lcp s t)).reverse - lcp s t))]
def sp_together : Sp := SpR 2 fun ds d => ∃ s es, ds = [.str s, .lst ((st s es).map edx)] ∧ okT 200 s ∧ Ch s es ∧ es.length ≤ 8 ∧ d = togD s (fin s es)
theorem sc_together : FnScope ["sheet", "edits", "after", "first", "kept", "last", "put"] ["sheet", "edits"] (defScope (topS 10)) := ⟨rfl, rfl, rfl, by decide +kernel, rfl, by decide +kernel, by decide +kernel⟩
theorem ok_together {f : Addr} {fd : FuncData} (F : Fun K "together" "together" (topS 10) f fd) (m_len : mg "len" = none) (d_edited : Df P w K mg base "edited" ["sheet", "edits"] 7 sp_edited) (d_same_at_begin : Df P w K mg base "same_at_begin" ["one", "other"] 1 sp_same_at_begin) (d_place_in : Df P w K mg base "place_in" ["sheet", "number"] 2 sp_place_in) : FnOk P w K mg base CX0 8 f fd ["sheet", "edits"] sp_together := by
  refine F.ok sc_together (fun vs H Q E h => by exact SpR.len h) (fun cdv A outer s H vs Q E hr h => ?_)
  obtain ⟨ds, d, hl, rs, ⟨l, es, rfl, hs, hc, h8, rfl⟩, q⟩ := h
  obtain ⟨v, r, rfl, h1, h2⟩ := rps_cons.mp rs
  obtain ⟨v2, r2, rfl, h3, h4⟩ := rps_cons.mp h2
  rw [rps_nil.mp h4, rp_str.mp h1]
  have a1 := hs.1
  have hfo := fin_ok es.length hs hc
  rw [List.take_of_length_le (Nat.le_refl _)] at hfo
  have a2 := hfo.1
  refine ⟨_, (pss_cons (ps_set (i := 2) sc_together.nd rfl (.inl rfl) (d_edited.pe (hr.mono (by decide)) (pa_cons (pv 0) (pa_cons (pv 1) pa_nil))))
      (pss_cons (ps_if (pt_cmpR op_eq (pv 2) (pv 0) (nomark _))
        (pss_one (ps_ret pe_non))
        pss_nil)
      (pss_cons (ps_set (i := 3) sc_together.nd rfl (.inl rfl) (d_same_at_begin.pe (hr.mono (by decide)) (pa_cons (pv 0) (pa_cons (pv 2) pa_nil))))
      (pss_cons (ps_set (i := 4) sc_together.nd rfl (.inl rfl) (d_same_at_begin.pe (hr.mono (by decide)) (pa_cons (pe_revS (pe_slice sl_str (pv 0) (po_some (pv 3)) po_none)) (pa_cons (pe_revS (pe_slice sl_str (pv 2) (po_some (pv 3)) po_none)) pa_nil))))
      (pss_cons (ps_set (i := 5) sc_together.nd rfl (.inl rfl) (pe_op op_sub (pe_callB call_len_str (by rfl) m_len PySem.boot_len (pa_cons (pv 0) pa_nil)) (pv 4)))
      (pss_cons (ps_set (i := 6) sc_together.nd rfl (.inl rfl) (pe_slice sl_str (pv 2) (po_some (pv 3)) (po_some (pe_op op_sub (pe_callB call_len_str (by rfl) m_len PySem.boot_len (pa_cons (pv 2) pa_nil)) (pv 4)))))
      (pss_one (ps_ret (pe_tup (pa_cons (d_place_in.pe (hr.mono (by decide)) (pa_cons (pv 0) (pa_cons (pv 3) pa_nil))) (pa_cons (d_place_in.pe (hr.mono (by decide)) (pa_cons (pv 0) (pa_cons (pv 5) pa_nil))) (pa_cons (pv 6) pa_nil)))))))))))), ?_⟩
  refine qd_asg (ed_call (eda_cons (ed_s (ev_var rfl)) (eda_cons (ed_var rfl h3) eda_nil)) ⟨l, es, rfl, hs, hc, h8, rfl⟩) fun w1 H1 e1 r1 => ?_
  rw [rp_str.mp r1]
  generalize fin l es = t at *
  refine q_when (et_test (ev_op (ev_var rfl) (ev_var rfl) rv_eqS)) (fun hb H2 e2 => ?_) fun hb H2 e2 => ?_
  · have ht : t = l := of_decide_eq_true hb
    have ed : togD l t = .non := by unfold togD; rw [if_pos ht]
    rw [ed] at q
    exact sd_ret (ed_n ev_c) fun v H3 e3 r3 => q v H3 ((e1.trans e2).trans e3) r3
  · have ht : ¬ t = l := of_decide_eq_false hb
    have b1 := lcp_le l t
    have b2 := lcp_le (l.drop (lcp l t)).reverse (t.drop (lcp l t)).reverse
    rw [List.length_reverse, List.length_reverse, List.length_drop, List.length_drop] at b2
    unfold togD at q
    rw [if_neg ht] at q
    refine q_asg (EvD.i (ed_call (eda_cons (ed_s (ev_var rfl)) (eda_cons (ed_s (ev_var rfl)) eda_nil)) ⟨l, t, rfl, by omega, by omega, rfl⟩)) fun H3 e3 => ?_
    refine q_asg (EvD.i (ed_call (eda_cons (ed_s (ev_revS (ev_from (ev_var rfl) (ev_var rfl) (by omega)) (by rw [List.length_drop]; omega))) (eda_cons (ed_s (ev_revS (ev_from (ev_var rfl) (ev_var rfl) (by omega)) (by rw [List.length_drop]; omega))) eda_nil)) ⟨_, _, rfl, by rw [List.length_reverse, List.length_drop]; omega, by rw [List.length_reverse, List.length_drop]; omega, rfl⟩)) fun H4 e4 => ?_
    generalize lcp (l.drop (lcp l t)).reverse (t.drop (lcp l t)).reverse = k at *
    generalize lcp l t = f at *
    refine q_asg (v := .int ((l.length - k : Nat) : Int)) (ev_is (ev_op (ev_lenS (ev_var rfl) (by omega)) (ev_var rfl) rv_I0) (by show V.int _ = V.int _; congr 1; omega)) fun H5 e5 => ?_
    refine q_asg (ev_mid (a := f) (b := t.length - k) (ev_var rfl) (ev_var rfl) (ev_is (ev_op (ev_lenS (ev_var rfl) (by omega)) (ev_var rfl) rv_I0) (by show V.int _ = V.int _; congr 1; omega)) (by omega) (by omega) (by omega)) fun H6 e6 => ?_
    refine sd_ret (ed_tup (eda_cons (ed_call (eda_cons (ed_s (ev_var rfl)) (eda_cons (ed_i (ev_var rfl)) eda_nil)) ⟨l, f, rfl, by omega, by omega, rfl⟩) (eda_cons (ed_call (eda_cons (ed_s (ev_var rfl)) (eda_cons (ed_i (ev_var rfl)) eda_nil)) ⟨l, l.length - k, rfl, by omega, by omega, rfl⟩) (eda_cons (ed_s (ev_var rfl)) eda_nil))))
      fun v H7 e7 r7 => q v H7 ((((((e1.trans e2).trans e3).trans e4).trans e5).trans e6).trans e7) r7
end
end HW

set_option Elab.async false
set_option linter.all false
set_option maxRecDepth 100000
namespace HW
open PySem PySem.Spec PyProof.Rows L2 Evl SX
/-! ### a state that is drawn from: a list that changes, all else stays -/
def ExB (a : Addr) (H H' : Hp) : Prop := ∀ b o, b ≠ a → H b = some o → H' b = some o
theorem ExB.refl (a : Addr) (H : Hp) : ExB a H H := fun _ _ _ h => h
theorem ExB.trans {a : Addr} {H H1 H2 : Hp} (x : ExB a H H1) (y : ExB a H1 H2) : ExB a H H2 := fun b o n h => y b o n (x b o n h)
theorem ExB.of {a : Addr} {H H' : Hp} (e : Ex H H') : ExB a H H' := fun b o _ h => e b o h
theorem ExB.upd (a : Addr) (H : Hp) (o : HO) : ExB a H (upd H a o) := fun b u n h => by rw [upd_ne n]; exact h
/-- the script: locked, or written -/
def Scr (K : PySem.W.Frag) (H : Hp) (sc : Addr) (xs : List V) : Prop := (∃ o, H sc = some (.frz o (.lst xs))) ∨
  ∃ (o : Obj) (its : Array Value) (n : Nat), K.lookup sc = some o ∧ o.cls = .type "list" ∧ o.dict = none ∧ o.data = .seq its n ∧ its.size ≤ sizeLine ∧ Vals xs its.toList
theorem Scr.sq {K : PySem.W.Frag} {H : Hp} {sc : Addr} {xs : List V} (h : Scr K H sc xs) : SqL K H sc xs := by
  rcases h with ⟨o, h⟩ | h
  · exact .inl (.inr ⟨o, h⟩)
  · exact .inr h
theorem Scr.of {K : PySem.W.Frag} {H : Hp} {sc : Addr} {xs : List V} (h : SqL K H sc xs) (ho : Only H) : Scr K H sc xs := by
  rcases h with (h | ⟨o, h⟩) | h
  · rcases ho sc with z | ⟨o, ys, z⟩
    · rw [z] at h; cases h
    · rw [z] at h; cases h
  · exact .inl ⟨o, h⟩
  · exact .inr h
theorem Scr.ex {K : PySem.W.Frag} {H H' : Hp} {sc : Addr} {xs : List V} (h : Scr K H sc xs) (e : Ex H H') : Scr K H' sc xs := by
  rcases h with ⟨o, h⟩ | h
  · exact .inl ⟨o, e _ _ h⟩
  · exact .inr h
theorem Scr.upd {K : PySem.W.Frag} {H : Hp} {sc p : Addr} {xs : List V} {o : HO} (h : Scr K H sc xs) (hp : ∀ ob u, H p ≠ some (.frz ob u)) : Scr K (upd H p o) sc xs := by
  rcases h with ⟨ob, h⟩ | h
  · refine .inl ⟨ob, ?_⟩
    rw [upd_ne (fun z => hp _ _ (by rw [← z]; exact h))]
    exact h
  · exact .inr h
theorem ExB.seq {K : PySem.W.Frag} {a sc : Addr} {H H' : Hp} {xs ys : List V} (e : ExB a H H') (ha : H a = some (.lst ys)) (h : Scr K H sc xs) : Scr K H' sc xs := by
  rcases h with ⟨o, h⟩ | h
  · exact .inl ⟨o, e _ _ (fun z => by rw [z, ha] at h; cases h) h⟩
  · exact .inr h
structure StO (K : PySem.W.Frag) (ns : List Int) (a : Addr) (H : Hp) : Prop where
  ex : ∃ (sc : Addr) (i m r : Int), H a = some (.lst [.ref sc, .int i, .int m, .int r]) ∧ Scr K H sc (ns.map V.int) ∧ 0 ≤ i ∧ 0 ≤ m ∧ m < 2147483647 ∧ 0 ≤ r
theorem StO.mono {K : PySem.W.Frag} {ns : List Int} {a : Addr} {H H' : Hp} (s : StO K ns a H) (e : Ex H H') : StO K ns a H' := by
  obtain ⟨sc, i, m, r, h1, h2, h3⟩ := s.ex
  exact ⟨sc, i, m, r, e _ _ h1, h2.ex e, h3⟩
theorem StO.upd {K : PySem.W.Frag} {ns : List Int} {a p : Addr} {H : Hp} {o : HO} {ys : List V} (s : StO K ns a H) (hp : H p = some (.lst ys)) (hpa : p ≠ a) : StO K ns a (upd H p o) := by
  obtain ⟨sc, i, m, r, h1, h2, h3⟩ := s.ex
  exact ⟨sc, i, m, r, by rw [upd_ne hpa.symm]; exact h1, h2.upd (fun _ _ z => by rw [hp] at z; cases z), h3⟩
theorem ExB.tx {K : PySem.W.Frag} {ns : List Int} {a : Addr} {H H' : Hp} (s : StO K ns a H) (e : ExB a H H') : Tx H H' := fun b xs h => by
  obtain ⟨sc, i, m, r, h1, _⟩ := s.ex
  exact e b _ (ne_of h h1 (fun z => nomatch z)) h
theorem StO.ne {K : PySem.W.Frag} {ns : List Int} {a p : Addr} {H : Hp} {ds : List D} {ws : List V} (s : StO K ns a H) (hp : H p = some (.lst ws)) (hr : Rps H ds ws) (hd : ∀ d ∈ ds, ∃ es, d = .tup es) : p ≠ a := fun z => by
  obtain ⟨sc, i, m, r, h1, _⟩ := s.ex
  rw [z, h1] at hp
  have e := HO.lst.inj (Option.some.inj hp)
  have hl := rps_len hr
  rw [← e] at hl
  have h2 : ds[1]? = some (ds[1]'(by rw [← hl]; simp)) := List.getElem?_eq_getElem (by rw [← hl]; simp)
  obtain ⟨v, hv, rv⟩ := rps_get hr h2
  rw [← e] at hv
  cases hv
  obtain ⟨es, he⟩ := hd _ (List.mem_of_getElem? h2)
  rw [he] at rv
  obtain ⟨p, vs, h5, _⟩ := rp_tup.mp rv
  cases h5
theorem StO.keep {K : PySem.W.Frag} {ns : List Int} {a : Addr} {H H' : Hp} {ds : List D} {v : V} (s : StO K ns a H) (x : ExB a H H') (r : Rp H (.lst ds) v) (hd : ∀ d ∈ ds, ∃ es, d = .tup es) (hn : nls ds = true) : Rp H' (.lst ds) v := by
  obtain ⟨p, ws, rfl, h1, h2⟩ := rp_lst.mp r
  exact rp_lst.mpr ⟨p, ws, rfl, x _ _ (s.ne h1 h2 hd) h1, Rps.tx (x.tx s) hn h2⟩
/-- what is told by a te that may draw: any v of which P holds -/
def EvS (K : PySem.W.Frag) (ns : List Int) (a : Addr) (te : TE) (σ : L2.St) (H : Hp) (P : V → Prop) : Prop :=
  ∀ H1, ExB a H H1 → StO K ns a H1 → ∀ Q : VK, (∀ v H2, ExB a H1 H2 → StO K ns a H2 → P v → Q v H2) → te σ H1 Q
def EvSA (K : PySem.W.Frag) (ns : List Int) (a : Addr) (ta : TA) (σ : L2.St) (H : Hp) (P : List V → Prop) : Prop :=
  ∀ H1, ExB a H H1 → StO K ns a H1 → ∀ Q : List V → Hp → Prop, (∀ vs H2, ExB a H1 H2 → StO K ns a H2 → P vs → Q vs H2) → ta σ H1 Q
def EvST (K : PySem.W.Frag) (ns : List Int) (a : Addr) (tt : TT) (σ : L2.St) (H : Hp) : Prop :=
  ∀ H1, ExB a H H1 → StO K ns a H1 → ∀ Q : Bool → Hp → Prop, (∀ b H2, ExB a H1 H2 → StO K ns a H2 → Q b H2) → tt σ H1 Q
def spDrawn (K : PySem.W.Frag) : Sp := fun vs H Q _ => ∃ a m ns, vs = [.ref a, .int m] ∧ StO K ns a H ∧ 1 ≤ m ∧ m ≤ 2 ^ 60 ∧ ∀ k H', 0 ≤ k → k < m → ExB a H H' → StO K ns a H' → Q (.int k) H'
/-- a def that draws from the state, its first argument, and tells some flat value -/
def SpS (K : PySem.W.Frag) (n : Nat) (R : List V → V → Prop) : Sp := fun vs H Q _ => ∃ a ns us, vs = .ref a :: us ∧ us.length + 1 = n ∧ StO K ns a H ∧ (∃ v, R us v) ∧ ∀ v H', R us v → ExB a H H' → StO K ns a H' → Q v H'
theorem SpS.len {K : PySem.W.Frag} {n : Nat} {R : List V → V → Prop} {vs : List V} {H : Hp} {Q : VK} {E : XK} (h : SpS K n R vs H Q E) : vs.length = n := by
  obtain ⟨a, ns, us, rfl, h, _⟩ := h
  exact h
section
variable {K : PySem.W.Frag} {ns : List Int} {a : Addr} {σ : L2.St} {H H' : Hp} {ta tb te : TE} {P P1 P2 : V → Prop} {v : V} {r : R2}
theorem EvS.mono (e : ExB a H H') (h : EvS K ns a te σ H P) : EvS K ns a te σ H' P := fun H1 x s Q q => h H1 (e.trans x) s Q q
theorem EvS.imp (h : EvS K ns a te σ H P1) (hi : ∀ v, P1 v → P2 v) : EvS K ns a te σ H P2 := fun H1 e s Q q => h H1 e s Q fun v H2 e2 s2 p => q v H2 e2 s2 (hi v p)
theorem es_of (h : ∀ H1, ExB a H H1 → Ev te σ H1 v) (p : P v) : EvS K ns a te σ H P := fun H1 e s Q q => h H1 e H1 (Ex.refl _) Q fun H2 e2 => q v H2 (.of e2) (s.mono e2) p
theorem es_op (ha : EvS K ns a ta σ H P1) (hb : EvS K ns a tb σ H P2) (hr : ∀ x y, P1 x → P2 y → ∃ z, (∀ H, RV r x y H z) ∧ P z) : EvS K ns a (tOp r ta tb) σ H P := fun H1 e s Q q =>
  ha H1 e s _ fun x H2 e2 s2 p1 => hb H2 (e.trans e2) s2 _ fun y H3 e3 s3 p2 => by
    obtain ⟨z, hz, pz⟩ := hr x y p1 p2
    exact hz H3 H3 (Ex.refl _) Q fun H4 e4 => q z H4 ((e2.trans e3).trans (.of e4)) (s3.mono e4) pz
theorem esa_nil : EvSA K ns a tNil σ H (fun vs => vs = []) := fun H1 e s Q q => q [] H1 (ExB.refl _ _) s rfl
theorem esa_cons {tr : TA} {PS : List V → Prop} (h : EvS K ns a ta σ H P1) (hr : EvSA K ns a tr σ H PS) : EvSA K ns a (tCons ta tr) σ H (fun vs => ∃ v us, vs = v :: us ∧ P1 v ∧ PS us) := fun H1 e s Q q =>
  h H1 e s _ fun v H2 e2 s2 p => hr H2 (e.trans e2) s2 _ fun us H3 e3 s3 ps => q _ H3 (e2.trans e3) s3 ⟨v, us, rfl, p, ps⟩
theorem es_drawn {i : Nat} {m : Int} {E : XK} (hi : σ[i]? = some (some (.ref a))) (h : EvS K ns a ta σ H fun v => v = .int m) (h1 : 1 ≤ m) (h2 : m ≤ 2 ^ 60) : EvS K ns a (tCall (spDrawn K) [] E (tCons (tVar i) (tCons ta tNil))) σ H (fun v => ∃ k, v = .int k ∧ 0 ≤ k ∧ k < m) := fun H1 e s Q q =>
  ⟨.ref a, hi, h H1 e s _ fun v H2 e2 s2 p => ⟨a, m, ns, by rw [p]; rfl, s2, h1, h2, fun k H3 k0 k1 e3 s3 => q _ H3 (e2.trans e3) s3 ⟨k, rfl, k0, k1⟩⟩⟩
/-- the same where the bound itself is drawn -/
theorem es_drawnP {i : Nat} {E : XK} (hi : σ[i]? = some (some (.ref a))) (h : EvS K ns a ta σ H P1) (hm : ∀ v, P1 v → ∃ m, v = .int m ∧ 1 ≤ m ∧ m ≤ 2 ^ 60) : EvS K ns a (tCall (spDrawn K) [] E (tCons (tVar i) (tCons ta tNil))) σ H (fun v => ∃ k m, v = .int k ∧ 0 ≤ k ∧ k < m ∧ P1 (.int m)) := fun H1 e s Q q =>
  ⟨.ref a, hi, h H1 e s _ fun v H2 e2 s2 p => by
    obtain ⟨m, rfl, h1, h2⟩ := hm v p
    exact ⟨a, m, ns, rfl, s2, h1, h2, fun k H3 k0 k1 e3 s3 => q _ H3 (e2.trans e3) s3 ⟨k, m, rfl, k0, k1, p⟩⟩⟩
theorem es_call {n : Nat} {i : Nat} {R : List V → V → Prop} {E : XK} {tr : TA} {PS : List V → Prop} (hi : σ[i]? = some (some (.ref a))) (h : EvSA K ns a tr σ H PS) (hR : ∀ us, PS us → us.length + 1 = n ∧ ∃ v, R us v) :
    EvS K ns a (tCall (SpS K n R) [] E (tCons (tVar i) tr)) σ H (fun v => ∃ us, PS us ∧ R us v) := fun H1 e s Q q =>
  ⟨.ref a, hi, h H1 e s _ fun us H2 e2 s2 p => ⟨a, ns, us, by rw [List.append_nil], (hR us p).1, s2, (hR us p).2, fun v H3 hv e3 s3 => q v H3 (e2.trans e3) s3 ⟨us, p, hv⟩⟩⟩
/-- [e, ..][i] -/
theorem es_pick {tr : TA} {n : Nat} {PS : List V → Prop} (h : EvSA K ns a tr σ H PS) (hn : ∀ us, PS us → us.length = n ∧ ∀ v ∈ us, P v) (hz : n ≤ 1000) (hi : EvS K ns a tb σ H fun v => ∃ k, v = .int k ∧ 0 ≤ k ∧ k < (n : Int)) :
    EvS K ns a (tOp (rIxL K) (tLst tr) tb) σ H P := fun H1 e s Q q =>
  h H1 e s _ fun us H2 e2 s2 p => ⟨by rw [(hn us p).1]; exact sz_of (by omega), fun l hl => by
    have ela : Ex H2 (upd H2 l (.lst us)) := Ex.new hl
    refine hi _ ((e.trans e2).trans (.of ela)) (s2.mono ela) _ fun k H3 e3 s3 pk => ?_
    obtain ⟨k, rfl, k0, k1⟩ := pk
    have hla : l ≠ a := fun z => by
      obtain ⟨_, _, _, _, h1, _⟩ := s2.ex
      rw [z, h1] at hl
      cases hl
    have hlen := (hn us p).1
    have hk : k.toNat < us.length := by omega
    refine ⟨l, us, k, us[k.toNat], rfl, rfl, sq_of (e3 l _ hla upd_same), ?_, q _ H3 (e2.trans ((ExB.of ela).trans e3)) s3 ((hn us p).2 _ (List.getElem_mem hk))⟩
    have := atI_nat (xs := us) (j := k.toNat) (List.getElem?_eq_getElem hk)
    rw [Int.toNat_of_nonneg k0] at this
    exact this⟩
/-- xs[i], xs a list that stands -/
theorem es_ixL {l : Addr} {xs : List V} (hl : H l = some (.lst xs)) (hla : l ≠ a) (h : ∀ H1, ExB a H H1 → Ev ta σ H1 (.ref l)) (hP : ∀ v ∈ xs, P v) (hi : EvS K ns a tb σ H fun v => ∃ k, v = .int k ∧ 0 ≤ k ∧ k < (xs.length : Int)) :
    EvS K ns a (tOp (rIxL K) ta tb) σ H P := fun H1 e s Q q =>
  h H1 e H1 (Ex.refl _) _ fun H2 e2 => hi H2 (e.trans (.of e2)) (s.mono e2) _ fun k H3 e3 s3 pk => by
    obtain ⟨k, rfl, k0, k1⟩ := pk
    have hk : k.toNat < xs.length := by omega
    refine ⟨l, xs, k, xs[k.toNat], rfl, rfl, sq_of (e3 l _ hla (e2 _ _ (e l _ hla hl))), ?_, q _ H3 ((ExB.of e2).trans e3) s3 (hP _ (List.getElem_mem hk))⟩
    have := atI_nat (xs := xs) (j := k.toNat) (List.getElem?_eq_getElem hk)
    rw [Int.toNat_of_nonneg k0] at this
    exact this
/-- a text at a drawn place -/
theorem es_ixS {l : List Nat} (h : ∀ H1, ExB a H H1 → Ev ta σ H1 (.str (S l))) (hz : l.length ≤ 1000) (hi : EvS K ns a tb σ H fun v => ∃ k, v = .int k ∧ 0 ≤ k ∧ k < (l.length : Int)) :
    EvS K ns a (tOp rIxS ta tb) σ H (fun v => ∃ c ∈ l, v = .str (S [c])) := fun H1 e s Q q =>
  h H1 e H1 (Ex.refl _) _ fun H2 e2 => hi H2 (e.trans (.of e2)) (s.mono e2) _ fun k H3 e3 s3 pk => by
    obtain ⟨k, rfl, k0, k1⟩ := pk
    have hk : k.toNat < l.length := by omega
    refine ⟨S l, k, l[k.toNat], rfl, rfl, by rw [S_len]; exact sz_of (by omega), ?_, q _ H3 ((ExB.of e2).trans e3) s3 ⟨_, List.getElem_mem hk, rfl⟩⟩
    have := atI_nat (xs := l) (j := k.toNat) (List.getElem?_eq_getElem hk)
    rw [Int.toNat_of_nonneg k0] at this
    exact this
/-- e[:n], both drawn -/
theorem es_to (ha : EvS K ns a ta σ H P1) (hb : EvS K ns a tb σ H P2) (hP : ∀ x y, P1 x → P2 y → ∃ (l : List Nat) (n : Nat), x = .str (S l) ∧ y = .int (n : Int) ∧ l.length ≤ 100000 ∧ P (.str (S (l.take n)))) : EvS K ns a (tSl rSlS ta tNoPart (tPart tb)) σ H P := fun H1 e s Q q =>
  ha H1 e s _ fun x H2 e2 s2 p1 => hb H2 (e.trans e2) s2 _ fun y H3 e3 s3 p2 => by
    obtain ⟨l, n, rfl, rfl, hl, hp⟩ := hP x y p1 p2
    exact ⟨n, rfl, S l, rfl, by rw [S_len]; exact sz_of hl, by rw [cut_to]; exact q _ H3 (e2.trans e3) s3 hp⟩
/-- a built-in of two values -/
theorem es_cb2 {r : List V → Hp → VK → Prop} (ha : EvS K ns a ta σ H P1) (hb : EvS K ns a tb σ H P2) (hr : ∀ x y, P1 x → P2 y → ∃ z, P z ∧ ∀ H (Q : VK), Q z H → r [x, y] H Q) : EvS K ns a (tCB r (tCons ta (tCons tb tNil))) σ H P := fun H1 e s Q q =>
  ha H1 e s _ fun x H2 e2 s2 p1 => hb H2 (e.trans e2) s2 _ fun y H3 e3 s3 p2 => by
    obtain ⟨z, hz, hr⟩ := hr x y p1 p2
    exact hr H3 Q (q z H3 (e2.trans e3) s3 hz)
/-! ### statements -/
variable {D' : Ends} {tz tu tw : TS}
theorem qs_if {t : TE} (h : EvS K ns a t σ H fun v => ∃ b, v = .bl b) (s : StO K ns a H) (h1 : ∀ H1, ExB a H H1 → StO K ns a H1 → tu { D' with nx := tz D' } σ H1) (h2 : ∀ H1, ExB a H H1 → StO K ns a H1 → tw { D' with nx := tz D' } σ H1) :
    tSeq (tIfS (tTest t) tu tw) tz D' σ H := h H (ExB.refl _ _) s _ fun v H1 e1 s1 p => by
  obtain ⟨b, rfl⟩ := p
  refine ⟨b, rfl, ?_⟩
  cases b with
  | true =>
    show tu _ σ H1
    exact h1 H1 e1 s1
  | false =>
    show tw _ σ H1
    exact h2 H1 e1 s1
theorem ss_if {t : TE} (h : EvS K ns a t σ H fun v => ∃ b, v = .bl b) (s : StO K ns a H) (h1 : ∀ H1, ExB a H H1 → StO K ns a H1 → tu D' σ H1) (h2 : ∀ H1, ExB a H H1 → StO K ns a H1 → tw D' σ H1) :
    tIfS (tTest t) tu tw D' σ H := h H (ExB.refl _ _) s _ fun v H1 e1 s1 p => by
  obtain ⟨b, rfl⟩ := p
  refine ⟨b, rfl, ?_⟩
  cases b with
  | true =>
    show tu _ σ H1
    exact h1 H1 e1 s1
  | false =>
    show tw _ σ H1
    exact h2 H1 e1 s1
theorem ss_setL {p : Addr} {xs : List V} {j : Nat} {ti : TE} (hp : H p = some (.lst xs)) (hpa : p ≠ a) (h : EvS K ns a te σ H P) (ho : ∀ H1, ExB a H H1 → Ev ta σ H1 (.ref p)) (hi : ∀ H1, ExB a H H1 → Ev ti σ H1 (.int (j : Int))) (hj : j < xs.length) (s : StO K ns a H)
    (k : ∀ v H1, ExB a H H1 → StO K ns a H1 → P v → H1 p = some (.lst xs) → D'.nx σ (upd H1 p (.lst (xs.set j v)))) : tAsg te (gSub ta ti rSetL) D' σ H := h H (ExB.refl _ _) s _ fun v H1 e1 s1 pv =>
  ho H1 e1 H1 (Ex.refl _) _ fun H2 e2 => hi H2 (e1.trans (.of e2)) H2 (Ex.refl _) _ fun H3 e3 => by
    have hp3 := (e2.trans e3) _ _ (e1 p _ hpa hp)
    exact ⟨p, xs, (j : Int), j, rfl, rfl, hp3, ixN_nat hj, k v H3 (e1.trans (.of (e2.trans e3))) (s1.mono (e2.trans e3)) pv hp3⟩
/-- x = sorted([d, e]) -/
theorem qs_sort2 {i : Nat} {m : Int} (hd : EvS K ns a ta σ H fun v => ∃ k, v = .int k ∧ 0 ≤ k ∧ k < m) (he : EvS K ns a tb σ H fun v => ∃ k, v = .int k ∧ 0 ≤ k ∧ k < m) (s : StO K ns a H)
    (k : ∀ u v p H1, 0 ≤ u → u ≤ v → v < m → H p = none → p ≠ a → ExB a H H1 → StO K ns a H1 → H1 p = some (.lst [.int u, .int v]) → tz D' (σ.set i (some (.ref p))) H1) :
    tSeq (tAsg (tCB (rSorted K) (tCons (tLst (tCons ta (tCons tb tNil))) tNil)) (gName i)) tz D' σ H :=
  hd H (ExB.refl _ _) s _ fun x H1 x1 s1 p1 => he H1 x1 s1 _ fun y H2 x2 s2 p2 => by
    obtain ⟨k1, rfl, k10, k11⟩ := p1
    obtain ⟨k2, rfl, k20, k21⟩ := p2
    refine ⟨by show 2 ≤ sizeLine; decide, fun l0 hl0 => ⟨l0, [k1, k2], rfl, sq_of upd_same, by show 2 < 64; decide, fun ms p hperm hpair hp => ?_⟩⟩
    have hl := hperm.length_eq
    match ms, hl with
    | [u, v], _ =>
      have h1 : u ∈ [k1, k2] := hperm.mem_iff.mp List.mem_cons_self
      have h2 : v ∈ [k1, k2] := hperm.mem_iff.mp (List.mem_cons_of_mem _ List.mem_cons_self)
      have h3 : u ≤ v := (List.pairwise_cons.mp hpair).1 v List.mem_cons_self
      have h1 : u = k1 ∨ u = k2 := by simpa using h1
      have h2 : v = k1 ∨ v = k2 := by simpa using h2
      have e1 : Ex H2 (L2.upd H2 l0 (.lst [V.int k1, V.int k2])) := Ex.new hl0
      have s3 := s2.mono e1
      have hpa : p ≠ a := fun z => by
        obtain ⟨_, _, _, _, h1, _⟩ := s3.ex
        rw [z, h1] at hp
        cases hp
      have hpn : H p = none := by
        cases hH : H p with
        | none => rfl
        | some o =>
          have := e1 _ _ (x2 p o hpa (x1 p o hpa hH))
          rw [hp] at this
          cases this
      exact k u v p _ (by omega) h3 (by omega) hpn hpa ((x1.trans x2).trans (.of (e1.trans (Ex.new hp)))) (s3.mono (Ex.new hp)) upd_same
theorem qs_asg {i : Nat} (h : EvS K ns a te σ H P) (s : StO K ns a H) (k : ∀ v H1, ExB a H H1 → StO K ns a H1 → P v → tz D' (σ.set i (some v)) H1) : tSeq (tAsg te (gName i)) tz D' σ H := h H (ExB.refl _ _) s _ k
theorem ss_asg {i : Nat} (h : EvS K ns a te σ H P) (s : StO K ns a H) (k : ∀ v H1, ExB a H H1 → StO K ns a H1 → P v → D'.nx (σ.set i (some v)) H1) : tAsg te (gName i) D' σ H := h H (ExB.refl _ _) s _ k
theorem ss_ret (h : EvS K ns a te σ H P) (s : StO K ns a H) (k : ∀ v H1, ExB a H H1 → StO K ns a H1 → P v → D'.rt v H1) : tRet te D' σ H := h H (ExB.refl _ _) s _ k
/-- for i in range(e), e drawn, at most B -/
theorem qs_forR {j B : Nat} (hB : B ≤ 1000) (h : EvS K ns a te σ H fun v => ∃ k, v = .int k ∧ 0 ≤ k ∧ k ≤ (B : Int)) (s : StO K ns a H) (Pv : Nat → L2.St → Hp → Prop) (h0 : ∀ H1, ExB a H H1 → StO K ns a H1 → Pv 0 σ H1)
    (hs : ∀ (i : Nat) σ' H', i < B → Pv i σ' H' → tu { D' with nx := Pv (i + 1), ct := Pv (i + 1), bk := tz D' } (σ'.set j (some (.int (i : Int)))) H')
    (hd : ∀ n σ' H', n ≤ B → Pv n σ' H' → tz D' σ' H') : tSeq (tFor (iRng1 (tCons te tNil)) (gName j) tu) tz D' σ H :=
  h H (ExB.refl _ _) s _ fun v H1 e s1 p => by
    obtain ⟨k, rfl, k0, k1⟩ := p
    exact ⟨k, rfl, by omega, by omega, for_range (lo := 0) (n := k.toNat) Pv (h0 H1 e s1) (fun i σ' H' hi p => by
      have e0 : (0 : Int) + (i : Int) = (i : Int) := Int.zero_add _
      show tu _ (σ'.set j (some (.int ((0 : Int) + (i : Int))))) H'
      rw [e0]
      exact hs i σ' H' (by omega) p) fun σ' H' p => hd _ σ' H' (by omega) p⟩
end
end HW

set_option Elab.async false
set_option linter.all false
set_option maxRecDepth 100000
namespace HW
open PySem PySem.Spec PyProof.Rows L2 Evl SX
section
variable {P : Program} {w : World} {K : PySem.W.Frag} {mg : Str → Option Value} {base : Heap}
theorem fmodB (x : Int) : 0 ≤ x.fmod 2147483647 ∧ x.fmod 2147483647 < 2147483647 := by
  rw [Int.fmod_eq_emod_of_nonneg _ (by decide)]
  exact ⟨Int.emod_nonneg _ (by decide), Int.emod_lt_of_pos _ (by decide)⟩
def sp__law_start (K : PySem.W.Frag) : Sp := fun vs H Q _ => ∃ sc ns, vs = [.ref sc] ∧ Scr K H sc (ns.map V.int) ∧ ∀ a H', H a = none → Ex H H' → StO K ns a H' → Q (.ref a) H'
theorem sc__law_start : FnScope ["_law_script", "_law_mixed", "_law_cell"] ["_law_script"] (defScope (topS 26)) := ⟨rfl, rfl, rfl, by decide +kernel, rfl, by decide +kernel, by decide +kernel⟩
theorem ok__law_start {f : Addr} {fd : FuncData} (F : Fun K "_law_start" "_law_start" (topS 26) f fd) : FnOk P w K mg base CX0 1 f fd ["_law_script"] (sp__law_start K) := by
  refine F.ok sc__law_start (fun vs H Q E h => by obtain ⟨sc, ns, rfl, _⟩ := h; rfl) (fun cdv A outer s H vs Q E hr h => ?_)
  obtain ⟨sc, ns, rfl, hs, q⟩ := h
  refine ⟨_, (pss_cons (ps_set (i := 1) sc__law_start.nd rfl (.inl rfl) pe_int)
      (pss_cons (ps_for PassesOwn.never rfl (pi_list (pv 0)) (pg_name (i := 2) sc__law_start.nd rfl (.inl rfl))
        (pss_one (ps_set (i := 1) sc__law_start.nd rfl (.inl rfl) (pe_op op_modN (pe_op op_add (pe_op op_add (pe_op op_mul (pv 1) pe_int) (pv 2)) pe_int) pe_int))))
      (pss_one (ps_ret (pe_lst (pa_cons (pv 0) (pa_cons pe_int (pa_cons (pv 1) (pa_cons pe_int pa_nil))))))))), ?_⟩
  refine q_asg ev_c fun H1 e1 => ?_
  refine q_forLn (ev_var rfl) (hs.ex e1).sq (fun i σ' H' => ∃ m y, 0 ≤ m ∧ m < 2147483647 ∧ σ' = [some (.ref sc), some (.int m), y] ∧ Ex H H') (fun H2 e2 => ⟨1, none, by decide, by decide, rfl, e1.trans e2⟩) (fun i σ' H' _ ⟨_, _, _, _, _, p⟩ => (hs.ex p).sq) ?_ ?_
  · rintro i x σ' H' hx ⟨m, y, m0, m1, rfl, p⟩
    rw [List.getElem?_map] at hx
    obtain ⟨z, hz, rfl⟩ := Option.map_eq_some_iff.mp hx
    refine s_asg (ev_op (ev_op (ev_op (ev_op (ev_var rfl) ev_c (rv_I (.inl ⟨by omega, by omega⟩))) (ev_var rfl) rv_I0) ev_c rv_I0) ev_c (rv_I (by decide))) fun H2 e2 => ?_
    exact ⟨_, _, (fmodB _).1, (fmodB _).2, rfl, p.trans e2⟩
  · rintro σ' H' ⟨m, y, m0, m1, rfl, p⟩
    refine s_retL (el_lst (ea_cons (ev_var rfl) (ea_cons ev_c (ea_cons (ev_var rfl) (ea_cons ev_c ea_nil)))) (by simp)) fun a H2 ha e2 h2 => ?_
    exact q a H2 (fresh_back p ha) (p.trans e2) ⟨sc, 0, m, 0, h2, hs.ex (p.trans e2), by decide, m0, m1, by decide⟩
theorem fmodP {x m : Int} (h : 1 ≤ m) : 0 ≤ x.fmod m ∧ x.fmod m < m := by
  rw [Int.fmod_eq_emod_of_nonneg _ (by omega)]
  exact ⟨Int.emod_nonneg _ (by omega), Int.emod_lt_of_pos _ (by omega)⟩
theorem sc__law_drawn : FnScope ["_law_state", "_law_many", "_law_found", "_law_cell"] ["_law_state", "_law_many"] (defScope (topS 27)) := ⟨rfl, rfl, rfl, by decide +kernel, rfl, by decide +kernel, by decide +kernel⟩
theorem ok__law_drawn {f : Addr} {fd : FuncData} (F : Fun K "_law_drawn" "_law_drawn" (topS 27) f fd) (m_len : mg "len" = none) : FnOk P w K mg base CX0 1 f fd ["_law_state", "_law_many"] (spDrawn K) := by
  refine F.ok sc__law_drawn (fun vs H Q E h => by obtain ⟨a, m, ns, rfl, _⟩ := h; rfl) (fun cdv A outer s H vs Q E hr h => ?_)
  obtain ⟨a, m, ns, rfl, hst, m1, m2, q⟩ := h
  obtain ⟨sc, i, mx, r, ha, hs, i0, x0, x1, r0⟩ := hst.ex
  have hdv : ∀ x : Int, CDivW x m := fun x => wide_div (b := 61) (by omega) (by omega) (by decide) (by decide)
  refine ⟨_, (pss_cons (ps_if (pt_cmpR op_gt (pe_ix (r := rIxL K) ix_list (pv 0) pe_int (fun _ _ => rfl)) pe_int (nomark _))
        (pss_cons (ps_set (i := 2) sc__law_drawn.nd rfl (.inl rfl) (pe_op op_modN (pe_ix (r := rIxL K) ix_list (pv 0) pe_int (fun _ _ => rfl)) (pv 1)))
      (pss_cons (ps_asg (pe_op op_fdivW (pe_ix (r := rIxL K) ix_list (pv 0) pe_int (fun _ _ => rfl)) (pv 1)) (pg_sub (pv 0) pe_int set_list))
      (pss_one (ps_ret (pv 2)))))
        pss_nil)
      (pss_cons (ps_asg (pe_op op_add (pe_ix (r := rIxL K) ix_list (pv 0) pe_int (fun _ _ => rfl)) pe_int) (pg_sub (pv 0) pe_int set_list))
      (pss_cons (ps_if (pt_cmpR op_le (pe_ix (r := rIxL K) ix_list (pv 0) pe_int (fun _ _ => rfl)) (pe_callB call_len_seq (by rfl) m_len PySem.boot_len (pa_cons (pe_ix (r := rIxL K) ix_list (pv 0) pe_int (fun _ _ => rfl)) pa_nil)) (nomark _))
        (pss_cons (ps_set (i := 3) sc__law_drawn.nd rfl (.inl rfl) (pe_ix (r := rIxL K) ix_list (pe_ix (r := rIxL K) ix_list (pv 0) pe_int (fun _ _ => rfl)) (pe_op op_sub (pe_ix (r := rIxL K) ix_list (pv 0) pe_int (fun _ _ => rfl)) pe_int) (fun _ _ => rfl)))
      (pss_cons (ps_asg (pe_ifExp (pt_cmpR op_ge (pv 3) (pe_op op_pow pe_int pe_int) (nomark _)) (pe_op op_fdivW (pv 3) (pv 1)) pe_int) (pg_sub (pv 0) pe_int set_list))
      (pss_one (ps_ret (pe_op op_modN (pv 3) (pv 1))))))
        pss_nil)
      (pss_cons (ps_asg (pe_op op_modN (pe_op op_add (pe_op op_mul (pe_ix (r := rIxL K) ix_list (pv 0) pe_int (fun _ _ => rfl)) pe_int) pe_int) pe_int) (pg_sub (pv 0) pe_int set_list))
      (pss_one (ps_ret (pe_op op_modN (pe_op op_fdivW (pe_ix (r := rIxL K) ix_list (pv 0) pe_int (fun _ _ => rfl)) pe_int) (pv 1)))))))), ?_⟩
  have it : ∀ {H' : Hp} {i' mx' r' : Int} {j : Nat} {v : V} {te : TE} {σ : L2.St}, H' a = some (.lst [.ref sc, .int i', .int mx', .int r']) → σ[0]? = some (some (.ref a)) → Ev te σ H' (.int (j : Int)) → [V.ref sc, .int i', .int mx', .int r'][j]? = some v → Ev (tOp (rIxL K) (tVar 0) te) σ H' v := fun h1 h2 h3 h4 => ev_op (ev_var h2) h3 (rv_ixL (sq_of h1) (atI_nat h4))
  refine q_when (et_test (ev_op (it (j := 3) ha rfl ev_c rfl) ev_c rv_I0)) (fun hb H1 e1 => ?_) fun hb H1 e1 => ?_
  · have ha1 := e1 _ _ ha
    refine q_asg (ev_op (it (j := 3) ha1 rfl ev_c rfl) (ev_var rfl) (rv_I (by omega))) fun H2 e2 => ?_
    have ha2 := e2 _ _ ha1
    refine q_setL (j := 3) ha2 (ev_op (it (j := 3) ha2 rfl ev_c rfl) (ev_var rfl) (rv_I (hdv _))) (ev_var rfl) ev_c (by simp) fun H3 e3 => ?_
    have e13 := (e1.trans e2).trans e3
    refine s_ret (ev_var rfl) fun H4 e4 => q _ H4 (fmodP m1).1 (fmodP m1).2 (((ExB.of e13).trans (ExB.upd _ _ _)).trans (.of e4)) ⟨sc, i, mx, r / m, e4 _ _ upd_same, ((ExB.upd _ _ _).seq (e13 _ _ ha) (hs.ex e13)).ex e4, i0, x0, x1, Int.ediv_nonneg r0 (by omega)⟩
  · have ha1 := e1 _ _ ha
    refine q_setL (j := 1) ha1 (ev_op (it (j := 1) ha1 rfl ev_c rfl) ev_c rv_I0) (ev_var rfl) ev_c (by simp) fun H2 e2 => ?_
    have e12 := e1.trans e2
    have ha3 : (upd H2 a (.lst ([V.ref sc, .int i, .int mx, .int r].set 1 (.int (i + 1))))) a = some (.lst [V.ref sc, .int (i + 1), .int mx, .int r]) := upd_same
    have hs3 : Scr K (upd H2 a (.lst ([V.ref sc, .int i, .int mx, .int r].set 1 (.int (i + 1))))) sc (ns.map V.int) := (ExB.upd _ _ _).seq (e12 _ _ ha) (hs.ex e12)
    have x3 : ExB a H (upd H2 a (.lst ([V.ref sc, .int i, .int mx, .int r].set 1 (.int (i + 1))))) := (ExB.of e12).trans (ExB.upd _ _ _)
    generalize (upd H2 a (.lst ([V.ref sc, .int i, .int mx, .int r].set 1 (.int (i + 1))))) = H3 at *
    have hln : Ev (tCB (fun xs H Q => ∃ p ys, xs = [.ref p] ∧ (SqL K H p ys ∨ SqT K H p ys) ∧ Q (.int ys.length) H) (tCons (tOp (rIxL K) (tVar 0) (tC (.int 0))) tNil)) [some (.ref a), some (.int m), none, none] H3 (.int (ns.length : Int)) := fun H4 e4 Q q =>
      it (j := 0) ha3 rfl ev_c rfl H4 e4 _ fun H5 e5 => ⟨sc, ns.map V.int, rfl, .inl (hs3.ex (e4.trans e5)).sq, by rw [List.length_map]; exact q H5 e5⟩
    refine q_when (et_test (ev_op (it (j := 1) ha3 rfl ev_c rfl) hln rv_I0)) (fun hb H4 e4 => ?_) fun hb H4 e4 => ?_
    · have hle : i + 1 ≤ (ns.length : Int) := of_decide_eq_true hb
      have ha4 := e4 _ _ ha3
      have hs4 : Scr K H4 sc (ns.map V.int) := hs3.ex e4
      have hi : i.toNat < ns.length := by omega
      have hcell : (ns.map V.int)[i.toNat]? = some (.int ns[i.toNat]) := by rw [List.getElem?_map, List.getElem?_eq_getElem hi]; rfl
      refine q_asg (ev_op (y := .int (i.toNat : Int)) (it (j := 0) ha4 rfl ev_c rfl) (ev_is (v := .int (i + 1 - 1)) (ev_op (it (j := 1) ha4 rfl ev_c rfl) ev_c rv_I0) (by show V.int (i + 1 - 1) = V.int (i.toNat : Int); congr 1; omega)) (rv_ixL hs4.sq (atI_nat hcell))) fun H5 e5 => ?_
      have ha5 := e5 _ _ ha4
      have hs5 : Scr K H5 sc (ns.map V.int) := hs4.ex e5
      have hpow : Ev (tOp (rI CPow fun i j => .int (i ^ j.toNat)) (tC (.int 10)) (tC (.int 18))) [some (.ref a), some (.int m), none, some (.int ns[i.toNat])] H5 (.int (10 ^ 18)) := ev_is (ev_op ev_c ev_c (rv_I ⟨by decide, by decide, by decide⟩)) rfl
      have hx : ∃ z, 0 ≤ z ∧ Ev (tIf (tTest (tOp (rI0 fun i j => .bl (decide (j ≤ i))) (tVar 3) (tOp (rI CPow fun i j => .int (i ^ j.toNat)) (tC (.int 10)) (tC (.int 18))))) (tOp (rI CDivW fun i j => .int (i / j)) (tVar 3) (tVar 1)) (tC (.int 0))) [some (.ref a), some (.int m), none, some (.int ns[i.toNat])] H5 (.int z) := by
        by_cases hc : (10 : Int) ^ 18 ≤ ns[i.toNat]
        · exact ⟨ns[i.toNat] / m, Int.ediv_nonneg (by omega) (by omega), ev_if (b := true) (et_is (et_test (ev_op (ev_var rfl) hpow rv_I0)) (decide_eq_true hc)) (fun _ => ev_op (ev_var rfl) (ev_var rfl) (rv_I (hdv _))) fun z => by cases z⟩
        · exact ⟨0, by decide, ev_if (b := false) (et_is (et_test (ev_op (ev_var rfl) hpow rv_I0)) (decide_eq_false hc)) (fun z => by cases z) fun _ => ev_c⟩
      obtain ⟨z, z0, hz⟩ := hx
      refine q_setL (j := 3) ha5 hz (ev_var rfl) ev_c (by simp) fun H6 e6 => ?_
      have e46 := (e4.trans e5).trans e6
      refine s_ret (ev_op (ev_var rfl) (ev_var rfl) (rv_I (by omega))) fun H7 e7 => q _ H7 (fmodP m1).1 (fmodP m1).2 ((x3.trans ((ExB.of e46).trans (ExB.upd _ _ _))).trans (.of e7)) ⟨sc, i + 1, mx, z, e7 _ _ upd_same, ((ExB.upd _ _ _).seq (e46 _ _ ha3) (hs3.ex e46)).ex e7, by omega, x0, x1, z0⟩
    · have ha4 := e4 _ _ ha3
      have hs4 : Scr K H4 sc (ns.map V.int) := hs3.ex e4
      refine q_setL (j := 2) ha4 (ev_op (ev_op (ev_op (it (j := 2) ha4 rfl ev_c rfl) ev_c (rv_I (.inl ⟨by omega, by omega⟩))) ev_c rv_I0) ev_c (rv_I (by decide))) (ev_var rfl) ev_c (by simp) fun H5 e5 => ?_
      have ha6 : (upd H5 a (.lst ([V.ref sc, .int (i + 1), .int mx, .int r].set 2 (.int ((mx * 48271 + 11).fmod 2147483647))))) a = some (.lst [V.ref sc, .int (i + 1), .int ((mx * 48271 + 11).fmod 2147483647), .int r]) := upd_same
      refine s_ret (ev_op (ev_op (it (j := 2) ha6 rfl ev_c rfl) ev_c (rv_I ⟨by decide, by decide⟩)) (ev_var rfl) (rv_I (by omega))) fun H7 e7 => q _ H7 (fmodP m1).1 (fmodP m1).2 ((x3.trans ((ExB.of (e4.trans e5)).trans (ExB.upd _ _ _))).trans (.of e7)) ⟨sc, i + 1, _, r, e7 _ _ upd_same, ((ExB.upd _ _ _).seq ((e4.trans e5) _ _ ha3) (hs3.ex (e4.trans e5))).ex e7, by omega, (fmodB _).1, (fmodB _).2, r0⟩
end
end HW

set_option Elab.async false
set_option linter.all false
set_option maxRecDepth 100000
namespace HW
open PySem PySem.Spec PyProof.Rows L2 Evl SX
section
variable {P : Program} {w : World} {K : PySem.W.Frag} {mg : Str → Option Value} {base : Heap}
def everyS : Str := Str.ofString " !\"#$&'()*+,-./0123456789:;<=>?@ABCDEFGHIJKLMNOPQRSTUVWXYZ[]^_`abcdefghijklmnopqrstuvwxyz{|}~\n"
def everyL : List Nat := everyS.cps.toList
theorem every_S : S everyL = everyS := S_tl _
theorem every_ok : everyL.all sgn = true := by decide +kernel
theorem every_len : everyL.length = 94 := by decide +kernel
theorem es_fdiv {ns : List Int} {a : Addr} {σ : L2.St} {H : Hp} {ta : TE} {m j : Int} (hj : 0 < j) (hj2 : j < 1000) (h : EvS K ns a ta σ H fun v => ∃ k, v = .int k ∧ 0 ≤ k ∧ k < m) :
    EvS K ns a (tOp (rI CDivW fun i j => .int (i / j)) ta (tC (.int j))) σ H (fun v => ∃ k, v = .int (k / j) ∧ 0 ≤ k ∧ k < m) :=
  es_op h (es_of (P := fun v => v = .int j) (fun _ _ => ev_c) rfl) fun x y ⟨k, hx, k0, k1⟩ hy => by
    subst hx hy
    exact ⟨.int (k / j), fun H => rv_I (C := CDivW) (g := fun i j => .int (i / j)) (wide_div (b := 10) hj (by omega) (by decide) (by decide)), k, rfl, k0, k1⟩
def sp__law_sign (K : PySem.W.Frag) : Sp := SpS K 1 fun us v => us = [] ∧ ∃ c, sgn c = true ∧ v = .str (S [c])
theorem sc__law_sign : FnScope ["_law_state", "_law_every"] ["_law_state"] (defScope (topS 29)) := ⟨rfl, rfl, rfl, by decide +kernel, rfl, by decide +kernel, by decide +kernel⟩
theorem ok__law_sign {f : Addr} {fd : FuncData} (F : Fun K "_law_sign" "_law_sign" (topS 29) f fd) (m_len : mg "len" = none) (d__law_drawn : Df P w K mg base "_law_drawn" ["_law_state", "_law_many"] 1 (spDrawn K)) : FnOk P w K mg base CX0 2 f fd ["_law_state"] (sp__law_sign K) := by
  refine F.ok sc__law_sign (fun vs H Q E h => by exact SpS.len h) (fun cdv A outer s H vs Q E hr h => ?_)
  obtain ⟨a, ns, us, rfl, hn, hs, ⟨v0, rfl, _⟩, q⟩ := h
  refine ⟨_, (pss_cons (ps_set (i := 1) sc__law_sign.nd rfl (.inl rfl) pe_str)
      (pss_one (ps_ret (pe_ix (r := rIxL K) ix_list (pe_lst (pa_cons (pe_ix ix_str pe_str (d__law_drawn.pe (hr.mono (by decide)) (pa_cons (pv 0) (pa_cons pe_int pa_nil))) (fun _ _ => rfl)) (pa_cons (pe_ix ix_str (pv 1) (d__law_drawn.pe (hr.mono (by decide)) (pa_cons (pv 0) (pa_cons (pe_callB call_len_str (by rfl) m_len PySem.boot_len (pa_cons (pv 1) pa_nil)) pa_nil))) (fun _ _ => rfl)) pa_nil))) (pe_op op_fdivW (d__law_drawn.pe (hr.mono (by decide)) (pa_cons (pv 0) (pa_cons pe_int pa_nil))) pe_int) (fun _ _ => rfl))))), ?_⟩
  refine q_asg (v := .str (S everyL)) (by rw [every_S]; exact ev_c) fun H1 e1 => ?_
  have hs1 := hs.mono e1
  refine ss_ret (P := fun v => ∃ c, sgn c = true ∧ v = .str (S [c])) (es_pick (n := 2) (PS := fun us => ∃ v us', us = v :: us' ∧ (∃ c ∈ [97, 98, 32, 10], v = .str (S [c])) ∧ ∃ v us, us' = v :: us ∧ (∃ c ∈ everyL, v = .str (S [c])) ∧ us = [])
    (esa_cons (es_ixS (fun _ _ => ev_c (v := .str (S [97, 98, 32, 10]))) (by decide) (es_drawn rfl (es_of (fun _ _ => ev_c) rfl) (by decide) (by decide)))
      (esa_cons (es_ixS (fun _ _ => ev_var rfl) (by rw [every_len]; decide) (es_drawn rfl (es_of (fun _ _ => ev_lenS (ev_var rfl) (by rw [every_len]; decide)) rfl) (by rw [every_len]; decide) (by rw [every_len]; decide))) esa_nil)) ?_ (by decide) ?_) hs1 fun v H2 x2 s2 p => q v H2 ⟨rfl, p⟩ ((ExB.of e1).trans x2) s2
  · rintro us ⟨v1, us1, rfl, ⟨c1, hc1, rfl⟩, v2, us2, rfl, ⟨c2, hc2, rfl⟩, rfl⟩
    refine ⟨rfl, fun v hv => ?_⟩
    rcases List.mem_cons.mp hv with rfl | hv
    · refine ⟨c1, ?_, rfl⟩
      have := List.all_eq_true.mp (show [97, 98, 32, 10].all sgn = true by decide) c1 hc1
      exact this
    · rw [List.mem_singleton.mp hv]
      exact ⟨c2, List.all_eq_true.mp every_ok c2 hc2, rfl⟩
  · exact (es_fdiv (m := 4) (by decide) (by decide) (es_drawn rfl (es_of (fun _ _ => ev_c) rfl) (by decide) (by decide))).imp fun v ⟨k, hv, k0, k1⟩ => ⟨k / 3, hv, by omega, by omega⟩
def okP (m : Nat) : V → Prop := fun v => ∃ l, v = .str (S l) ∧ okT m l
def sp__law_put (K : PySem.W.Frag) : Sp := SpS K 2 fun us v => ∃ m : Nat, us = [.int (m : Int)] ∧ okP m v
def wordsL : List (List Nat) := [[97], [97, 98], [98], [97, 98, 97], [32], [10], [44], [97, 98, 99, 100, 101, 102, 103, 104], []]
theorem sc__law_put : FnScope ["_law_state", "_law_most", "_law_words", "_law_found", "_law_k"] ["_law_state", "_law_most"] (defScope (topS 30)) := ⟨rfl, rfl, rfl, by decide +kernel, rfl, by decide +kernel, by decide +kernel⟩
theorem ok__law_put {f : Addr} {fd : FuncData} (F : Fun K "_law_put" "_law_put" (topS 30) f fd) (m_range : mg "range" = none) (d__law_drawn : Df P w K mg base "_law_drawn" ["_law_state", "_law_many"] 1 (spDrawn K)) (d__law_sign : Df P w K mg base "_law_sign" ["_law_state"] 2 (sp__law_sign K)) : FnOk P w K mg base CX0 3 f fd ["_law_state", "_law_most"] (sp__law_put K) := by
  refine F.ok sc__law_put (fun vs H Q E h => by exact SpS.len h) (fun cdv A outer s H vs Q E hr h => ?_)
  obtain ⟨a, ns, us, rfl, hn, hs, ⟨v0, m, rfl, _⟩, q⟩ := h
  refine ⟨_, (pss_cons (ps_set (i := 2) sc__law_put.nd rfl (.inl rfl) (pe_lst (pa_cons pe_str (pa_cons pe_str (pa_cons pe_str (pa_cons pe_str (pa_cons pe_str (pa_cons pe_str (pa_cons pe_str (pa_cons pe_str (pa_cons pe_str pa_nil)))))))))))
      (pss_cons (ps_set (i := 3) sc__law_put.nd rfl (.inl rfl) pe_str)
      (pss_cons (ps_for PassesOwn.never rfl (pi_range1 (by rfl) m_range (pa_cons (d__law_drawn.pe (hr.mono (by decide)) (pa_cons (pv 0) (pa_cons (pe_ix (r := rIxL K) ix_list (pe_lst (pa_cons pe_int (pa_cons pe_int (pa_cons pe_int pa_nil)))) (d__law_drawn.pe (hr.mono (by decide)) (pa_cons (pv 0) (pa_cons pe_int pa_nil))) (fun _ _ => rfl)) pa_nil))) pa_nil)) (pg_name (i := 4) sc__law_put.nd rfl (.inl rfl))
        (pss_one (ps_set (i := 3) sc__law_put.nd rfl (.inl rfl) (pe_op op_add_str (pv 3) (pe_ix (r := rIxL K) ix_list (pe_lst (pa_cons (pe_ix (r := rIxL K) ix_list (pv 2) (d__law_drawn.pe (hr.mono (by decide)) (pa_cons (pv 0) (pa_cons pe_int pa_nil))) (fun _ _ => rfl)) (pa_cons (d__law_sign.pe (hr.mono (by decide)) (pa_cons (pv 0) pa_nil)) pa_nil))) (pe_op op_fdivW (d__law_drawn.pe (hr.mono (by decide)) (pa_cons (pv 0) (pa_cons pe_int pa_nil))) pe_int) (fun _ _ => rfl))))))
      (pss_one (ps_ret (pe_slice sl_str (pv 3) po_none (po_some (pv 1)))))))), ?_⟩
  refine q_asgL (xs := wordsL.map fun l => V.str (S l)) (el_lst (ea_cons ev_c (ea_cons ev_c (ea_cons ev_c (ea_cons ev_c (ea_cons ev_c (ea_cons ev_c (ea_cons ev_c (ea_cons ev_c (ea_cons ev_c ea_nil))))))))) (by simp [wordsL])) fun wl H1 hwl e1 hw1 => ?_
  refine q_asg (v := .str (S [])) ev_c fun H2 e2 => ?_
  have e12 := e1.trans e2
  have hs2 := hs.mono e12
  have hw2 := e2 _ _ hw1
  have hwa : wl ≠ a := fun z => by
    obtain ⟨_, _, _, _, h1, _⟩ := hs.ex
    rw [z, h1] at hwl
    cases hwl
  refine qs_forR (B := 30) (by decide) (ns := ns) (a := a) ((es_drawnP (P1 := fun v => v = .int 3 ∨ v = .int 8 ∨ v = .int 30) rfl (es_pick (n := 3) (PS := fun us => us = [.int 3, .int 8, .int 30]) ?_ ?_ (by decide) ((es_drawn (m := 3) rfl (es_of (fun _ _ => ev_c) rfl) (by decide) (by decide)))) ?_).imp ?_) hs2
    (fun i σ' H' => ∃ l y, σ' = [some (.ref a), some (.int (m : Int)), some (.ref wl), some (.str (S l)), y] ∧ l.length ≤ 8 * i ∧ i ≤ 1000 ∧ l.all sgn = true ∧ ExB a H H' ∧ StO K ns a H' ∧ H' wl = some (.lst (wordsL.map fun l => V.str (S l)))) ?_ ?_ ?_
  · exact fun H3 x3 s3 Q q => q _ H3 (ExB.refl _ _) s3 rfl
  · rintro us rfl
    refine ⟨rfl, fun v hv => ?_⟩
    rcases List.mem_cons.mp hv with rfl | hv
    · exact .inl rfl
    rcases List.mem_cons.mp hv with rfl | hv
    · exact .inr (.inl rfl)
    · exact .inr (.inr (List.mem_singleton.mp hv))
  · rintro v (rfl | rfl | rfl)
    · exact ⟨_, rfl, by decide, by decide⟩
    · exact ⟨_, rfl, by decide, by decide⟩
    · exact ⟨_, rfl, by decide, by decide⟩
  · rintro v ⟨k, m', rfl, k0, k1, hm⟩
    refine ⟨k, rfl, k0, ?_⟩
    have : m' ≤ 30 := by
      rcases hm with h | h | h <;> (injection h with h; omega)
    omega
  · exact fun H3 x3 s3 => ⟨[], none, rfl, by simp, by omega, rfl, (ExB.of e12).trans x3, s3, x3 _ _ hwa hw2⟩
  · rintro i σ' H' hi ⟨l, y, rfl, hl, hi2, ho, x, s, hw⟩
    refine ss_asg (P := fun v => ∃ l', v = .str (S l') ∧ l'.length ≤ 8 * (i + 1) ∧ l'.all sgn = true) (es_op (P1 := fun v => v = .str (S l)) (P2 := fun v => ∃ l, v = .str (S l) ∧ l.length ≤ 8 ∧ l.all sgn = true) (es_of (fun _ _ => ev_var rfl) rfl) (es_pick (n := 2) (PS := fun us => ∃ v us', us = v :: us' ∧ (∃ l, v = .str (S l) ∧ l.length ≤ 8 ∧ l.all sgn = true) ∧ ∃ v us, us' = v :: us ∧ (∃ us0, us0 = [] ∧ us0 = [] ∧ ∃ c, sgn c = true ∧ v = .str (S [c])) ∧ us = [])
      (esa_cons (es_ixL hw hwa (fun _ _ => ev_var rfl) ?_ (es_drawn rfl (es_of (fun _ _ => ev_c) rfl) (by decide) (by decide))) (esa_cons (es_call (PS := fun us => us = []) rfl esa_nil ?_) esa_nil)) ?_ (by decide) ?_) ?_) s fun v H3 x3 s3 p => ?_
    · intro v hv
      obtain ⟨l', hl', rfl⟩ := List.mem_map.mp hv
      refine ⟨l', rfl, ?_⟩
      have := List.all_eq_true.mp (show wordsL.all (fun l => decide (l.length ≤ 8) && l.all sgn) = true by decide) l' hl'
      rw [Bool.and_eq_true] at this
      exact ⟨of_decide_eq_true this.1, this.2⟩
    · rintro us rfl
      exact ⟨rfl, _, rfl, 32, by decide, rfl⟩
    · rintro us ⟨v1, us1, rfl, p1, v2, us2, rfl, ⟨us0, _, _, c, hc, rfl⟩, rfl⟩
      refine ⟨rfl, fun v hv => ?_⟩
      rcases List.mem_cons.mp hv with rfl | hv
      · exact p1
      · rw [List.mem_singleton.mp hv]
        exact ⟨[c], rfl, by simp, by simp [hc]⟩
    · exact (es_fdiv (m := 3) (by decide) (by decide) (es_drawn rfl (es_of (fun _ _ => ev_c) rfl) (by decide) (by decide))).imp fun v ⟨k, hv, k0, k1⟩ => ⟨k / 2, hv, by omega, by omega⟩
    · rintro x y rfl ⟨l', rfl, h8, h9⟩
      exact ⟨_, fun H => rv_addS (by omega), l ++ l', rfl, by rw [List.length_append]; omega, by rw [List.all_append, ho, h9]; rfl⟩
    · obtain ⟨l', rfl, h8, h9⟩ := p
      exact ⟨l', some (.int (i : Int)), rfl, h8, by omega, h9, x.trans x3, s3, x3 _ _ hwa hw⟩
  · rintro n σ' H' _ ⟨l, y, rfl, hl, hi2, ho, x, s, hw⟩
    refine s_ret (ev_to (n := m) (ev_var rfl) (ev_var rfl) (by omega)) fun H3 e3 => q _ H3 ⟨m, rfl, _, rfl, ?_, ?_⟩ (x.trans (.of e3)) (s.mono e3)
    · rw [List.length_take]; omega
    · exact List.all_eq_true.mpr fun c hc => List.all_eq_true.mp ho c (List.mem_of_mem_take hc)
theorem fold_rep {α : Type} (x : Array α) : ∀ (k : Nat) (acc : Array α), ((List.replicate k x).foldl (· ++ ·) acc).toList = acc.toList ++ (List.replicate k x.toList).flatten
  | 0, acc => by simp
  | k + 1, acc => by
    rw [List.replicate_succ, List.foldl_cons, fold_rep x k (acc ++ x), Array.toList_append, List.replicate_succ, List.flatten_cons, List.append_assoc]
theorem mul_S {l : List Nat} {n : Int} (h1 : 1 ≤ n) (h2 : n ≤ 100) (hl : l.length ≤ 1000) : MulOk (S l) n ∧ Txt.mul (S l) n = S (List.replicate n.toNat l).flatten := by
  refine ⟨⟨?_, fun _ _ => ?_, fun _ _ => ?_⟩, ?_⟩
  · rw [decide_eq_false (by omega), decide_eq_false (by omega)]; rfl
  · rw [S_len]
    have : (92233720368547758 : Int) ≤ (2 ^ 63 - 1) / n := by
      rw [Int.le_ediv_iff_mul_le (by omega)]
      omega
    omega
  · refine decide_eq_false fun z => ?_
    have h3 : l.length * n.toNat ≤ 1000 * 100 := Nat.mul_le_mul hl (by omega)
    rw [S_len] at z
    have h4 : 1000 * 100 ≤ sizeLine := by decide
    omega
  · unfold Txt.mul
    rw [if_neg (by omega)]
    by_cases hc : (n == 1 || (S l).length == 0) = true
    · rw [if_pos hc]
      rw [Bool.or_eq_true] at hc
      rcases hc with hc | hc
      · have : n = 1 := eq_of_beq hc
        subst this
        simp
      · have : l = [] := by
          have h := eq_of_beq hc
          rw [S_len] at h
          exact List.length_eq_zero_iff.mp h
        subst this
        simp
    · rw [if_neg hc]
      refine TL.ext_tl ?_
      show ((List.replicate n.toNat l.toArray).foldl (· ++ ·) #[]).toList = _
      rw [fold_rep]
      simp
theorem flat_len {l : List Nat} : ∀ (k : Nat), (List.replicate k l).flatten.length = k * l.length
  | 0 => by simp
  | k + 1 => by
    rw [List.replicate_succ, List.flatten_cons, List.length_append, flat_len k, Nat.succ_mul]
    omega
theorem flat_all {l : List Nat} (h : l.all sgn = true) : ∀ (k : Nat), (List.replicate k l).flatten.all sgn = true
  | 0 => rfl
  | k + 1 => by rw [List.replicate_succ, List.flatten_cons, List.all_append, h, flat_all h k]; rfl
def sp__law_sheet (K : PySem.W.Frag) : Sp := SpS K 1 fun us v => us = [] ∧ okP 200 v
theorem sc__law_sheet : FnScope ["_law_state"] ["_law_state"] (defScope (topS 31)) := ⟨rfl, rfl, rfl, by decide +kernel, rfl, by decide +kernel, by decide +kernel⟩
theorem ok__law_sheet {f : Addr} {fd : FuncData} (F : Fun K "_law_sheet" "_law_sheet" (topS 31) f fd) (d__law_put : Df P w K mg base "_law_put" ["_law_state", "_law_most"] 3 (sp__law_put K)) (d__law_drawn : Df P w K mg base "_law_drawn" ["_law_state", "_law_many"] 1 (spDrawn K)) : FnOk P w K mg base CX0 4 f fd ["_law_state"] (sp__law_sheet K) := by
  refine F.ok sc__law_sheet (fun vs H Q E h => by exact SpS.len h) (fun cdv A outer s H vs Q E hr h => ?_)
  obtain ⟨a, ns, us, rfl, hn, hs, ⟨v0, rfl, _⟩, q⟩ := h
  refine ⟨_, (pss_one (ps_ret (pe_slice sl_str (pe_op op_mulS (d__law_put.pe (hr.mono (by decide)) (pa_cons (pv 0) (pa_cons pe_int pa_nil))) (pe_op op_add pe_int (d__law_drawn.pe (hr.mono (by decide)) (pa_cons (pv 0) (pa_cons pe_int pa_nil))))) po_none (po_some (pe_ix (r := rIxL K) ix_list (pe_lst (pa_cons pe_int (pa_cons pe_int pa_nil))) (d__law_drawn.pe (hr.mono (by decide)) (pa_cons (pv 0) (pa_cons pe_int pa_nil))) (fun _ _ => rfl)))))), ?_⟩
  refine ss_ret (P := okP 200) (es_to (P1 := fun v => ∃ l, v = .str (S l) ∧ l.length ≤ 300 ∧ l.all sgn = true) (P2 := fun v => v = .int 200 ∨ v = .int 20)
    (es_op (P1 := fun v => ∃ us : List V, us = [V.int (60 : Nat)] ∧ ∃ m : Nat, us = [V.int (m : Int)] ∧ okP m v) (P2 := fun v => ∃ k, v = .int (1 + k) ∧ 0 ≤ k ∧ k < 5)
      (es_call (PS := fun us => us = [V.int (60 : Nat)]) rfl (fun H3 x3 s3 Q q => q _ H3 (ExB.refl _ _) s3 rfl) ?_)
      (es_op (P1 := fun v => v = .int 1) (P2 := fun v => ∃ k, v = .int k ∧ 0 ≤ k ∧ k < 5) (es_of (fun _ _ => ev_c) rfl) (es_drawn rfl (es_of (fun _ _ => ev_c) rfl) (by decide) (by decide)) ?_) ?_)
    (es_pick (n := 2) (PS := fun us => us = [.int 200, .int 20]) (fun H3 x3 s3 Q q => q _ H3 (ExB.refl _ _) s3 rfl) ?_ (by decide) (es_drawn (m := 2) rfl (es_of (fun _ _ => ev_c) rfl) (by decide) (by decide))) ?_) hs fun v H2 x2 s2 p => q v H2 ⟨rfl, p⟩ x2 s2
  · rintro us rfl
    exact ⟨rfl, .str (S []), 60, rfl, [], rfl, by simp, rfl⟩
  · rintro x y rfl ⟨k, rfl, k0, k1⟩
    exact ⟨.int (1 + k), fun H => rv_I0 (g := fun i j => V.int (i + j)), k, rfl, k0, k1⟩
  · rintro x y ⟨us, rfl, m, hm, l, rfl, hl, ho⟩ ⟨k, rfl, k0, k1⟩
    have hm : m = 60 := by
      injection hm with hm _
      injection hm with hm
      omega
    subst hm
    obtain ⟨m1, m2⟩ := mul_S (l := l) (n := 1 + k) (by omega) (by omega) (by omega)
    refine ⟨.str (S (List.replicate (1 + k).toNat l).flatten), fun H H1 _ Q q => ⟨S l, 1 + k, rfl, rfl, m1, by rw [m2]; exact q H1 (Ex.refl _)⟩, _, rfl, ?_, flat_all ho _⟩
    rw [flat_len]
    have : (1 + k).toNat * l.length ≤ 5 * 60 := Nat.mul_le_mul (by omega) hl
    omega
  · rintro us rfl
    refine ⟨rfl, fun v hv => ?_⟩
    rcases List.mem_cons.mp hv with rfl | hv
    · exact .inl rfl
    · exact .inr (List.mem_singleton.mp hv)
  · rintro x y ⟨l, rfl, hl, ho⟩ hy
    have : ∃ n : Nat, y = .int (n : Int) ∧ n ≤ 200 := by
      rcases hy with rfl | rfl
      · exact ⟨200, rfl, by decide⟩
      · exact ⟨20, rfl, by decide⟩
    obtain ⟨n, rfl, hn⟩ := this
    refine ⟨l, n, rfl, rfl, by omega, _, rfl, ?_, List.all_eq_true.mpr fun c hc => List.all_eq_true.mp ho c (List.mem_of_mem_take hc)⟩
    rw [List.length_take]
    omega
/-! ### _law_at -/
theorem ev_intB {σ : L2.St} {H : Hp} {ta : TE} {b : Bool} (h : Ev ta σ H (.bl b)) : Ev (tCB (fun xs H Q => (∃ i, xs = [.int i] ∧ Q (.int i) H) ∨ ∃ k, xs = [.bl k] ∧ Q (.int (if k then 1 else 0)) H) (tCons ta tNil)) σ H (.int (if b then 1 else 0)) := fun H1 e Q q =>
  h H1 e _ fun H2 e2 => .inr ⟨b, rfl, q H2 e2⟩
/-- [(r, c + 1), (r + 1, 0)][int(sign == '\n')] -/
theorem ed_step {σ : L2.St} {H : Hp} {tr tc ts : TE} {p : Nat × Nat} {c : Nat} (hr : Ev tr σ H (.int p.1)) (hc : Ev tc σ H (.int p.2)) (hs : Ev ts σ H (.str (S [c]))) :
    EvD (tOp (rIxL K) (tLst (tCons (tTup (tCons tr (tCons (tOp (rI0 fun i j => .int (i + j)) tc (tC (.int 1))) tNil))) (tCons (tTup (tCons (tOp (rI0 fun i j => .int (i + j)) tr (tC (.int 1))) (tCons (tC (.int 0)) tNil))) tNil)))
      (tCB (fun xs H Q => (∃ i, xs = [.int i] ∧ Q (.int i) H) ∨ ∃ k, xs = [.bl k] ∧ Q (.int (if k then 1 else 0)) H) (tCons (tOp rEq ts (tC (.str (Str.ofString "\n")))) tNil))) σ H (pl (stp p c)) := by
  refine ed_ixL (ds := [.tup [.int p.1, .int (p.2 + 1)], .tup [.int (p.1 + 1), .int 0]]) (ed_lst (eda_cons (ed_tup (eda_cons (ed_i hr) (eda_cons (ed_i (ev_op hc ev_c rv_I0)) eda_nil))) (eda_cons (ed_tup (eda_cons (ed_i (ev_op hr ev_c rv_I0)) (eda_cons (ed_i ev_c) eda_nil))) eda_nil))) (ev_intB (ev_op hs (ev_c (v := .str (S [10]))) rv_eqS)) ?_
  by_cases h : c = 10
  · subst h
    rw [decide_eq_true rfl]
    show some (D.tup [.int ((p.1 : Int) + 1), .int 0]) = _
    unfold stp pl
    rw [if_pos rfl]
    rfl
  · rw [decide_eq_false (fun z => h (by injection z))]
    show some (D.tup [.int (p.1 : Int), .int ((p.2 : Int) + 1)]) = _
    unfold stp pl
    rw [if_neg h]
    rfl
def sp__law_at : Sp := SpR 2 fun ds d => ∃ s n, ds = [.str s, .int (n : Nat)] ∧ s.length ≤ 40000 ∧ d = pl (pos s n)
theorem sc__law_at : FnScope ["_law_sheet_here", "_law_number", "_law_row", "_law_column", "_law_sign_here"] ["_law_sheet_here", "_law_number"] (defScope (topS 32)) := ⟨rfl, rfl, rfl, by decide +kernel, rfl, by decide +kernel, by decide +kernel⟩
theorem ok__law_at {f : Addr} {fd : FuncData} (F : Fun K "_law_at" "_law_at" (topS 32) f fd) (m_int : mg "int" = none) : FnOk P w K mg base CX0 1 f fd ["_law_sheet_here", "_law_number"] sp__law_at := by
  refine F.ok sc__law_at (fun vs H Q E h => by exact SpR.len h) (fun cdv A outer s H vs Q E hr h => ?_)
  obtain ⟨ds, d, hl, rs, ⟨l, n, rfl, hz, rfl⟩, q⟩ := h
  obtain ⟨v, r, rfl, h1, h2⟩ := rps_cons.mp rs
  obtain ⟨v2, r2, rfl, h3, h4⟩ := rps_cons.mp h2
  rw [rps_nil.mp h4, rp_str.mp h1, rp_int.mp h3]
  refine ⟨_, (pss_cons (ps_asg (pe_tup (pa_cons pe_int (pa_cons pe_int pa_nil))) (pg_tup rfl (pgs_cons (pg_name (i := 2) sc__law_at.nd rfl (.inl rfl)) (pgs_cons (pg_name (i := 3) sc__law_at.nd rfl (.inl rfl)) pgs_nil))))
      (pss_cons (ps_for PassesOwn.never rfl (pi_str (pe_slice sl_str (pv 0) po_none (po_some (pv 1)))) (pg_name (i := 4) sc__law_at.nd rfl (.inl rfl))
        (pss_one (ps_asg (pe_ix (r := rIxL K) ix_list (pe_lst (pa_cons (pe_tup (pa_cons (pv 2) (pa_cons (pe_op op_add (pv 3) pe_int) pa_nil))) (pa_cons (pe_tup (pa_cons (pe_op op_add (pv 2) pe_int) (pa_cons pe_int pa_nil))) pa_nil))) (pe_callTy call_int1 (by rfl) m_int (by decide +kernel) (pa_cons (pe_cmpR op_eq (pv 4) pe_str (nomark _)) pa_nil)) (fun _ _ => rfl)) (pg_tup rfl (pgs_cons (pg_name (i := 2) sc__law_at.nd rfl (.inl rfl)) (pgs_cons (pg_name (i := 3) sc__law_at.nd rfl (.inl rfl)) pgs_nil))))))
      (pss_one (ps_ret (pe_tup (pa_cons (pv 2) (pa_cons (pv 3) pa_nil))))))), ?_⟩
  refine qd_un2 (ed_tup (eda_cons (ed_i ev_c) (eda_cons (ed_i ev_c) eda_nil))) fun u1 u2 H0 e0 a1 a2 => ?_
  rw [rp_int.mp a1, rp_int.mp a2]
  refine q_forS (l := l.take n) (ev_to (ev_var rfl) (ev_var rfl) (by omega)) (fun i σ' H' => ∃ y, σ' = [some (.str (S l)), some (.int (n : Nat)), some (.int (pos (l.take n) i).1), some (.int (pos (l.take n) i).2), y] ∧ Ex H H') (fun H1 e1 => ⟨none, rfl, e0.trans e1⟩) ?_ ?_
  · rintro i c σ' H' hc ⟨y, rfl, p⟩
    refine sd_un2 (d1 := .int (pos (l.take n) (i + 1)).1) (d2 := .int (pos (l.take n) (i + 1)).2) ?_ fun v1 v2 H1 e1 r1 r2 => ⟨some (.str (S [c])), ?_, p.trans e1⟩
    · rw [pos_succ hc]
      exact ed_step (p := pos (l.take n) i) (ev_var rfl) (ev_var rfl) (ev_var rfl)
    · rw [rp_int.mp r1, rp_int.mp r2]
      rfl
  · rintro σ' H' ⟨y, rfl, p⟩
    have e : pos (l.take n) (l.take n).length = pos l n := by
      unfold pos
      rw [List.take_of_length_le (Nat.le_refl _)]
    rw [e]
    exact sd_ret (ed_tup (eda_cons (ed_i (ev_var rfl)) (eda_cons (ed_i (ev_var rfl)) eda_nil))) fun v H2 e2 r2 => q v H2 (p.trans e2) r2
end
end HW

set_option Elab.async false
set_option linter.all false
set_option maxRecDepth 100000
namespace HW
open PySem PySem.Spec PyProof.Rows L2 Evl SX
section
variable {P : Program} {w : World} {K : PySem.W.Frag} {mg : Str → Option Value} {base : Heap}
/-! ### _law_numbers -/
def nkey (p : Nat × Nat) : List Key := [.inl p.1, .inl p.2]
def ent (s : List Nat) (n : Nat) : List Key × V := (nkey (pos s n), .int n)
def nums (s : List Nat) (i : Nat) : List (List Key × V) := (List.range (i + 1)).map (ent s)
theorem nkey_inj {p q : Nat × Nat} (h : nkey p = nkey q) : p = q := by
  unfold nkey at h
  injection h with h1 h2
  injection h2 with h2 _
  have a1 := Sum.inl.inj h1
  have a2 := Sum.inl.inj h2
  exact Prod.ext (by omega) (by omega)
theorem nums_val {s : List Nat} {n : Nat} (hn : n ≤ s.length) : ∀ (xs : List Nat), (∀ x ∈ xs, x ≤ s.length) → valV (xs.map (ent s)) (nkey (pos s n)) = if n ∈ xs then some (.int n) else none
  | [], _ => by simp [valV]
  | x :: xs, h => by
    rw [List.map_cons]
    by_cases e : x = n
    · subst e
      rw [valV_pos (p := ent s x) (k := nkey (pos s x)) rfl, if_pos List.mem_cons_self]
      rfl
    · have ne : ¬ (ent s x).1 = nkey (pos s n) := fun z => e (pos_inj (h x List.mem_cons_self) hn (nkey_inj z))
      rw [valV_neg ne, nums_val hn xs fun y hy => h y (List.mem_cons_of_mem _ hy)]
      by_cases hm : n ∈ xs
      · rw [if_pos hm, if_pos (List.mem_cons_of_mem _ hm)]
      · rw [if_neg hm, if_neg fun z => (List.mem_cons.mp z).elim (fun z => e z.symm) hm]
theorem nums_get {s : List Nat} {n : Nat} (hn : n ≤ s.length) : valV (nums s s.length) (nkey (pos s n)) = some (.int n) := by
  unfold nums
  rw [nums_val hn _ (fun x hx => by have := List.mem_range.mp hx; omega), if_pos (List.mem_range.mpr (by omega))]
theorem nums_put {s : List Nat} {i : Nat} (hi : i < s.length) : putK (nums s i) (nkey (pos s (i + 1))) (.int ((i + 1 : Nat) : Int)) = nums s (i + 1) := by
  rw [putK_new]
  · unfold nums
    rw [List.range_succ (n := i + 1), List.map_append]
    rfl
  · unfold nums
    rw [nums_val (by omega) _ (fun x hx => by have := List.mem_range.mp hx; omega), if_neg (fun z => by have := List.mem_range.mp z; omega)]
def sp__law_numbers : Sp := fun vs H Q _ => ∃ s, vs = [.str (S s)] ∧ s.length ≤ 1000 ∧ ∀ p H', H p = none → Ex H H' → H' p = some (.dT (nums s s.length)) → Q (.ref p) H'
theorem sc__law_numbers : FnScope ["_law_sheet_here", "_law_found", "_law_row", "_law_column", "_law_number", "_law_sign_here"] ["_law_sheet_here"] (defScope (topS 33)) := ⟨rfl, rfl, rfl, by decide +kernel, rfl, by decide +kernel, by decide +kernel⟩
theorem ok__law_numbers {f : Addr} {fd : FuncData} (F : Fun K "_law_numbers" "_law_numbers" (topS 33) f fd) (m_enumerate : mg "enumerate" = none) (m_int : mg "int" = none) : FnOk P w K mg base CX0 1 f fd ["_law_sheet_here"] (sp__law_numbers) := by
  refine F.ok sc__law_numbers (fun vs H Q E h => by obtain ⟨s, rfl, _⟩ := h; rfl) (fun cdv A outer s H vs Q E hr h => ?_)
  obtain ⟨l, rfl, hl, q⟩ := h
  refine ⟨_, (pss_cons (ps_par3 (i := 1) (j := 2) (l := 3) rfl sc__law_numbers.nd rfl rfl rfl (by decide) (by decide) (by decide) rfl rfl rfl (pa_cons (pe_dispT1 (hu_of hr) (pe_tup (pa_cons pe_int (pa_cons pe_int pa_nil))) pe_int) (pa_cons pe_int (pa_cons pe_int pa_nil))) (by rfl))
      (pss_cons (ps_for PassesOwn.never rfl (pi_enumS (by rfl) m_enumerate (pa_cons (pv 0) pa_nil)) (pg_tup rfl (pgs_cons (pg_name (i := 4) sc__law_numbers.nd rfl (.inl rfl)) (pgs_cons (pg_name (i := 5) sc__law_numbers.nd rfl (.inl rfl)) pgs_nil)))
        (pss_cons (ps_asg (pe_ix (r := rIxL K) ix_list (pe_lst (pa_cons (pe_tup (pa_cons (pv 2) (pa_cons (pe_op op_add (pv 3) pe_int) pa_nil))) (pa_cons (pe_tup (pa_cons (pe_op op_add (pv 2) pe_int) (pa_cons pe_int pa_nil))) pa_nil))) (pe_callTy call_int1 (by rfl) m_int (by decide +kernel) (pa_cons (pe_cmpR op_eq (pv 5) pe_str (nomark _)) pa_nil)) (fun _ _ => rfl)) (pg_tup rfl (pgs_cons (pg_name (i := 2) sc__law_numbers.nd rfl (.inl rfl)) (pgs_cons (pg_name (i := 3) sc__law_numbers.nd rfl (.inl rfl)) pgs_nil))))
      (pss_one (ps_dput (hu_of hr) (pv 1) (pe_tup (pa_cons (pv 2) (pa_cons (pv 3) pa_nil))) (pe_op op_add (pv 4) pe_int) rfl))))
      (pss_one (ps_ret (pv 1))))), ?_⟩
  refine fun p hp => ?_
  refine ⟨by show 2 ≤ sizeLine; decide, fun b hb => ?_⟩
  have hbp : b ≠ p := fun z => by rw [z, upd_same] at hb; cases hb
  have eb : Ex H (upd (upd H p (.dT [])) b (.tup [.int 0, .int 0])) := (Ex.new hp).trans (Ex.new hb)
  refine ⟨b, nkey (0, 0), rfl, upd_same, by rw [upd_ne hbp.symm, upd_same], ?_⟩
  refine ⟨_, _, _, rfl, ?_⟩
  refine q_forES (l := l) (ev_var rfl) (fun i σ' H' => ∃ y4 y5, σ' = [some (.str (S l)), some (.ref p), some (.int (pos l i).1), some (.int (pos l i).2), y4, y5] ∧ Ex H H' ∧ H' p = some (.dT (nums l i))) (fun H1 e1 => ⟨none, none, rfl, (eb.mut hp).trans e1, e1 _ _ upd_same⟩) ?_ ?_
  · rintro i c σ' H' T hc ⟨y4, y5, rfl, x, hd⟩ hT
    have hi : i < l.length := (List.getElem?_eq_some_iff.mp hc).1
    refine qd_un2 (d1 := .int (pos l (i + 1)).1) (d2 := .int (pos l (i + 1)).2) ?_ fun v1 v2 H1 e1 r1 r2 => ?_
    · rw [pos_succ hc]
      exact ed_step (p := pos l i) (ev_var rfl) (ev_var rfl) (ev_var rfl)
    · rw [rp_int.mp r1, rp_int.mp r2]
      have hd1 : H1 p = some (.dT (nums l i)) := e1 _ _ (Ex.new hT _ _ hd)
      refine ev_op (ev_var rfl) ev_c rv_I0 H1 (Ex.refl _) _ fun H2 e2 => ⟨_, rfl, ?_⟩
      refine ed_tup (eda_cons (ed_i (i := (pos l (i + 1)).1) (ev_var rfl)) (eda_cons (ed_i (i := (pos l (i + 1)).2) (ev_var rfl)) eda_nil)) (by simp) H2 (Ex.refl _) _ fun v H3 e3 r3 => ?_
      obtain ⟨b3, vs3, rfl, g1, g2⟩ := rp_tup.mp r3
      obtain ⟨a1, t1, rfl, a2, g2⟩ := rps_cons.mp g2
      obtain ⟨a3, t3, rfl, a4, g2⟩ := rps_cons.mp g2
      rw [rps_nil.mp g2, rp_int.mp a2, rp_int.mp a4] at g1
      have hd3 : H3 p = some (.dT (nums l i)) := e3 _ _ (e2 _ _ hd1)
      refine ⟨p, _, rfl, DPut.t (k := nkey (pos l (i + 1))) hd3 g1 ?_, ?_⟩
      · unfold nums
        rw [List.length_map, List.length_range]
        exact sz_lt (by omega)
      · have e5 : ((i : Nat) : Int) + 1 = ((i + 1 : Nat) : Int) := by omega
        rw [e5, nums_put hi]
        exact ⟨_, _, rfl, (x.trans ((Ex.new hT).trans (e1.trans (e2.trans e3)))).mut hp, upd_same⟩
  · rintro σ' H' ⟨y4, y5, rfl, x, hd⟩
    exact s_ret (ev_var rfl) fun H1 e1 => q p H1 hp (x.trans e1) (e1 _ _ hd)
theorem ev_dgT {σ : L2.St} {H : Hp} {td tk : TE} {p : Addr} {kvs : List (List Key × V)} {r : Nat × Nat} {v : V} (h : Ev td σ H (.ref p)) (hd : H p = some (.dT kvs)) (hk : EvD tk σ H (pl r)) (hv : valV kvs (nkey r) = some v) : Ev (tDGet td tk) σ H v := fun H1 e Q q =>
  h H1 e _ fun H2 e2 => hk H2 (e.trans e2) _ fun u H3 e3 r3 => by
    obtain ⟨b3, vs3, rfl, g1, g2⟩ := rp_tup.mp r3
    obtain ⟨a1, t1, rfl, a2, g2⟩ := rps_cons.mp g2
    obtain ⟨a3, t3, rfl, a4, g2⟩ := rps_cons.mp g2
    rw [rps_nil.mp g2, rp_int.mp a2, rp_int.mp a4] at g1
    have := DGet.t (k := nkey r) (((e.trans e2).trans e3) _ _ hd) g1
    rw [hv] at this
    exact ⟨p, v, rfl, this, q H3 (e2.trans e3)⟩
theorem eq_numbers {σ : L2.St} {H : Hp} {ta : TE} {E : XK} {l : List Nat} {D' : Ends} {tz : TS} {i : Nat} (h : Ev ta σ H (.str (S l))) (hl : l.length ≤ 1000) (k : ∀ p H1, H p = none → Ex H H1 → H1 p = some (.dT (nums l l.length)) → tz D' (σ.set i (some (.ref p))) H1) :
    tSeq (tAsg (tCall sp__law_numbers [] E (tCons ta tNil)) (gName i)) tz D' σ H := h H (Ex.refl _) _ fun H1 e1 => ⟨l, rfl, hl, fun p H2 hp e2 h2 => k p H2 (fresh_back e1 hp) (e1.trans e2) h2⟩
def sp__law_after : Sp := SpR 2 fun ds d => ∃ s e, ds = [.str s, edD s e] ∧ s.length ≤ 1000 ∧ e.a ≤ s.length ∧ e.b ≤ s.length ∧ e.q.length ≤ 1000 ∧ d = .str (e.on s)
theorem sc__law_after : FnScope ["_law_sheet_here", "_law_one", "_law_known", "_law_start_here", "_law_end"] ["_law_sheet_here", "_law_one"] (defScope (topS 35)) := ⟨rfl, rfl, rfl, by decide +kernel, rfl, by decide +kernel, by decide +kernel⟩
theorem ok__law_after {f : Addr} {fd : FuncData} (F : Fun K "_law_after" "_law_after" (topS 35) f fd) (d__law_numbers : Df P w K mg base "_law_numbers" ["_law_sheet_here"] 1 (sp__law_numbers)) : FnOk P w K mg base CX0 2 f fd ["_law_sheet_here", "_law_one"] sp__law_after := by
  refine F.ok sc__law_after (fun vs H Q E h => by exact SpR.len h) (fun cdv A outer s H vs Q E hr h => ?_)
  obtain ⟨ds, d, hl, rs, ⟨l, e, rfl, hs, ha, hb, hq, rfl⟩, q⟩ := h
  obtain ⟨v, r, rfl, h1, h2⟩ := rps_cons.mp rs
  obtain ⟨v2, r2, rfl, h3, h4⟩ := rps_cons.mp h2
  rw [rps_nil.mp h4, rp_str.mp h1]
  refine ⟨_, (pss_cons (ps_set (i := 2) sc__law_after.nd rfl (.inl rfl) (d__law_numbers.pe (hr.mono (by decide)) (pa_cons (pv 0) pa_nil)))
      (pss_cons (ps_par (i := 3) (j := 4) rfl sc__law_after.nd rfl rfl (by decide) rfl rfl (pa_cons (pe_dget (hu_of hr) (pv 2) (pe_ix (r := rIxT K) ix_tup (pv 1) pe_int (fun _ _ => rfl)) (fun _ _ => rfl)) (pa_cons (pe_dget (hu_of hr) (pv 2) (pe_ix (r := rIxT K) ix_tup (pv 1) pe_int (fun _ _ => rfl)) (fun _ _ => rfl)) pa_nil)) (by rfl))
      (pss_one (ps_ret (pe_op op_add_str (pe_op op_add_str (pe_slice sl_str (pv 0) po_none (po_some (pv 3))) (pe_ix (r := rIxT K) ix_tup (pv 1) pe_int (fun _ _ => rfl))) (pe_slice sl_str (pv 0) (po_some (pv 4)) po_none)))))), ?_⟩
  refine eq_numbers (ev_var rfl) hs fun p H1 hp e1 hd => ?_
  have h3' := h3.ex e1
  refine q_par (ev_dgT (ev_var rfl) hd (ed_ixT (ed_var rfl h3') ev_c rfl) (nums_get ha)) (ev_dgT (ev_var rfl) hd (ed_ixT (ed_var rfl h3') ev_c rfl) (nums_get hb)) fun H2 e2 => ?_
  refine sd_ret (ed_s (ev_op (ev_op (ev_to (ev_var rfl) (ev_var rfl) (by omega)) (EvD.s (ed_ixT (ed_var rfl (h3'.ex e2)) ev_c rfl)) (rv_addS ?_)) (ev_from (ev_var rfl) (ev_var rfl) (by omega)) (rv_addS ?_))) fun v H3 e3 r3 => q v H3 ((e1.trans e2).trans e3) r3
  · rw [List.length_take]; omega
  · rw [List.length_append, List.length_take, List.length_drop]; omega
end
end HW

set_option Elab.async false
set_option linter.all false
set_option maxRecDepth 100000
namespace HW
open PySem PySem.Spec PyProof.Rows L2 Evl SX
section
variable {P : Program} {w : World} {K : PySem.W.Frag} {mg : Str → Option Value} {base : Heap}
def sp__law_edit (K : PySem.W.Frag) : Sp := fun vs H Q _ => ∃ a s ns, vs = [.ref a, .str (S s)] ∧ okT 200 s ∧ StO K ns a H ∧ ∀ (e : Ed) v H', e.can s → Rp H' (edD s e) v → ExB a H H' → StO K ns a H' → Q v H'
theorem sc__law_edit : FnScope ["_law_state", "_law_sheet_here", "_law_some", "_law_put_here"] ["_law_state", "_law_sheet_here"] (defScope (topS 34)) := ⟨rfl, rfl, rfl, by decide +kernel, rfl, by decide +kernel, by decide +kernel⟩
theorem ok__law_edit {f : Addr} {fd : FuncData} (F : Fun K "_law_edit" "_law_edit" (topS 34) f fd) (m_len : mg "len" = none) (m_sorted : mg "sorted" = none) (m_min : mg "min" = none) (d__law_drawn : Df P w K mg base "_law_drawn" ["_law_state", "_law_many"] 1 (spDrawn K)) (d__law_put : Df P w K mg base "_law_put" ["_law_state", "_law_most"] 3 (sp__law_put K)) (d__law_at : Df P w K mg base "_law_at" ["_law_sheet_here", "_law_number"] 1 sp__law_at) : FnOk P w K mg base CX0 4 f fd ["_law_state", "_law_sheet_here"] (sp__law_edit K) := by
  refine F.ok sc__law_edit (fun vs H Q E h => by obtain ⟨a, s, ns, rfl, _⟩ := h; rfl) (fun cdv A outer s H vs Q E hr h => ?_)
  obtain ⟨a, l, ns, rfl, ⟨hl, ho⟩, hs, q⟩ := h
  refine ⟨_, (pss_cons (ps_set (i := 2) sc__law_edit.nd rfl (.inl rfl) (pe_callB cr_sorted (by rfl) m_sorted (by decide +kernel) (pa_cons (pe_lst (pa_cons (d__law_drawn.pe (hr.mono (by decide)) (pa_cons (pv 0) (pa_cons (pe_op op_add (pe_callB call_len_str (by rfl) m_len PySem.boot_len (pa_cons (pv 1) pa_nil)) pe_int) pa_nil))) (pa_cons (d__law_drawn.pe (hr.mono (by decide)) (pa_cons (pv 0) (pa_cons (pe_op op_add (pe_callB call_len_str (by rfl) m_len PySem.boot_len (pa_cons (pv 1) pa_nil)) pe_int) pa_nil))) pa_nil))) pa_nil)))
      (pss_cons (ps_if (pt_cmpR op_gt (d__law_drawn.pe (hr.mono (by decide)) (pa_cons (pv 0) (pa_cons pe_int pa_nil))) pe_int (nomark _))
        (pss_one (ps_asg (pe_callB (call_min2 rfl) (by rfl) m_min (by decide +kernel) (pa_cons (pe_callB call_len_str (by rfl) m_len PySem.boot_len (pa_cons (pv 1) pa_nil)) (pa_cons (pe_op op_add (pe_ix (r := rIxL K) ix_list (pv 2) pe_int (fun _ _ => rfl)) (d__law_drawn.pe (hr.mono (by decide)) (pa_cons (pv 0) (pa_cons pe_int pa_nil)))) pa_nil))) (pg_sub (pv 2) pe_int set_list)))
        pss_nil)
      (pss_cons (ps_set (i := 3) sc__law_edit.nd rfl (.inl rfl) (d__law_put.pe (hr.mono (by decide)) (pa_cons (pv 0) (pa_cons (pe_callB (call_min2 rfl) (by rfl) m_min (by decide +kernel) (pa_cons pe_int (pa_cons (pe_op op_sub (pe_op op_add (pe_op op_sub pe_int (pe_callB call_len_str (by rfl) m_len PySem.boot_len (pa_cons (pv 1) pa_nil))) (pe_ix (r := rIxL K) ix_list (pv 2) pe_int (fun _ _ => rfl))) (pe_ix (r := rIxL K) ix_list (pv 2) pe_int (fun _ _ => rfl))) pa_nil))) pa_nil))))
      (pss_one (ps_ret (pe_tup (pa_cons (d__law_at.pe (hr.mono (by decide)) (pa_cons (pv 1) (pa_cons (pe_ix (r := rIxL K) ix_list (pv 2) pe_int (fun _ _ => rfl)) pa_nil))) (pa_cons (d__law_at.pe (hr.mono (by decide)) (pa_cons (pv 1) (pa_cons (pe_ix (r := rIxL K) ix_list (pv 2) pe_int (fun _ _ => rfl)) pa_nil))) (pa_cons (pv 3) pa_nil))))))))), ?_⟩
  have hlen : ∀ {H1 σ}, σ[1]? = some (some (.str (S l))) → Ev (tOp (rI0 fun i j => .int (i + j)) (tCB (fun xs H Q => ∃ z, xs = [.str z] ∧ z.length ≤ sizeLine ∧ Q (.int z.length) H) (tCons (tVar 1) tNil)) (tC (.int 1))) σ H1 (.int ((l.length : Int) + 1)) := fun h => ev_op (ev_lenS (ev_var h) (by omega)) ev_c rv_I0
  refine qs_sort2 (m := (l.length : Int) + 1) (es_drawn rfl (es_of (fun _ _ => hlen rfl) rfl) (by omega) (by omega)) (es_drawn rfl (es_of (fun _ _ => hlen rfl) rfl) (by omega) (by omega)) hs fun u v p H2 u0 huv hvl hpn hpa x2 s2 hp2 => ?_
  have mutp : ∀ {H3 : Hp} {o : HO}, ExB a H H3 → ExB a H (upd H3 p o) := fun x b o n hb => by
    rw [upd_ne (ne_of_none hb hpn)]
    exact x b o n hb
  have cont : ∀ (u v : Int) H3, 0 ≤ u → u ≤ v → v ≤ (l.length : Int) → H3 p = some (.lst [.int u, .int v]) → ExB a H H3 → StO K ns a H3 →
      tSeq (tAsg (tCall (sp__law_put K) [] E0 (tCons (tVar 0) (tCons (tCB (fun xs H Q => ∃ i j, xs = [.int i, .int j] ∧ Q (.int (if j < i then j else i)) H) (tCons (tC (.int 40)) (tCons (tOp (rI0 fun i j => .int (i - j)) (tOp (rI0 fun i j => .int (i + j)) (tOp (rI0 fun i j => .int (i - j)) (tC (.int 200)) (tCB (fun xs H Q => ∃ z, xs = [.str z] ∧ z.length ≤ sizeLine ∧ Q (.int z.length) H) (tCons (tVar 1) tNil))) (tOp (rIxL K) (tVar 2) (tC (.int 1)))) (tOp (rIxL K) (tVar 2) (tC (.int 0)))) tNil))) tNil))) (gName 3))
        (tRet (tTup (tCons (tCall sp__law_at [] E0 (tCons (tVar 1) (tCons (tOp (rIxL K) (tVar 2) (tC (.int 0))) tNil))) (tCons (tCall sp__law_at [] E0 (tCons (tVar 1) (tCons (tOp (rIxL K) (tVar 2) (tC (.int 1))) tNil))) (tCons (tVar 3) tNil)))))
        { nx := fun _ H' => Q .non H', rt := Q } [some (.ref a), some (.str (S l)), some (.ref p), none] H3 := by
    intro u v H3 u0 huv hvl hp3 x3 s3
    have ix : ∀ {H' : Hp} {σ : L2.St} {j : Nat} {z : V}, H' p = some (.lst [.int u, .int v]) → σ[2]? = some (some (.ref p)) → [V.int u, V.int v][j]? = some z → Ev (tOp (rIxL K) (tVar 2) (tC (.int (j : Int)))) σ H' z := fun h1 h2 h3 => ev_op (ev_var h2) ev_c (rv_ixL (sq_of h1) (atI_nat h3))
    refine qs_asg (P := fun z => ∃ us, us = [V.int ((min 40 (200 - l.length + (v - u).toNat) : Nat) : Int)] ∧ ∃ m : Nat, us = [V.int (m : Int)] ∧ okP m z) (es_call (PS := fun us => us = [V.int ((min 40 (200 - l.length + (v - u).toNat) : Nat) : Int)]) rfl ?_ ?_) s3 fun z H4 x4 s4 pz => ?_
    · intro H4 x4 s4 Q' q'
      have hp4 := x4 p _ hpa hp3
      refine ev_is (ev_min2 ev_c (ev_op (ev_op (ev_op ev_c (ev_lenS (ev_var rfl) (by omega)) rv_I0) (ix (j := 1) hp4 rfl rfl) rv_I0) (ix (j := 0) hp4 rfl rfl) rv_I0)) ?_ H4 (Ex.refl _) _ fun H5 e5 => q' _ H5 (.of e5) (s4.mono e5) rfl
      show V.int (min 40 (200 - (l.length : Int) + v - u)) = _
      congr 1
      omega
    · rintro us rfl
      exact ⟨rfl, .str (S []), _, rfl, [], rfl, Nat.zero_le _, rfl⟩
    · obtain ⟨us, rfl, m, hm, q', rfl, hq, hqo⟩ := pz
      have hm : (min 40 (200 - l.length + (v - u).toNat) : Nat) = m := by
        injection hm with hm _
        injection hm with hm
        omega
      have hp4 := x4 p _ hpa hp3
      have eu : ((u.toNat : Nat) : Int) = u := Int.toNat_of_nonneg u0
      have ev : ((v.toNat : Nat) : Int) = v := Int.toNat_of_nonneg (by omega)
      refine sd_ret (d := edD l ⟨u.toNat, v.toNat, q'⟩) (ed_tup (eda_cons (ed_call (eda_cons (ed_s (ev_var rfl)) (eda_cons (ed_i (ix (j := 0) hp4 rfl rfl)) eda_nil)) ⟨l, u.toNat, by rw [eu], by omega, rfl⟩) (eda_cons (ed_call (eda_cons (ed_s (ev_var rfl)) (eda_cons (ed_i (ix (j := 1) hp4 rfl rfl)) eda_nil)) ⟨l, v.toNat, by rw [ev], by omega, rfl⟩) (eda_cons (ed_s (ev_var rfl)) eda_nil)))) fun z H5 e5 r5 => q ⟨u.toNat, v.toNat, q'⟩ z H5 ⟨?_, ?_, ⟨?_, hqo⟩, ?_⟩ r5 ((x3.trans x4).trans (.of e5)) (s4.mono e5)
      · show u.toNat ≤ v.toNat; omega
      · show v.toNat ≤ l.length; omega
      · show q'.length ≤ 40; omega
      · show (put l u.toNat v.toNat q').length ≤ 200
        rw [put_len (by omega) (by omega)]
        omega
  have ix0 : ∀ {H' : Hp} {σ : L2.St}, H' p = some (.lst [.int u, .int v]) → σ[2]? = some (some (.ref p)) → Ev (tOp (rIxL K) (tVar 2) (tC (.int 0))) σ H' (.int u) := fun h1 h2 => ev_op (ev_var h2) ev_c (rv_ixL (sq_of h1) (atI_nat (j := 0) rfl))
  refine qs_if (es_op (es_drawn rfl (es_of (fun _ _ => ev_c) rfl) (by decide) (by decide)) (es_of (P := fun v => v = .int 0) (fun _ _ => ev_c) rfl) ?_) s2 (fun H3 x3 s3 => ?_) fun H3 x3 s3 => cont u v H3 u0 huv (by omega) (x3 p _ hpa hp2) (x2.trans x3) s3
  · rintro x y ⟨k, rfl, _, _⟩ rfl
    exact ⟨_, fun H => rv_I0 (g := fun i j => V.bl (decide (j < i))), _, rfl⟩
  · have hp3 := x3 p _ hpa hp2
    refine ss_setL (j := 1) hp3 hpa (P := fun z => ∃ k, z = .int k ∧ u ≤ k ∧ k ≤ (l.length : Int)) (es_cb2 (P1 := fun v => v = .int (l.length : Int)) (P2 := fun v => ∃ k, v = .int (u + k) ∧ 0 ≤ k ∧ k < 4) (es_of (fun _ _ => ev_lenS (ev_var rfl) (by omega)) rfl) (es_op (P1 := fun v => v = .int u) (es_of (fun H4 x4 => ix0 (x4 p _ hpa hp3) rfl) rfl) (es_drawn rfl (es_of (fun _ _ => ev_c) rfl) (by decide) (by decide)) ?_) ?_) (fun _ _ => ev_var rfl) (fun _ _ => ev_c) (by simp) s3 fun z H4 x4 s4 pz hp4 => ?_
    · rintro x y rfl ⟨k, rfl, k0, k1⟩
      exact ⟨_, fun H => rv_I0 (g := fun i j => V.int (i + j)), k, rfl, k0, k1⟩
    · rintro x y rfl ⟨k, rfl, k0, k1⟩
      refine ⟨.int (if u + k < (l.length : Int) then u + k else (l.length : Int)), ⟨_, rfl, ?_, ?_⟩, fun H Q q => ⟨_, _, rfl, q⟩⟩
      · split <;> omega
      · split <;> omega
    · obtain ⟨k, rfl, k0, k1⟩ := pz
      exact cont u k _ u0 k0 k1 upd_same (mutp ((x2.trans x3).trans x4)) (s4.upd hp4 hpa)
end
end HW

set_option Elab.async false
set_option linter.all false
set_option maxRecDepth 100000
namespace HW
open PySem PySem.Spec PyProof.Rows L2 Evl SX
section
variable {P : Program} {w : World} {K : PySem.W.Frag} {mg : Str → Option Value} {base : Heap}
theorem st_snoc : ∀ (s : List Nat) (es : List Ed) (e : Ed), st s (es ++ [e]) = st s es ++ [(fin s es, e)]
  | _, [], _ => rfl
  | s, e :: es, e' => by
    rw [List.cons_append, st, st, fin, st_snoc]
    rfl
theorem fin_snoc : ∀ (s : List Nat) (es : List Ed) (e : Ed), fin s (es ++ [e]) = e.on (fin s es)
  | _, [], _ => rfl
  | s, e :: es, e' => by
    rw [List.cons_append, fin, fin, fin_snoc]
theorem ch_snoc : ∀ {s : List Nat} {es : List Ed} {e : Ed}, Ch s es → e.can (fin s es) → Ch s (es ++ [e])
  | _, [], _, _, h => ⟨h, trivial⟩
  | s, e :: es, e', c, h => ⟨c.1, ch_snoc c.2 h⟩
theorem fin_all {s : List Nat} {es : List Ed} (h : okT 200 s) (c : Ch s es) : okT 200 (fin s es) := by
  have := fin_ok es.length h c
  rw [List.take_of_length_le (Nat.le_refl _)] at this
  exact this
def editsD (s : List Nat) (es : List Ed) : D := .lst ((st s es).map edx)
theorem nls_edx (xs : List (List Nat × Ed)) : nls (xs.map edx) = true := nls_all fun d hd => by
  obtain ⟨y, _, rfl⟩ := List.mem_map.mp hd
  rfl
def sp__law_edits (K : PySem.W.Frag) : Sp := fun vs H Q _ => ∃ a s ns, vs = [.ref a, .str (S s), .int 8] ∧ okT 200 s ∧ StO K ns a H ∧ ∀ (es : List Ed) v H', Ch s es → es.length ≤ 8 → Rp H' (.tup [editsD s es, .str (fin s es)]) v → ExB a H H' → StO K ns a H' → Q v H'
theorem sc__law_edits : FnScope ["_law_state", "_law_sheet_here", "_law_most", "_law_found", "_law_k"] ["_law_state", "_law_sheet_here", "_law_most"] (defScope (topS 36)) := ⟨rfl, rfl, rfl, by decide +kernel, rfl, by decide +kernel, by decide +kernel⟩
theorem ok__law_edits {f : Addr} {fd : FuncData} (F : Fun K "_law_edits" "_law_edits" (topS 36) f fd) (m_range : mg "range" = none) (d__law_drawn : Df P w K mg base "_law_drawn" ["_law_state", "_law_many"] 1 (spDrawn K)) (d__law_edit : Df P w K mg base "_law_edit" ["_law_state", "_law_sheet_here"] 4 (sp__law_edit K)) (d__law_after : Df P w K mg base "_law_after" ["_law_sheet_here", "_law_one"] 2 sp__law_after) : FnOk P w K mg base CX0 5 f fd ["_law_state", "_law_sheet_here", "_law_most"] (sp__law_edits K) := by
  refine F.ok sc__law_edits (fun vs H Q E h => by obtain ⟨a, s, ns, rfl, _⟩ := h; rfl) (fun cdv A outer s H vs Q E hr h => ?_)
  obtain ⟨a, l, ns, rfl, hl, hs, q⟩ := h
  refine ⟨_, (pss_cons (ps_set (i := 3) sc__law_edits.nd rfl (.inl rfl) (pe_lst pa_nil))
      (pss_cons (ps_for PassesOwn.never rfl (pi_range1 (by rfl) m_range (pa_cons (d__law_drawn.pe (hr.mono (by decide)) (pa_cons (pv 0) (pa_cons (pe_op op_add (pv 2) pe_int) pa_nil))) pa_nil)) (pg_name (i := 4) sc__law_edits.nd rfl (.inl rfl))
        (pss_cons (ps_expr (pe_bm PySem.F.plainAttrs_list PySem.F.slot_list_append PySem.F.type_list_append mt_append (pv 3) (pa_cons (d__law_edit.pe (hr.mono (by decide)) (pa_cons (pv 0) (pa_cons (pv 1) pa_nil))) pa_nil)))
      (pss_one (ps_set (i := 1) sc__law_edits.nd rfl (.inl rfl) (d__law_after.pe (hr.mono (by decide)) (pa_cons (pv 1) (pa_cons (pe_ix (r := rIxL K) ix_list (pv 3) (pe_un un_neg pe_int) (fun _ _ => rfl)) pa_nil)))))))
      (pss_one (ps_ret (pe_tup (pa_cons (pv 3) (pa_cons (pv 1) pa_nil))))))), ?_⟩
  refine q_asgL (el_lst ea_nil (by simp)) fun fa H1 hfn e1 hf1 => ?_
  have hfa : fa ≠ a := fun z => by
    obtain ⟨_, _, _, _, h1, _⟩ := hs.ex
    rw [z, h1] at hfn
    cases hfn
  have s1 := hs.mono e1
  refine qs_forR (B := 8) (by decide) ((es_drawn (m := 9) rfl (es_of (fun _ _ => ev_op (ev_var rfl) ev_c rv_I0) rfl) (by decide) (by decide)).imp fun v ⟨k, hv, k0, k1⟩ => ⟨k, hv, k0, by omega⟩) s1
    (fun i σ' H' => ∃ es ws y, es.length = i ∧ Ch l es ∧ σ' = [some (.ref a), some (.str (S (fin l es))), some (.int 8), some (.ref fa), y] ∧ ExB a H H' ∧ StO K ns a H' ∧ H' fa = some (.lst ws) ∧ Rps H' ((st l es).map edx) ws)
    (fun H2 x2 s2 => ⟨[], [], none, rfl, trivial, rfl, (ExB.of e1).trans x2, s2, x2 _ _ hfa hf1, rps_nil.mpr rfl⟩) ?_ ?_
  · rintro i σ' H' hi ⟨es, ws, y, hes, hc, rfl, x, s, hf, hr⟩
    have hok := fin_all hl hc
    have hok1 := hok.1
    refine q_appG (l := fa) (xs := ws) hf rfl ⟨_, rfl, _, rfl, a, fin l es, ns, rfl, hok, s, fun e v H2 hcan hv x2 s2 => ?_⟩
    have hf2 := x2 _ _ hfa hf
    have hwl : ws.length < 100000 := by
      rw [rps_len hr, List.length_map, st_len]
      omega
    refine ⟨fa, ws, v, rfl, rfl, hf2, sz_lt hwl, ?_⟩
    have tx : Tx H2 (upd H2 fa (.lst (ws ++ [v]))) := Tx.lst hf2
    have hrs : Rps (upd H2 fa (.lst (ws ++ [v]))) ((st l (es ++ [e])).map edx) (ws ++ [v]) := by
      rw [st_snoc, List.map_append]
      exact rps_app (Rps.tx tx (nls_edx _) (Rps.tx (x2.tx s) (nls_edx _) hr)) (rps_cons.mpr ⟨v, [], rfl, Rp.tx tx rfl hv, rps_nil.mpr rfl⟩)
    refine sd_asg (d := .str (fin l (es ++ [e]))) ?_ fun v2 H3 e3 r3 => ⟨es ++ [e], ws ++ [v], some (.int (i : Int)), ?_, ch_snoc hc hcan, ?_, ?_, (s2.upd hf2 hfa).mono e3, e3 _ _ upd_same, hrs.ex e3⟩
    · rw [fin_snoc]
      have a1 := hcan.1
      have a2 := hcan.2.1
      have a3 := hcan.2.2.1.1
      refine ed_call (eda_cons (ed_s (ev_var rfl)) (eda_cons (d := edD (fin l es) e) (ed_ixL (ds := (st l (es ++ [e])).map edx) (ed_var rfl (rp_lst.mpr ⟨fa, _, rfl, upd_same, hrs⟩)) (ev_un ev_c ru_neg) ?_) eda_nil)) ⟨fin l es, e, rfl, by omega, by omega, a2, by omega, rfl⟩
      rw [atI_m1 (by rw [List.length_map, st_len, List.length_append]; simp), List.getElem?_map, List.length_map, st_snoc, List.length_append, List.length_singleton, Nat.add_sub_cancel, List.getElem?_append_right (Nat.le_refl _), Nat.sub_self]
      rfl
    · rw [List.length_append, hes]
      rfl
    · rw [rp_str.mp r3]
      rfl
    · refine ExB.trans (fun b o n hb => ?_) (.of e3)
      rw [upd_ne (ne_of_none hb hfn)]
      exact x2 b o n (x b o n hb)
  · rintro n σ' H' hn ⟨es, ws, y, hes, hc, rfl, x, s, hf, hr⟩
    exact sd_ret (ed_tup (eda_cons (d := editsD l es) (ed_var rfl (rp_lst.mpr ⟨fa, ws, rfl, hf, hr⟩)) (eda_cons (ed_s (ev_var rfl)) eda_nil))) fun v H2 e2 r2 => q es v H2 hc (by omega) r2 (x.trans (.of e2)) (s.mono e2)
/-! ### _law_same -/
theorem ed_nilL {σ : L2.St} {H : Hp} : EvD (tLst tNil) σ H (.lst []) := ed_lst eda_nil
theorem ev_eqNil {σ : L2.St} {H : Hp} {ta tb : TE} (h1 : EvD ta σ H (.lst [])) (h2 : EvD tb σ H (.lst [])) : Ev (tOp (rEqD K) ta tb) σ H (.bl true) := fun H1 e Q q =>
  h1 H1 e _ fun v H2 e2 r2 => h2 H2 (e.trans e2) _ fun w H3 e3 r3 => ⟨_, _, (r2.ex e3).pd, r3.pd, by rw [pd, pds]; rfl, by rw [pd, pds]; rfl, by
    have : PyData.eqv (pd (.lst [])) (pd (.lst [])) = true := by rw [pd, pds]; rfl
    rw [this]
    exact q H3 (e2.trans e3)⟩
def scalarD : D → Prop
  | .tup _ => False
  | .lst _ => False
  | _ => True
def okStep (ok : D → Prop) (d : D) : Prop := scalarD d ∨ ∃ ds, (d = .tup ds ∨ d = .lst ds) ∧ ds.length ≤ 40000 ∧ ∀ x ∈ ds, ok x
def SameSp (ok : D → Prop) : Sp := SpR 2 fun ds d => ∃ x, ds = [x, x] ∧ ok x ∧ d = .bl true
def okL : Nat → D → Prop
  | 0 => fun _ => False
  | n + 1 => okStep (okL n)
theorem sc__law_same : FnScope ["_law_found", "_law_due", "_law_k"] ["_law_found", "_law_due"] (defScope (topS 28)) := ⟨rfl, rfl, rfl, by decide +kernel, rfl, by decide +kernel, by decide +kernel⟩
theorem ok__law_same {f : Addr} {fd : FuncData} {k : Nat} {ok : D → Prop} (F : Fun K "_law_same" "_law_same" (topS 28) f fd) (m_isinstance : mg "isinstance" = none) (m_tuple : mg "tuple" = none) (m_list : mg "list" = none) (m_str : mg "str" = none) (m_bool : mg "bool" = none) (m_int : mg "int" = none) (m_len : mg "len" = none) (m_range : mg "range" = none)
    (d__law_same : Df P w K mg base "_law_same" ["_law_found", "_law_due"] k (SameSp ok)) : FnOk P w K mg base CX0 (k + 1) f fd ["_law_found", "_law_due"] (SameSp (okStep ok)) := by
  refine F.ok sc__law_same (fun vs H Q E h => by exact SpR.len h) (fun cdv A outer s H vs Q E hr h => ?_)
  obtain ⟨ds, d, hl, rs, ⟨x, rfl, hx, rfl⟩, q⟩ := h
  obtain ⟨v, r, rfl, h1, h2⟩ := rps_cons.mp rs
  obtain ⟨v2, r2, rfl, h3, h4⟩ := rps_cons.mp h2
  obtain rfl := rps_nil.mp h4
  refine ⟨_, (pss_cons (ps_if (pt_val (pe_callB call_isiT (by rfl) m_isinstance (by decide +kernel) (pa_cons (pv 1) (pa_cons (pe_tup (pa_cons (pe_bltn (v := .ty "tuple") (by rfl) m_tuple (by decide +kernel) rfl) (pa_cons (pe_bltn (v := .ty "list") (by rfl) m_list (by decide +kernel) rfl) pa_nil))) pa_nil))))
        (pss_cons (ps_if (PW.pt (pw_or (pt_not (pt_val (pe_callB call_isiT (by rfl) m_isinstance (by decide +kernel) (pa_cons (pv 0) (pa_cons (pe_tup (pa_cons (pe_bltn (v := .ty "tuple") (by rfl) m_tuple (by decide +kernel) rfl) (pa_cons (pe_bltn (v := .ty "list") (by rfl) m_list (by decide +kernel) rfl) pa_nil))) pa_nil))))) (pw_or1 (pt_cmpR op_ne (pe_callB call_isi (by rfl) m_isinstance (by decide +kernel) (pa_cons (pv 0) (pa_cons (pe_bltn (v := .ty "list") (by rfl) m_list (by decide +kernel) rfl) pa_nil))) (pe_callB call_isi (by rfl) m_isinstance (by decide +kernel) (pa_cons (pv 1) (pa_cons (pe_bltn (v := .ty "list") (by rfl) m_list (by decide +kernel) rfl) pa_nil))) (nomark _)))))
        (pss_one (ps_ret pe_bl))
        pss_nil)
      (pss_cons (ps_if (pt_cmpR op_ne (pe_callB call_len_seq (by rfl) m_len PySem.boot_len (pa_cons (pv 0) pa_nil)) (pe_callB call_len_seq (by rfl) m_len PySem.boot_len (pa_cons (pv 1) pa_nil)) (nomark _))
        (pss_one (ps_ret pe_bl))
        pss_nil)
      (pss_one (ps_ret (pe_cmpR (op_eqD hr.units) (pe_lc (own := [("_law_k", 2)]) (g := gName 2) rfl sc__law_same.nd (pi_range1 (by rfl) m_range (pa_cons (pe_callB call_len_seq (by rfl) m_len PySem.boot_len (pa_cons (pv 1) pa_nil)) pa_nil)) (blkOk_by (own := [("_law_k", 2)]) (N := ["_law_found", "_law_due", "_law_k"]) (sc := defScope (topS 28)) (by decide +kernel)) (fun _ _ _ _ _ => (pg_name (i := 2) sc__law_same.nd rfl (.inl rfl))) (fun _ _ _ _ _ => pts_one (pt_not (pt_val (d__law_same.pe hr (pa_cons (pe_ix (r := rIx K) ix_seq (pv 0) (pv 2) (fun _ _ => rfl)) (pa_cons (pe_ix (r := rIx K) ix_seq (pv 1) (pv 2) (fun _ _ => rfl)) pa_nil)))))) (fun _ _ _ _ _ => (pv 2))) (pe_lst pa_nil) (nomark _))))))
        pss_nil)
      (pss_cons (ps_if (pt_cmpR op_isN (pv 1) pe_non (nomark _))
        (pss_one (ps_ret (pe_cmpR op_isN (pv 0) pe_non (nomark _))))
        pss_nil)
      (pss_cons (ps_if (pt_val (pe_callB call_isi (by rfl) m_isinstance (by decide +kernel) (pa_cons (pv 1) (pa_cons (pe_bltn (v := .ty "str") (by rfl) m_str (by decide +kernel) rfl) pa_nil))))
        (pss_one (ps_ret (pe_and (pe_callB call_isi (by rfl) m_isinstance (by decide +kernel) (pa_cons (pv 0) (pa_cons (pe_bltn (v := .ty "str") (by rfl) m_str (by decide +kernel) rfl) pa_nil))) (pe_one (pe_cmpR op_eq (pv 0) (pv 1) (nomark _))))))
        pss_nil)
      (pss_cons (ps_if (PW.pt (pw_or (pt_val (pe_callB call_isi (by rfl) m_isinstance (by decide +kernel) (pa_cons (pv 1) (pa_cons (pe_bltn (v := .ty "bool") (by rfl) m_bool (by decide +kernel) rfl) pa_nil)))) (pw_or1 (pt_val (pe_callB call_isi (by rfl) m_isinstance (by decide +kernel) (pa_cons (pv 0) (pa_cons (pe_bltn (v := .ty "bool") (by rfl) m_bool (by decide +kernel) rfl) pa_nil)))))))
        (pss_one (ps_ret (pe_and (pe_callB call_isi (by rfl) m_isinstance (by decide +kernel) (pa_cons (pv 1) (pa_cons (pe_bltn (v := .ty "bool") (by rfl) m_bool (by decide +kernel) rfl) pa_nil))) (pe_and (pe_callB call_isi (by rfl) m_isinstance (by decide +kernel) (pa_cons (pv 0) (pa_cons (pe_bltn (v := .ty "bool") (by rfl) m_bool (by decide +kernel) rfl) pa_nil))) (pe_one (pe_cmpR op_eq (pv 0) (pv 1) (nomark _)))))))
        pss_nil)
      (pss_one (ps_ret (pe_and (pe_callB call_isi (by rfl) m_isinstance (by decide +kernel) (pa_cons (pv 0) (pa_cons (pe_bltn (v := .ty "int") (by rfl) m_int (by decide +kernel) rfl) pa_nil))) (pe_one (pe_cmpR op_eq (pv 0) (pv 1) (nomark _)))))))))), ?_⟩
  have hT : ∀ {H1 b c i}, Ex H H1 → (i = 0 ∨ i = 1) → kitB (tyD x) "tuple" = some b → kitB (tyD x) "list" = some c → EvT (tB (tCB (rIsiT K) (tCons (tVar i) (tCons (tTup (tCons (tC (.ty "tuple")) (tCons (tC (.ty "list")) tNil))) tNil)))) [some v, some v2, none] H1 (b || c) := fun e hi hb hc => et_B (by
    rcases hi with rfl | rfl
    · exact ed_isiT (ed_var rfl (h1.ex e)) (kit2 hb hc)
    · exact ed_isiT (ed_var rfl (h3.ex e)) (kit2 hb hc))
  have hI : ∀ {H1 b i n}, Ex H H1 → (i = 0 ∨ i = 1) → kitB (tyD x) n = some b → Ev (tCB (rIsi K) (tCons (tVar i) (tCons (tC (.ty n)) tNil))) [some v, some v2, none] H1 (.bl b) := fun e hi hb => by
    rcases hi with rfl | rfl
    · exact ed_isi (ed_var rfl (h1.ex e)) hb
    · exact ed_isi (ed_var rfl (h3.ex e)) hb
  rcases hx with hx | ⟨ds, hds, hlen, hok⟩
  · cases x with
    | tup _ => exact hx.elim
    | lst _ => exact hx.elim
    | non =>
      obtain rfl := rp_non.mp h1
      obtain rfl := rp_non.mp h3
      refine q_when (et_is (hT (Ex.refl _) (.inr rfl) k_nt k_nl) rfl) (fun z => by cases z) fun _ H1 e1 => ?_
      exact q_when (et_is (et_test (ev_op (ev_var rfl) ev_c rv_isN)) rfl) (fun _ H2 e2 => sd_ret (ed_b (ev_is (ev_op (ev_var rfl) ev_c rv_isN) rfl)) fun v H3 e3 r3 => q v H3 ((e1.trans e2).trans e3) r3) fun z => by cases z
    | str l =>
      obtain rfl := rp_str.mp h1
      obtain rfl := rp_str.mp h3
      refine q_when (et_is (hT (Ex.refl _) (.inr rfl) k_st k_sl) rfl) (fun z => by cases z) fun _ H1 e1 => ?_
      refine q_when (et_is (et_test (ev_op (ev_var rfl) ev_c rv_isN)) rfl) (fun z => by cases z) fun _ H2 e2 => ?_
      exact q_when (et_is (et_B (hI (e1.trans e2) (.inr rfl) k_ss)) rfl) (fun _ H3 e3 => sd_ret (ed_b (ev_is (ev_andV (hI ((e1.trans e2).trans e3) (.inl rfl) k_ss) fun _ => ev_op (ev_var rfl) (ev_var rfl) rv_eqS) (by rw [decide_eq_true rfl]; rfl))) fun v H4 e4 r4 => q v H4 (((e1.trans e2).trans e3).trans e4) r4) fun z => by cases z
    | bl b =>
      obtain rfl := rp_bl.mp h1
      obtain rfl := rp_bl.mp h3
      refine q_when (et_is (hT (Ex.refl _) (.inr rfl) k_bt k_bl) rfl) (fun z => by cases z) fun _ H1 e1 => ?_
      refine q_when (et_is (et_test (ev_op (ev_var rfl) ev_c rv_isN)) rfl) (fun z => by cases z) fun _ H2 e2 => ?_
      refine q_when (et_is (et_B (hI (e1.trans e2) (.inr rfl) k_bs)) rfl) (fun z => by cases z) fun _ H3 e3 => ?_
      exact q_when (et_is (et_or (a := true) (b := true) (et_B (hI ((e1.trans e2).trans e3) (.inr rfl) k_bb)) fun z => by cases z) rfl) (fun _ H4 e4 => sd_ret (ed_b (ev_is (ev_andV (hI (((e1.trans e2).trans e3).trans e4) (.inr rfl) k_bb) fun _ => ev_andV (hI (((e1.trans e2).trans e3).trans e4) (.inl rfl) k_bb) fun _ => ev_op (ev_var rfl) (ev_var rfl) (rv_eq rfl)) (by rw [decide_eq_true rfl]; rfl))) fun v H5 e5 r5 => q v H5 ((((e1.trans e2).trans e3).trans e4).trans e5) r5) fun z => by cases z
    | int i =>
      obtain rfl := rp_int.mp h1
      obtain rfl := rp_int.mp h3
      refine q_when (et_is (hT (Ex.refl _) (.inr rfl) k_it k_il) rfl) (fun z => by cases z) fun _ H1 e1 => ?_
      refine q_when (et_is (et_test (ev_op (ev_var rfl) ev_c rv_isN)) rfl) (fun z => by cases z) fun _ H2 e2 => ?_
      refine q_when (et_is (et_B (hI (e1.trans e2) (.inr rfl) k_is)) rfl) (fun z => by cases z) fun _ H3 e3 => ?_
      refine q_when (et_or0 (et_B (hI ((e1.trans e2).trans e3) (.inr rfl) k_ib)) (et_B (hI ((e1.trans e2).trans e3) (.inl rfl) k_ib))) (fun z => by cases z) fun _ H4 e4 => ?_
      exact sd_ret (ed_b (ev_is (ev_andV (hI (((e1.trans e2).trans e3).trans e4) (.inl rfl) k_ii) fun _ => ev_op (ev_var rfl) (ev_var rfl) (rv_eq rfl)) (by rw [decide_eq_true rfl]; rfl))) fun v H5 e5 r5 => q v H5 ((((e1.trans e2).trans e3).trans e4).trans e5) r5
  · have hpick : picked ds.length (fun _ => false) (fun _ => D.non) = [] := by unfold picked; rw [List.filter_eq_nil_iff.mpr (fun _ _ => by simp)]; rfl
    rcases hds with rfl | rfl
    · refine q_if (et_is (hT (Ex.refl _) (.inr rfl) k_tt k_tl) rfl) (fun _ H1 e1 => ?_) fun z => by cases z
      refine q_when (et_or0 (et_no (et_is (hT e1 (.inl rfl) k_tt k_tl) rfl)) (et_is (et_test (ev_op (hI e1 (.inl rfl) k_tl) (hI e1 (.inr rfl) k_tl) rv_neB)) rfl)) (fun z => by cases z) fun _ H2 e2 => ?_
      have e12 := e1.trans e2
      refine q_when (et_is (et_test (ev_op (ed_lenT (ed_var rfl (h1.ex e12))) (ed_lenT (ed_var rfl (h3.ex e12))) rv_neI)) (show (!decide ((ds.length : Int) = (ds.length : Int))) = false by simp)) (fun z => by cases z) fun _ H3 e3 => ?_
      have e13 := e12.trans e3
      have h1' := h1.ex e13
      have h3' := h3.ex e13
      refine sd_ret (ed_b (ev_eqNil ?_ ed_nilL)) fun v H4 e4 r4 => q v H4 (e13.trans e4) r4
      rw [← hpick]
      refine ed_lc (fun _ => false) _ (ei_range (ed_lenT (ed_var rfl h3')) ⟨by omega, by omega⟩) (by omega) (fun _ => rfl) (fun _ => rfl) (fun i y H4 hi e4 ry => ?_) fun _ _ _ _ _ _ z => by cases z
      have hi : i < ds.length := by omega
      obtain rfl := rp_int.mp ry
      exact et_no (et_B (EvD.b (ed_call (eda_cons (ed_ixAT (ed_var rfl (h1'.ex e4)) (ev_var rfl) (atI_nat (List.getElem?_eq_getElem hi))) (eda_cons (ed_ixAT (ed_var rfl (h3'.ex e4)) (ev_var rfl) (atI_nat (List.getElem?_eq_getElem hi))) eda_nil)) ⟨ds[i], rfl, hok _ (List.getElem_mem hi), rfl⟩)))
    · refine q_if (et_is (hT (Ex.refl _) (.inr rfl) k_lt k_ll) rfl) (fun _ H1 e1 => ?_) fun z => by cases z
      refine q_when (et_or0 (et_no (et_is (hT e1 (.inl rfl) k_lt k_ll) rfl)) (et_is (et_test (ev_op (hI e1 (.inl rfl) k_ll) (hI e1 (.inr rfl) k_ll) rv_neB)) rfl)) (fun z => by cases z) fun _ H2 e2 => ?_
      have e12 := e1.trans e2
      refine q_when (et_is (et_test (ev_op (ed_lenL (ed_var rfl (h1.ex e12))) (ed_lenL (ed_var rfl (h3.ex e12))) rv_neI)) (show (!decide ((ds.length : Int) = (ds.length : Int))) = false by simp)) (fun z => by cases z) fun _ H3 e3 => ?_
      have e13 := e12.trans e3
      have h1' := h1.ex e13
      have h3' := h3.ex e13
      refine sd_ret (ed_b (ev_eqNil ?_ ed_nilL)) fun v H4 e4 r4 => q v H4 (e13.trans e4) r4
      rw [← hpick]
      refine ed_lc (fun _ => false) _ (ei_range (ed_lenL (ed_var rfl h3')) ⟨by omega, by omega⟩) (by omega) (fun _ => rfl) (fun _ => rfl) (fun i y H4 hi e4 ry => ?_) fun _ _ _ _ _ _ z => by cases z
      have hi : i < ds.length := by omega
      obtain rfl := rp_int.mp ry
      exact et_no (et_B (EvD.b (ed_call (eda_cons (ed_ixAL (ed_var rfl (h1'.ex e4)) (ev_var rfl) (atI_nat (List.getElem?_eq_getElem hi))) (eda_cons (ed_ixAL (ed_var rfl (h3'.ex e4)) (ev_var rfl) (atI_nat (List.getElem?_eq_getElem hi))) eda_nil)) ⟨ds[i], rfl, hok _ (List.getElem_mem hi), rfl⟩)))
end
end HW

set_option Elab.async false
set_option linter.all false
set_option maxRecDepth 100000
namespace HW
open PySem PySem.Spec PyProof.Rows L2 Evl SX
section
variable {P : Program} {w : World} {K : PySem.W.Frag} {mg : Str → Option Value} {base : Heap}
theorem lcp_take : ∀ (s t : List Nat) (k : Nat), k ≤ s.length → k ≤ t.length → (s.take k = t.take k ↔ k ≤ lcp s t)
  | s, t, 0, _, _ => by simp
  | [], t, k + 1, h, _ => by simp at h
  | a :: s, [], k + 1, _, h => by simp at h
  | a :: s, b :: t, k + 1, h1, h2 => by
    rw [List.take_succ_cons, List.take_succ_cons, lcp]
    rw [List.length_cons] at h1 h2
    have ih := lcp_take s t k (by omega) (by omega)
    by_cases e : a = b
    · rw [if_pos e, e, List.cons.injEq]
      constructor
      · intro h
        have := ih.mp h.2
        omega
      · intro h
        exact ⟨rfl, ih.mpr (by omega)⟩
    · rw [if_neg e]
      constructor
      · intro h
        injection h with h _
        exact absurd h e
      · intro h
        omega
theorem drop_end (s : List Nat) (k f : Nat) (h : k + f ≤ s.length) : s.drop (s.length - k) = ((s.drop f).reverse.take k).reverse := by
  rw [List.take_reverse, List.reverse_reverse, List.drop_drop, List.length_drop]
  congr 1
  omega
def numsOf (n : Nat) (f : Nat → Bool) : List Int := ((List.range n).filter f).map fun k : Nat => (k : Int)
theorem picked_nums (n : Nat) (f : Nat → Bool) : (numsOf n f).map D.int = picked n f (fun k => .int (k : Int)) := by
  unfold numsOf picked
  rw [List.map_map]
  rfl
theorem mem_nums {n : Nat} {f : Nat → Bool} {y : Int} : y ∈ numsOf n f ↔ ∃ k : Nat, k < n ∧ f k = true ∧ y = (k : Int) := by
  unfold numsOf
  rw [List.mem_map]
  constructor
  · rintro ⟨k, hk, rfl⟩
    rw [List.mem_filter, List.mem_range] at hk
    exact ⟨k, hk.1, hk.2, rfl⟩
  · rintro ⟨k, h1, h2, rfl⟩
    exact ⟨k, by rw [List.mem_filter, List.mem_range]; exact ⟨h1, h2⟩, rfl⟩
def sp__law_together : Sp := SpR 2 fun ds d => ∃ s t, ds = [.str s, .str t] ∧ s.length ≤ 1000 ∧ t.length ≤ 1000 ∧ d = togD s t
theorem sc__law_together : FnScope ["_law_sheet_here", "_law_other", "_law_ahead", "_law_left", "_law_last", "_law_k"] ["_law_sheet_here", "_law_other"] (defScope (topS 37)) := ⟨rfl, rfl, rfl, by decide +kernel, rfl, by decide +kernel, by decide +kernel⟩
theorem ok__law_together {f : Addr} {fd : FuncData} (F : Fun K "_law_together" "_law_together" (topS 37) f fd) (m_len : mg "len" = none) (m_min : mg "min" = none) (m_range : mg "range" = none) (m_max : mg "max" = none) (d__law_at : Df P w K mg base "_law_at" ["_law_sheet_here", "_law_number"] 1 sp__law_at) : FnOk P w K mg base CX0 2 f fd ["_law_sheet_here", "_law_other"] sp__law_together := by
  refine F.ok sc__law_together (fun vs H Q E h => by exact SpR.len h) (fun cdv A outer s H vs Q E hr h => ?_)
  obtain ⟨ds, d, hl, rs, ⟨l, t, rfl, hl1, hl2, rfl⟩, q⟩ := h
  obtain ⟨v, r, rfl, h1, h2⟩ := rps_cons.mp rs
  obtain ⟨v2, r2, rfl, h3, h4⟩ := rps_cons.mp h2
  rw [rps_nil.mp h4, rp_str.mp h1, rp_str.mp h3]
  refine ⟨_, (pss_cons (ps_if (pt_cmpR op_eq (pv 0) (pv 1) (nomark _))
        (pss_one (ps_ret pe_non))
        pss_nil)
      (pss_cons (ps_set (i := 2) sc__law_together.nd rfl (.inl rfl) (pe_callB (cr_max rfl) (by rfl) m_max (by decide +kernel) (pa_cons (pe_lc (own := [("_law_k", 5)]) (g := gName 5) rfl sc__law_together.nd (pi_range1 (by rfl) m_range (pa_cons (pe_op op_add (pe_callB (call_min2 rfl) (by rfl) m_min (by decide +kernel) (pa_cons (pe_callB call_len_str (by rfl) m_len PySem.boot_len (pa_cons (pv 0) pa_nil)) (pa_cons (pe_callB call_len_str (by rfl) m_len PySem.boot_len (pa_cons (pv 1) pa_nil)) pa_nil))) pe_int) pa_nil)) (blkOk_by (own := [("_law_k", 5)]) (N := ["_law_sheet_here", "_law_other", "_law_ahead", "_law_left", "_law_last", "_law_k"]) (sc := defScope (topS 37)) (by decide +kernel)) (fun _ _ _ _ _ => (pg_name (i := 5) sc__law_together.nd rfl (.inl rfl))) (fun _ _ _ _ _ => pts_one (pt_cmpR op_eq (pe_slice sl_str (pv 0) po_none (po_some (pv 5))) (pe_slice sl_str (pv 1) po_none (po_some (pv 5))) (nomark _))) (fun _ _ _ _ _ => (pv 5))) pa_nil)))
      (pss_cons (ps_set (i := 3) sc__law_together.nd rfl (.inl rfl) (pe_op op_sub (pe_callB (call_min2 rfl) (by rfl) m_min (by decide +kernel) (pa_cons (pe_callB call_len_str (by rfl) m_len PySem.boot_len (pa_cons (pv 0) pa_nil)) (pa_cons (pe_callB call_len_str (by rfl) m_len PySem.boot_len (pa_cons (pv 1) pa_nil)) pa_nil))) (pv 2)))
      (pss_cons (ps_set (i := 4) sc__law_together.nd rfl (.inl rfl) (pe_callB (cr_max rfl) (by rfl) m_max (by decide +kernel) (pa_cons (pe_lc (own := [("_law_k", 5)]) (g := gName 5) rfl sc__law_together.nd (pi_range1 (by rfl) m_range (pa_cons (pe_op op_add (pv 3) pe_int) pa_nil)) (blkOk_by (own := [("_law_k", 5)]) (N := ["_law_sheet_here", "_law_other", "_law_ahead", "_law_left", "_law_last", "_law_k"]) (sc := defScope (topS 37)) (by decide +kernel)) (fun _ _ _ _ _ => (pg_name (i := 5) sc__law_together.nd rfl (.inl rfl))) (fun _ _ _ _ _ => pts_one (pt_cmpR op_eq (pe_slice sl_str (pv 0) (po_some (pe_op op_sub (pe_callB call_len_str (by rfl) m_len PySem.boot_len (pa_cons (pv 0) pa_nil)) (pv 5))) po_none) (pe_slice sl_str (pv 1) (po_some (pe_op op_sub (pe_callB call_len_str (by rfl) m_len PySem.boot_len (pa_cons (pv 1) pa_nil)) (pv 5))) po_none) (nomark _))) (fun _ _ _ _ _ => (pv 5))) pa_nil)))
      (pss_one (ps_ret (pe_tup (pa_cons (d__law_at.pe (hr.mono (by decide)) (pa_cons (pv 0) (pa_cons (pv 2) pa_nil))) (pa_cons (d__law_at.pe (hr.mono (by decide)) (pa_cons (pv 0) (pa_cons (pe_op op_sub (pe_callB call_len_str (by rfl) m_len PySem.boot_len (pa_cons (pv 0) pa_nil)) (pv 4)) pa_nil))) (pa_cons (pe_slice sl_str (pv 1) (po_some (pv 2)) (po_some (pe_op op_sub (pe_callB call_len_str (by rfl) m_len PySem.boot_len (pa_cons (pv 1) pa_nil)) (pv 4)))) pa_nil)))))))))), ?_⟩
  refine q_when (et_test (ev_op (ev_var rfl) (ev_var rfl) rv_eqS)) (fun hb H2 e2 => ?_) fun hb H2 e2 => ?_
  · have ht : t = l := (of_decide_eq_true hb).symm
    have ed : togD l t = .non := by unfold togD; rw [if_pos ht]
    rw [ed] at q
    exact sd_ret (ed_n ev_c) fun v H3 e3 r3 => q v H3 (e2.trans e3) r3
  · have ht : ¬ t = l := fun z => of_decide_eq_false hb z.symm
    unfold togD at q
    rw [if_neg ht] at q
    have b1 := lcp_le l t
    have b2 := lcp_le (l.drop (lcp l t)).reverse (t.drop (lcp l t)).reverse
    rw [List.length_reverse, List.length_reverse, List.length_drop, List.length_drop] at b2
    have tk := lcp_take l t
    have tk2 := lcp_take (l.drop (lcp l t)).reverse (t.drop (lcp l t)).reverse
    rw [List.length_reverse, List.length_reverse, List.length_drop, List.length_drop] at tk2
    refine q_asg (v := .int (lcp l t : Nat)) (ed_max (ns := numsOf (min (l.length : Int) (t.length : Int) + 1).toNat (fun k => decide (l.take k = t.take k))) ?_ ?_ ?_) fun H3 e3 => ?_
    · rw [picked_nums]
      refine ed_lc _ _ (ei_range (ev_op (ev_min2 (ev_lenS (ev_var rfl) (by omega)) (ev_lenS (ev_var rfl) (by omega))) ev_c rv_I0) ⟨by omega, by omega⟩) (by omega) (fun _ => rfl) (fun _ => rfl) (fun i y H4 hi e4 ry => ?_) fun i y H4 hi e4 ry _ => ?_
      · obtain rfl := rp_int.mp ry
        exact et_test (ev_op (ev_to (ev_var rfl) (ev_var rfl) (by omega)) (ev_to (ev_var rfl) (ev_var rfl) (by omega)) rv_eqS)
      · exact ed_var rfl ry
    · exact mem_nums.mpr ⟨lcp l t, by omega, decide_eq_true ((tk _ (by omega) (by omega)).mpr (Nat.le_refl _)), rfl⟩
    · intro y hy
      obtain ⟨k, k1, k2, rfl⟩ := mem_nums.mp hy
      have := (tk k (by omega) (by omega)).mp (of_decide_eq_true k2)
      omega
    generalize hk : lcp (l.drop (lcp l t)).reverse (t.drop (lcp l t)).reverse = k at *
    generalize lcp l t = f at *
    refine q_asg (v := .int ((min l.length t.length - f : Nat) : Int)) (ev_is (ev_op (ev_min2 (ev_lenS (ev_var rfl) (by omega)) (ev_lenS (ev_var rfl) (by omega))) (ev_var rfl) rv_I0) (by show V.int _ = V.int _; congr 1; omega)) fun H4 e4 => ?_
    refine q_asg (v := .int (k : Nat)) (ed_max (ns := numsOf (((min l.length t.length - f : Nat) : Int) + 1).toNat (fun j => decide (l.drop (l.length - j) = t.drop (t.length - j)))) ?_ ?_ ?_) fun H5 e5 => ?_
    · rw [picked_nums]
      refine ed_lc _ _ (ei_range (ev_op (ev_var rfl) ev_c rv_I0) ⟨by omega, by omega⟩) (by omega) (fun _ => rfl) (fun _ => rfl) (fun i y H6 hi e6 ry => ?_) fun i y H6 hi e6 ry _ => ?_
      · obtain rfl := rp_int.mp ry
        have hsub : ∀ {n : Nat}, i ≤ n → V.int ((n : Int) - (i : Int)) = V.int ((n - i : Nat) : Int) := fun h => by congr 1; omega
        exact et_test (ev_op (ev_from (n := l.length - i) (ev_var rfl) (ev_is (ev_op (ev_lenS (ev_var rfl) (by omega)) (ev_var rfl) rv_I0) (hsub (by omega))) (by omega)) (ev_from (n := t.length - i) (ev_var rfl) (ev_is (ev_op (ev_lenS (ev_var rfl) (by omega)) (ev_var rfl) rv_I0) (hsub (by omega))) (by omega)) rv_eqS)
      · exact ed_var rfl ry
    · refine mem_nums.mpr ⟨k, by omega, decide_eq_true ?_, rfl⟩
      rw [drop_end l k f (by omega), drop_end t k f (by omega), (tk2 k (by omega) (by omega)).mpr (Nat.le_refl _)]
    · intro y hy
      obtain ⟨j, k1, k2, rfl⟩ := mem_nums.mp hy
      have k2 := of_decide_eq_true k2
      rw [drop_end l j f (by omega), drop_end t j f (by omega)] at k2
      have := (tk2 j (by omega) (by omega)).mp (List.reverse_inj.mp k2)
      omega
    have hsub : ∀ {n : Nat}, k ≤ n → V.int ((n : Int) - (k : Int)) = V.int ((n - k : Nat) : Int) := fun h => by congr 1; omega
    refine sd_ret (ed_tup (eda_cons (ed_call (eda_cons (ed_s (ev_var rfl)) (eda_cons (ed_i (ev_var rfl)) eda_nil)) ⟨l, f, rfl, by omega, rfl⟩) (eda_cons (ed_call (eda_cons (ed_s (ev_var rfl)) (eda_cons (ed_i (ev_is (ev_op (ev_lenS (ev_var rfl) (by omega)) (ev_var rfl) rv_I0) (hsub (by omega)))) eda_nil)) ⟨l, l.length - k, rfl, by omega, rfl⟩) (eda_cons (ed_s (ev_mid (a := f) (b := t.length - k) (ev_var rfl) (ev_var rfl) (ev_is (ev_op (ev_lenS (ev_var rfl) (by omega)) (ev_var rfl) rv_I0) (hsub (by omega))) (by omega) (by omega) (by omega))) eda_nil))))
      fun v H7 e7 r7 => q v H7 ((((e2.trans e3).trans e4).trans e5).trans e7) r7
end
end HW

set_option Elab.async false
set_option linter.all false
set_option maxRecDepth 100000
namespace HW
open PySem PySem.Spec PyProof.Rows L2 Evl SX
section
variable {P : Program} {w : World} {K : PySem.W.Frag} {mg : Str → Option Value} {base : Heap}
/-! ### data that may be compared -/
theorem sgn_lt {c : Nat} (h : sgn c = true) : c < 127 := by
  unfold sgn at h
  simp only [Bool.or_eq_true, Bool.and_eq_true, decide_eq_true_eq] at h
  omega
theorem strOk_of {l : List Nat} (h : l.all sgn = true) : PySem.PyData.strOk (S l) = true := by
  unfold PySem.PyData.strOk
  rw [← Array.all_toList]
  exact List.all_eq_true.mpr fun c hc => decide_eq_true (by have := sgn_lt (List.all_eq_true.mp h c hc); omega)
/-- of depth at most n, its texts of signs -/
structure Sh (n : Nat) (d : D) : Prop where
  lay : (pd d).canLay0 = true
  dep : (pd d).depth ≤ n
theorem Sh.shaped {n : Nat} {d : D} (h : Sh n d) (hn : n ≤ 64) : SeqAt.shaped (pd d) = true := by
  unfold SeqAt.shaped
  rw [h.lay, decide_eq_true (Nat.le_trans h.dep hn)]
  rfl
theorem sh_int {i : Int} : Sh 0 (.int i) := ⟨by rw [pd]; rfl, by rw [pd]; exact Nat.le_refl _⟩
theorem sh_str {l : List Nat} (h : l.all sgn = true) : Sh 0 (.str l) := ⟨by rw [pd]; exact strOk_of h, by rw [pd]; exact Nat.le_refl _⟩
theorem Sh.mono {n m : Nat} {d : D} (h : Sh n d) (hm : n ≤ m) : Sh m d := ⟨h.lay, Nat.le_trans h.dep hm⟩
theorem sh_all {n : Nat} : ∀ {ds : List D}, (∀ d ∈ ds, Sh n d) → PyData.canLayAll0 (pds ds) = true ∧ PyData.depthAll (pds ds) ≤ n
  | [], _ => ⟨by rw [pds]; rfl, by rw [pds]; exact Nat.zero_le _⟩
  | d :: ds, h => by
    have h1 := h d List.mem_cons_self
    have h2 := sh_all (ds := ds) fun x hx => h x (List.mem_cons_of_mem _ hx)
    rw [pds]
    exact ⟨by rw [PyData.canLayAll0, h1.lay, h2.1]; rfl, by rw [PyData.depthAll]; exact Nat.max_le.mpr ⟨h1.dep, h2.2⟩⟩
theorem sh_tup {n : Nat} {ds : List D} (h : ∀ d ∈ ds, Sh n d) : Sh (n + 1) (.tup ds) := by
  have := sh_all h
  exact ⟨by rw [pd, PyData.canLay0]; exact this.1, by rw [pd, PyData.depth]; exact Nat.succ_le_succ this.2⟩
theorem sh_lst {n : Nat} {ds : List D} (h : ∀ d ∈ ds, Sh n d) : Sh (n + 1) (.lst ds) := by
  have := sh_all h
  exact ⟨by rw [pd, PyData.canLay0]; exact this.1, by rw [pd, PyData.depth]; exact Nat.succ_le_succ this.2⟩
theorem sh_pl (p : Nat × Nat) : Sh 1 (pl p) := sh_tup fun d hd => by
  rcases List.mem_cons.mp hd with rfl | hd
  · exact sh_int
  · rw [List.mem_singleton.mp hd]; exact sh_int
theorem sh_edD {s : List Nat} {e : Ed} (h : e.q.all sgn = true) : Sh 2 (edD s e) := sh_tup fun d hd => by
  rcases List.mem_cons.mp hd with rfl | hd
  · exact sh_pl _
  rcases List.mem_cons.mp hd with rfl | hd
  · exact sh_pl _
  · rw [List.mem_singleton.mp hd]; exact (sh_str h).mono (by decide)
theorem st_mem : ∀ {s : List Nat} {es : List Ed} {x : List Nat × Ed}, Ch s es → x ∈ st s es → x.2.can x.1
  | _, [], _, _, h => by rw [st] at h; cases h
  | s, e :: es, x, c, h => by
    rw [st] at h
    rcases List.mem_cons.mp h with rfl | h
    · exact c.1
    · exact st_mem c.2 h
theorem sh_edits {s : List Nat} {es : List Ed} (c : Ch s es) : Sh 3 (editsD s es) := sh_lst fun d hd => by
  obtain ⟨x, hx, rfl⟩ := List.mem_map.mp hd
  exact sh_edD (st_mem c hx).2.2.1.2
section
variable {σ : L2.St} {H : Hp} {ta tb : TE} {d : D} {n : Nat}
theorem ev_neD (h1 : EvD ta σ H d) (h2 : EvD tb σ H d) (hs : Sh n d) (hn : n ≤ 64 := by decide) : Ev (tOp (rNeD K) ta tb) σ H (.bl false) := fun H1 e Q q =>
  h1 H1 e _ fun v H2 e2 r2 => h2 H2 (e.trans e2) _ fun w H3 e3 r3 => ⟨_, _, (r2.ex e3).pd, r3.pd, hs.shaped hn, hs.shaped hn, by
    rw [PySem.SeqAt.eqv_refl _ hs.lay]
    exact q H3 (e2.trans e3)⟩
theorem ed_cat {ds es : List D} (h1 : EvD ta σ H (.lst ds)) (h2 : EvD tb σ H (.lst es)) (hl : ds.length + es.length ≤ 100000) : EvD (tOp rCat ta tb) σ H (.lst (ds ++ es)) := fun H1 e Q q =>
  h1 H1 e _ fun v H2 e2 r2 => h2 H2 (e.trans e2) _ fun w H3 e3 r3 => by
    obtain ⟨p, vs, rfl, g1, g2⟩ := rp_lst.mp (r2.ex e3)
    obtain ⟨p', ws, rfl, g3, g4⟩ := rp_lst.mp r3
    refine ⟨p, p', vs, ws, rfl, rfl, g1, g3, by rw [rps_len g2, rps_len g4]; exact sz_of hl, fun l hl => q _ _ ((e2.trans e3).trans (Ex.new hl)) (rp_lst.mpr ⟨l, _, rfl, upd_same, (rps_app g2 g4).ex (Ex.new hl)⟩)⟩
theorem ed_listof {ds : List D} (h1 : EvD ta σ H (.lst ds)) : EvD (tCB (fun xs H Q => ∃ p ys, xs = [.ref p] ∧ (SqL K H p ys ∨ SqT K H p ys) ∧ ∀ l, H l = none → Q (.ref l) (upd H l (.lst ys))) (tCons ta tNil)) σ H (.lst ds) := fun H1 e Q q =>
  h1 H1 e _ fun v H2 e2 r2 => by
    obtain ⟨p, vs, rfl, g1, g2⟩ := rp_lst.mp r2
    exact ⟨p, vs, rfl, .inl (sq_of g1), fun l hl => q _ _ (e2.trans (Ex.new hl)) (rp_lst.mpr ⟨l, _, rfl, upd_same, g2.ex (Ex.new hl)⟩)⟩
/-- a place not in _law_numbers(sheet) -/
theorem ev_notin {E : XK} {l : List Nat} {n : Nat} (h1 : EvD ta σ H (pl (pos l n))) (h2 : Ev tb σ H (.str (S l))) (hl : l.length ≤ 1000) (hn : n ≤ l.length) : Ev (tDNotIn ta (tCall sp__law_numbers [] E (tCons tb tNil))) σ H (.bl false) := fun H1 e Q q =>
  h1 H1 e _ fun v H2 e2 r2 => h2 H2 (e.trans e2) _ fun H3 e3 => ⟨l, rfl, hl, fun p H4 hp e4 hd => by
    have r4 := (r2.ex e3).ex e4
    obtain ⟨b3, vs3, rfl, g1, g2⟩ := rp_tup.mp r4
    obtain ⟨a1, t1, rfl, a2, g2⟩ := rps_cons.mp g2
    obtain ⟨a3, t3, rfl, a4, g2⟩ := rps_cons.mp g2
    rw [rps_nil.mp g2, rp_int.mp a2, rp_int.mp a4] at g1
    have := DGet.t (k := nkey (pos l n)) hd g1
    rw [nums_get hn] at this
    exact ⟨p, _, rfl, this, q H4 ((e2.trans e3).trans e4)⟩⟩
end
/-! ### an edit undone -/
theorem take_put {s q : List Nat} {a b : Nat} (h : a ≤ s.length) : (put s a b q).take a = s.take a := by
  unfold put
  rw [List.append_assoc, List.take_append_of_le_length (by rw [List.length_take]; omega), List.take_take, Nat.min_self]
theorem pos_put {s q : List Nat} {a b : Nat} (h : a ≤ s.length) : pos (put s a b q) a = pos s a := by
  unfold pos
  rw [take_put h]
def unEd (x : List Nat × Ed) : Ed := ⟨x.2.a, x.2.a + x.2.q.length, (x.1.drop x.2.a).take (x.2.b - x.2.a)⟩
theorem undo_ed {x : List Nat × Ed} (h : x.2.can x.1) : undo x = edD (x.2.on x.1) (unEd x) := by
  have h1 := h.1
  have h2 := h.2.1
  unfold undo edD unEd
  show D.tup [pl (pos x.1 x.2.a), _, _] = D.tup [pl (pos (put x.1 x.2.a x.2.b x.2.q) x.2.a), _, _]
  rw [pos_put (by omega)]
theorem undo_on {x : List Nat × Ed} (h : x.2.can x.1) : (unEd x).on (x.2.on x.1) = x.1 := by
  obtain ⟨s, a, b, q⟩ := x
  have h1 : a ≤ b := h.1
  have h2 : b ≤ s.length := h.2.1
  show put (put s a b q) a (a + q.length) ((s.drop a).take (b - a)) = s
  have hd : (put s a b q).drop (a + q.length) = s.drop b := by
    unfold put
    rw [List.drop_append_of_le_length (by rw [List.length_append, List.length_take]; omega), List.drop_eq_nil_of_le (by rw [List.length_append, List.length_take]; omega), List.nil_append]
  show (put s a b q).take a ++ (s.drop a).take (b - a) ++ (put s a b q).drop (a + q.length) = s
  rw [take_put (by omega), hd]
  have e : s.drop b = (s.drop a).drop (b - a) := by
    rw [List.drop_drop]
    congr 1
    omega
  rw [e, List.append_assoc, List.take_append_drop, List.take_append_drop]
theorem okL_mono : ∀ {n : Nat} {d : D}, okL n d → okL (n + 1) d
  | 0, _, h => h.elim
  | n + 1, d, h => by
    rcases h with h | ⟨ds, h1, h2, h3⟩
    · exact .inl h
    · exact .inr ⟨ds, h1, h2, fun x hx => okL_mono (h3 x hx)⟩
theorem okL_pl (p : Nat × Nat) : okL 2 (pl p) := .inr ⟨_, .inl rfl, by simp, fun x hx => by
  rcases List.mem_cons.mp hx with rfl | hx
  · exact .inl trivial
  · rw [List.mem_singleton.mp hx]; exact .inl trivial⟩
theorem okL_tog (s t : List Nat) : okL 3 (togD s t) := by
  unfold togD
  by_cases h : t = s
  · rw [if_pos h]; exact .inl trivial
  · rw [if_neg h]
    refine .inr ⟨_, .inl rfl, by simp, fun x hx => ?_⟩
    rcases List.mem_cons.mp hx with rfl | hx
    · exact okL_pl _
    rcases List.mem_cons.mp hx with rfl | hx
    · exact okL_pl _
    · rw [List.mem_singleton.mp hx]; exact .inl trivial
theorem qs_edits {ns : List Int} {a : Addr} {σ : L2.St} {H : Hp} {E : XK} {l : List Nat} {p q i j : Nat} {D' : Ends} {tz : TS} (hp : σ[p]? = some (some (.ref a))) (hq : σ[q]? = some (some (.str (S l)))) (hl : okT 200 l) (s : StO K ns a H)
    (k : ∀ es v H1, Ch l es → es.length ≤ 8 → ExB a H H1 → StO K ns a H1 → Rp H1 (editsD l es) v → tz D' ((σ.set i (some v)).set j (some (.str (S (fin l es))))) H1) :
    tSeq (tAsg (tCall (sp__law_edits K) [] E (tCons (tVar p) (tCons (tVar q) (tCons (tC (.int 8)) tNil)))) (gTup K 2 (gCons (gName i) (gCons (gName j) gNil)))) tz D' σ H :=
  ⟨_, hp, _, hq, a, l, ns, rfl, hl, s, fun es v H1 hc h8 hv x1 s1 => by
    obtain ⟨p, vs, rfl, h2, h3⟩ := rp_tup.mp hv
    obtain ⟨v1, r1, rfl, a1, h3⟩ := rps_cons.mp h3
    obtain ⟨v2, r2, rfl, a2, h3⟩ := rps_cons.mp h3
    rw [rps_nil.mp h3] at h2
    refine ⟨p, [v1, v2], rfl, st_of h2, rfl, v1, [v2], rfl, v2, [], rfl, rfl, ?_⟩
    rw [rp_str.mp a2]
    exact k es v1 H1 hc h8 x1 s1 a1⟩
end
end HW

set_option Elab.async false
set_option linter.all false
set_option maxRecDepth 100000
namespace HW
open PySem PySem.Spec PyProof.Rows L2 Evl SX
section
variable {P : Program} {w : World} {K : PySem.W.Frag} {mg : Str → Option Value} {base : Heap}
def sp_law (K : PySem.W.Frag) : Sp := fun vs H Q _ => ∃ (sc : Addr) (ns : List Int), vs = [.ref sc] ∧ Scr K H sc (ns.map V.int) ∧ ∀ H', Q (.bl true) H'
def e1' : Ed := ⟨0, 0, [97, 98]⟩
def e2' : Ed := ⟨0, 2, []⟩
theorem ab_ch {l : List Nat} (h : okT 200 l) (hl : l.length < 199) : Ch l [e1', e2'] := by
  have hl1 : l.length ≤ 200 := h.1
  refine ⟨⟨Nat.le_refl _, Nat.zero_le _, ⟨by decide, by decide⟩, ?_⟩, ⟨by decide, ?_, ⟨by decide, by decide⟩, ?_⟩, trivial⟩
  · show ([97, 98] ++ l).length ≤ 200
    rw [List.length_append]
    show 2 + l.length ≤ 200
    omega
  · show 2 ≤ ([97, 98] ++ l).length
    rw [List.length_append]
    show 2 ≤ 2 + l.length
    omega
  · show (([97, 98] ++ l).drop 2).length ≤ 200
    exact hl1
theorem ab_fin (l : List Nat) : fin l [e1', e2'] = l := rfl
theorem ab_ed (l : List Nat) : (st l [e1', e2']).map edx = [.tup [.tup [.int 0, .int 0], .tup [.int 0, .int 0], .str [97, 98]]] ++ [.tup [.tup [.int 0, .int 0], .tup [.int 0, .int 2], .str []]] := rfl
theorem tup_edx (xs : List (List Nat × Ed)) : ∀ d ∈ xs.map edx, ∃ es, d = .tup es := fun d hd => by
  obtain ⟨y, _, rfl⟩ := List.mem_map.mp hd
  exact ⟨_, rfl⟩
theorem tup_undo (xs : List (List Nat × Ed)) : ∀ d ∈ xs.map undo, ∃ es, d = .tup es := fun d hd => by
  obtain ⟨y, _, rfl⟩ := List.mem_map.mp hd
  exact ⟨_, rfl⟩
theorem nls_undo (xs : List (List Nat × Ed)) : nls (xs.map undo) = true := nls_all fun d hd => by
  obtain ⟨y, _, rfl⟩ := List.mem_map.mp hd
  rfl
theorem sc_law : FnScope ["_law_script", "_law_state", "_law_turn", "_law_sheet_here", "_law_edits_here", "_law_behind", "_law_handed", "_law_found", "_law_here", "_law_stands", "_law_one", "_law_k"] ["_law_script"] (defScope (topS 38)) := ⟨rfl, rfl, rfl, by decide +kernel, rfl, by decide +kernel, by decide +kernel⟩
theorem ok_law {f : Addr} {fd : FuncData} (F : Fun K "law" "law" (topS 38) f fd) (m_range : mg "range" = none) (m_len : mg "len" = none) (m_list : mg "list" = none) (m_isinstance : mg "isinstance" = none) (d__law_start : Df P w K mg base "_law_start" ["_law_script"] 1 (sp__law_start K)) (d__law_sheet : Df P w K mg base "_law_sheet" ["_law_state"] 4 (sp__law_sheet K)) (d__law_edits : Df P w K mg base "_law_edits" ["_law_state", "_law_sheet_here", "_law_most"] 5 (sp__law_edits K)) (d__law_drawn : Df P w K mg base "_law_drawn" ["_law_state", "_law_many"] 1 (spDrawn K)) (d__law_same : Df P w K mg base "_law_same" ["_law_found", "_law_due"] 3 (SameSp (okL 3))) (d__law_together : Df P w K mg base "_law_together" ["_law_sheet_here", "_law_other"] 2 sp__law_together) (d_together : Df P w K mg base "together" ["sheet", "edits"] 8 sp_together) (d_back : Df P w K mg base "back" ["sheet", "edits"] 7 sp_back) (d__law_after : Df P w K mg base "_law_after" ["_law_sheet_here", "_law_one"] 2 sp__law_after) (d__law_numbers : Df P w K mg base "_law_numbers" ["_law_sheet_here"] 1 (sp__law_numbers)) : FnOk P w K mg base CX0 9 f fd ["_law_script"] (sp_law K) := by
  refine F.ok sc_law (fun vs H Q E h => by obtain ⟨sc, ns, rfl, _⟩ := h; rfl) (fun cdv A outer s H vs Q E hr h => ?_)
  obtain ⟨sc, ns, rfl, hs, q⟩ := h
  refine ⟨_, (pss_cons (ps_set (i := 1) sc_law.nd rfl (.inl rfl) (d__law_start.pe (hr.mono (by decide)) (pa_cons (pv 0) pa_nil)))
      (pss_cons (ps_for PassesOwn.never rfl (pi_range1 (by rfl) m_range (pa_cons pe_int pa_nil)) (pg_name (i := 2) sc_law.nd rfl (.inl rfl))
        (pss_cons (ps_set (i := 3) sc_law.nd rfl (.inl rfl) (d__law_sheet.pe (hr.mono (by decide)) (pa_cons (pv 1) pa_nil)))
      (pss_cons (ps_asg (d__law_edits.pe (hr.mono (by decide)) (pa_cons (pv 1) (pa_cons (pv 3) (pa_cons pe_int pa_nil)))) (pg_tup rfl (pgs_cons (pg_name (i := 4) sc_law.nd rfl (.inl rfl)) (pgs_cons (pg_name (i := 5) sc_law.nd rfl (.inl rfl)) pgs_nil))))
      (Evl.pss_cut (ps_if (pt_cmpR op_eq (d__law_drawn.pe (hr.mono (by decide)) (pa_cons (pv 1) (pa_cons pe_int pa_nil))) pe_int (nomark _))
        (pss_cons (ps_set (i := 4) sc_law.nd rfl (.inl rfl) (pe_ifExp (pt_cmpR op_lt (pe_callB call_len_str (by rfl) m_len PySem.boot_len (pa_cons (pv 3) pa_nil)) pe_int (nomark _)) (pe_op op_cat (pe_lst (pa_cons (pe_tup (pa_cons (pe_tup (pa_cons pe_int (pa_cons pe_int pa_nil))) (pa_cons (pe_tup (pa_cons pe_int (pa_cons pe_int pa_nil))) (pa_cons pe_str pa_nil)))) pa_nil)) (pe_lst (pa_cons (pe_tup (pa_cons (pe_tup (pa_cons pe_int (pa_cons pe_int pa_nil))) (pa_cons (pe_tup (pa_cons pe_int (pa_cons pe_int pa_nil))) (pa_cons pe_str pa_nil)))) pa_nil))) (pe_lst pa_nil)))
      (pss_one (ps_set (i := 5) sc_law.nd rfl (.inl rfl) (pv 3))))
        pss_nil)
      (pss_cons (ps_set (i := 6) sc_law.nd rfl (.inl rfl) (pe_callTy call_list_of (by rfl) m_list (by decide +kernel) (pa_cons (pv 4) pa_nil)))
      (pss_cons (ps_if (PW.pt (pw_or (pt_not (pt_val (d__law_same.pe (hr.mono (by decide)) (pa_cons (d_together.pe (hr.mono (by decide)) (pa_cons (pv 3) (pa_cons (pv 6) pa_nil))) (pa_cons (d__law_together.pe (hr.mono (by decide)) (pa_cons (pv 3) (pa_cons (pv 5) pa_nil))) pa_nil))))) (pw_or1 (pt_cmpR (op_neD hr.units) (pv 6) (pv 4) (nomark _)))))
        (pss_one (ps_ret pe_bl))
        pss_nil)
      (pss_cons (ps_set (i := 7) sc_law.nd rfl (.inl rfl) (d_back.pe (hr.mono (by decide)) (pa_cons (pv 3) (pa_cons (pv 6) pa_nil))))
      (pss_cons (ps_if (PW.pt (pw_or (pt_not (pt_val (pe_callB call_isi (by rfl) m_isinstance (by decide +kernel) (pa_cons (pv 7) (pa_cons (pe_bltn (v := .ty "list") (by rfl) m_list (by decide +kernel) rfl) pa_nil))))) (pw_or (pt_cmpR op_ne (pe_callB call_len_seq (by rfl) m_len PySem.boot_len (pa_cons (pv 7) pa_nil)) (pe_callB call_len_seq (by rfl) m_len PySem.boot_len (pa_cons (pv 4) pa_nil)) (nomark _)) (pw_or1 (pt_cmpR (op_neD hr.units) (pv 6) (pv 4) (nomark _))))))
        (pss_one (ps_ret pe_bl))
        pss_nil)
      (pss_cons (ps_par (i := 8) (j := 9) rfl sc_law.nd rfl rfl (by decide) rfl rfl (pa_cons (pv 3) (pa_cons (pe_lst pa_nil) pa_nil)) (by rfl))
      (pss_cons (ps_for PassesOwn.never rfl (pi_list (pv 4)) (pg_name (i := 10) sc_law.nd rfl (.inl rfl))
        (pss_cons (ps_expr (pe_bm PySem.F.plainAttrs_list PySem.F.slot_list_append PySem.F.type_list_append mt_append (pv 9) (pa_cons (pv 8) pa_nil)))
      (pss_one (ps_set (i := 8) sc_law.nd rfl (.inl rfl) (d__law_after.pe (hr.mono (by decide)) (pa_cons (pv 8) (pa_cons (pv 10) pa_nil)))))))
      (pss_cons (ps_for PassesOwn.never rfl (pi_range1 (by rfl) m_range (pa_cons (pe_callB call_len_seq (by rfl) m_len PySem.boot_len (pa_cons (pv 7) pa_nil)) pa_nil)) (pg_name (i := 11) sc_law.nd rfl (.inl rfl))
        (pss_cons (ps_if (PW.pt (pw_or (pt_cmpR (op_neD hr.units) (pe_ix (r := rIxT K) ix_tup (pe_ix (r := rIxL K) ix_list (pv 7) (pv 11) (fun _ _ => rfl)) pe_int (fun _ _ => rfl)) (pe_ix (r := rIxT K) ix_tup (pe_ix (r := rIxL K) ix_list (pv 4) (pe_op op_sub (pe_op op_sub (pe_callB call_len_seq (by rfl) m_len PySem.boot_len (pa_cons (pv 4) pa_nil)) pe_int) (pv 11)) (fun _ _ => rfl)) pe_int (fun _ _ => rfl)) (nomark _)) (pw_or1 (pt_cmp (pc_dnotin (hu_of hr) (pe_ix (r := rIxT K) ix_tup (pe_ix (r := rIxL K) ix_list (pv 7) (pv 11) (fun _ _ => rfl)) pe_int (fun _ _ => rfl)) (d__law_numbers.pe (hr.mono (by decide)) (pa_cons (pv 8) pa_nil)))))))
        (pss_one (ps_ret pe_bl))
        pss_nil)
      (pss_cons (ps_if (pt_cmp (pc_dnotin (hu_of hr) (pe_ix (r := rIxT K) ix_tup (pe_ix (r := rIxL K) ix_list (pv 7) (pv 11) (fun _ _ => rfl)) pe_int (fun _ _ => rfl)) (d__law_numbers.pe (hr.mono (by decide)) (pa_cons (pv 8) pa_nil))))
        (pss_one (ps_ret pe_bl))
        pss_nil)
      (pss_cons (ps_set (i := 8) sc_law.nd rfl (.inl rfl) (d__law_after.pe (hr.mono (by decide)) (pa_cons (pv 8) (pa_cons (pe_ix (r := rIxL K) ix_list (pv 7) (pv 11) (fun _ _ => rfl)) pa_nil))))
      (pss_one (ps_if (pt_cmpR op_ne (pv 8) (pe_ix (r := rIxL K) ix_list (pv 9) (pe_op op_sub (pe_op op_sub (pe_callB call_len_seq (by rfl) m_len PySem.boot_len (pa_cons (pv 4) pa_nil)) pe_int) (pv 11)) (fun _ _ => rfl)) (nomark _))
        (pss_one (ps_ret pe_bl))
        pss_nil))))))
      (pss_one (ps_expr (pe_bm PySem.F.plainAttrs_list PySem.F.slot_list_append PySem.F.type_list_append mt_append (pv 7) (pa_cons pe_int pa_nil)))))))))))))))
      (pss_one (ps_ret pe_bl)))), ?_⟩
  refine (show tSeq _ _ _ _ _ from ?_)
  refine ⟨_, rfl, sc, ns, rfl, hs, fun a H1 ha e1 s1 => ?_⟩
  refine q_forR1 (n := 5) (ea_cons ev_c ea_nil) ⟨by decide, by decide⟩ (fun i σ' H' => ∃ y2 y3 y4 y5 y6 y7 y8 y9 y10 y11, σ' = [some (.ref sc), some (.ref a), y2, y3, y4, y5, y6, y7, y8, y9, y10, y11] ∧ StO K ns a H') (fun H2 e2 => ⟨none, none, none, none, none, none, none, none, none, none, rfl, s1.mono e2⟩) ?_ fun σ' H' _ => s_ret ev_c fun H2 _ => q H2
  rintro i σ' H' _ ⟨y2, y3, y4, y5, y6, y7, y8, y9, y10, y11, rfl, s2⟩
  refine qs_asg (es_call (PS := fun us => us = []) rfl esa_nil (fun us hu => by subst hu; exact ⟨rfl, .str (S []), rfl, [], rfl, by simp, rfl⟩)) s2 fun v3 H3 x3 s3 p3 => ?_
  obtain ⟨us, rfl, _, l, rfl, hl⟩ := p3
  have hl1 := hl.1
  refine qs_edits (p := 1) (q := 3) rfl rfl hl s3 fun es v4 H4 hc h8 x4 s4 r4 => ?_
  refine q_cut (M := fun σ' H' => ∃ es v4, σ' = [some (.ref sc), some (.ref a), some (.int (i : Int)), some (.str (S l)), some v4, some (.str (S (fin l es))), y6, y7, y8, y9, y10, y11] ∧ Ch l es ∧ es.length ≤ 8 ∧ StO K ns a H' ∧ Rp H' (editsD l es) v4) ?_ ?_
  · refine ss_if (es_op (P2 := fun v => v = .int 0) (es_drawn rfl (es_of (fun _ _ => ev_c) rfl) (by decide) (by decide)) (es_of (fun _ _ => ev_c) rfl) ?_) s4 (fun H5 x5 s5 => ?_) fun H5 x5 s5 => ⟨es, v4, rfl, hc, h8, s5, ?_⟩
    · rintro x y ⟨k, rfl, _, _⟩ rfl
      exact ⟨_, fun H => rv_eqI, _, rfl⟩
    · by_cases hlt : l.length < 199
      · refine qd_asg (d := editsD l [e1', e2']) (ed_if (b := true) (et_is (et_test (ev_op (ev_lenS (ev_var rfl) (by omega)) ev_c rv_I0)) (decide_eq_true (by omega))) (fun _ => ?_) fun z => by cases z) fun v5 H6 e6 r6 => s_asg (ev_var rfl) fun H7 e7 => ⟨[e1', e2'], v5, rfl, ab_ch hl hlt, by decide, s5.mono (e6.trans e7), r6.ex e7⟩
        unfold editsD
        rw [ab_ed]
        have pz : ∀ {H : Hp} {σ : L2.St} {m : Int}, EvD (tTup (tCons (tC (.int 0)) (tCons (tC (.int m)) tNil))) σ H (.tup [.int 0, .int m]) := ed_tup (eda_cons (ed_i ev_c) (eda_cons (ed_i ev_c) eda_nil))
        exact ed_cat (ed_lst (eda_cons (ed_tup (eda_cons pz (eda_cons pz (eda_cons (ed_s ev_c) eda_nil)))) eda_nil)) (ed_lst (eda_cons (ed_tup (eda_cons pz (eda_cons pz (eda_cons (ed_s ev_c) eda_nil)))) eda_nil)) (by simp)
      · exact qd_asg (d := editsD l []) (ed_if (b := false) (et_is (et_test (ev_op (ev_lenS (ev_var rfl) (by omega)) ev_c rv_I0)) (decide_eq_false (by omega))) (fun z => by cases z) fun _ => ed_nilL) fun v5 H6 e6 r6 => s_asg (ev_var rfl) fun H7 e7 => ⟨[], v5, rfl, trivial, by decide, s5.mono (e6.trans e7), r6.ex e7⟩
    · exact s4.keep x5 r4 (tup_edx _) (nls_edx _)
  · rintro σ' H5 ⟨es, v4, rfl, hc, h8, s5, r4⟩
    have hfo := fin_all hl hc
    have hf1 := hfo.1
    refine qd_asg (ed_listof (ed_var rfl r4)) fun v6 H6 e6 r6 => ?_
    have r46 := r4.ex e6
    have hsh := sh_edits hc
    refine q_when (et_or0 (et_no (et_B (EvD.b (ed_call (eda_cons (ed_call (eda_cons (ed_s (ev_var rfl)) (eda_cons (ed_var rfl r6) eda_nil)) ⟨l, es, rfl, hl, hc, h8, rfl⟩) (eda_cons (ed_call (eda_cons (ed_s (ev_var rfl)) (eda_cons (ed_s (ev_var rfl)) eda_nil)) ⟨l, fin l es, rfl, by omega, by omega, rfl⟩) eda_nil)) ⟨togD l (fin l es), rfl, okL_tog _ _, rfl⟩)))) (et_test (ev_neD (ed_var rfl r6) (ed_var rfl r46) hsh))) (fun z => by cases z) fun _ H7 e7 => ?_
    refine qd_asg (ed_call (eda_cons (ed_s (ev_var rfl)) (eda_cons (ed_var rfl (r6.ex e7)) eda_nil)) ⟨l, es, rfl, hl, hc, h8, rfl⟩) fun v7 H8 e8 r8 => ?_
    have e68 := e7.trans e8
    refine q_when (et_or0 (et_no (et_B (ed_isi (ed_var rfl r8) k_ll))) (et_or0 (et_is (et_test (ev_op (ed_lenL (ed_var rfl r8)) (ed_lenL (ed_var rfl (r46.ex e68))) rv_neI)) ?_) (et_test (ev_neD (ed_var rfl (r6.ex e68)) (ed_var rfl (r46.ex e68)) hsh)))) (fun z => by cases z) fun _ H9 e9 => ?_
    · rw [List.length_map, List.length_map, List.length_reverse]
      simp
    refine q_parL (ev_var rfl) (el_lst ea_nil (by simp)) fun sa H10 hsa e10 hs10 => ?_
    have e69 := e68.trans e9
    have e610 := e69.trans e10
    have s10 := (s5.mono e6).mono e610
    obtain ⟨ea, ws, rfl, h4a, h4b⟩ := rp_lst.mp (r46.ex e610)
    obtain ⟨fo, fs, rfl, h7a, h7b⟩ := rp_lst.mp (r8.ex (e9.trans e10))
    obtain ⟨_, _, h4r, h4o, _⟩ := rp_lst.mp (r46.ex e69)
    cases h4r
    obtain ⟨_, _, h7r, h7o, _⟩ := rp_lst.mp (r8.ex e9)
    cases h7r
    have nea : ea ≠ sa := ne_of_none h4o hsa
    have nfo : fo ≠ sa := ne_of_none h7o hsa
    have nas : a ≠ sa := by
      obtain ⟨_, _, _, _, g1, _⟩ := ((s5.mono e6).mono e69).ex
      exact ne_of_none g1 hsa
    have hwl : ws.length = es.length := by rw [rps_len h4b, List.length_map, st_len]
    have hfl : fs.length = es.length := by rw [rps_len h7b, List.length_map, List.length_reverse, st_len]
    refine q_forLn (xs := ws) (ev_var rfl) (sq_of h4a) (fun j σ' H' => ∃ y10, σ' = [some (.ref sc), some (.ref a), some (.int (i : Int)), some (.str (S l)), some (.ref ea), some (.str (S (fin l es))), some v6, some (.ref fo), some (.str (S (fin l (es.take j)))), some (.ref sa), y10, y11] ∧ ExB sa H10 H' ∧ H' sa = some (.lst ((List.range j).map fun m => V.str (S (fin l (es.take m))))))
      (fun H11 e11 => ⟨y10, rfl, .of e11, e11 _ _ hs10⟩) (fun j σ' H' _ ⟨_, _, x, _⟩ => sq_of (x _ _ nea h4a)) ?_ ?_
    · rintro j x σ' H' hx ⟨y10, rfl, xb, hsa'⟩
      have hj : j < es.length := by
        rw [← hwl]
        exact (List.getElem?_eq_some_iff.mp hx).1
      have hej : es[j]? = some es[j] := List.getElem?_eq_getElem hj
      have hst := st_get l es j _ hej
      have hcan := hc.get hej
      have hok := (fin_ok j hl hc).1
      obtain ⟨x', hx', rx⟩ := rps_get (i := j) (d := edx (fin l (es.take j), es[j])) h4b (by rw [List.getElem?_map, hst]; rfl)
      rw [hx] at hx'
      cases hx'
      have txb : Tx H10 H' := fun b xs hb => xb b _ (fun z => by rw [z, hs10] at hb; cases hb) hb
      refine q_app hsa' (ev_var rfl) (ev_var rfl) (by rw [List.length_map, List.length_range]; omega) fun H12 e12 => ?_
      have hsa2 := e12 _ _ hsa'
      have rx2 : Rp (upd H12 sa (.lst (((List.range j).map fun m => V.str (S (fin l (es.take m)))) ++ [V.str (S (fin l (es.take j)))]))) (edD (fin l (es.take j)) es[j]) x := Rp.tx (Tx.lst hsa2) rfl (Rp.tx (txb.trans (.of e12)) rfl rx)
      have c1 := hcan.1
      have c2 := hcan.2.1
      have c3 := hcan.2.2.1.1
      refine sd_asg (ed_call (eda_cons (ed_s (ev_var rfl)) (eda_cons (ed_var rfl rx2) eda_nil)) ⟨_, es[j], rfl, by omega, by omega, by omega, by omega, rfl⟩) fun v H13 e13 r13 => ⟨some x, ?_, ?_, ?_⟩
      · rw [rp_str.mp r13, fin_succ l es j _ hej]
        rfl
      · refine (xb.trans (.of e12)).trans (ExB.trans (ExB.upd _ _ _) (.of e13))
      · rw [List.range_succ, List.map_append]
        exact e13 _ _ upd_same
    · rintro σ' H11 ⟨y10, rfl, xb, hs11⟩
      rw [hwl] at *
      have txb : Tx H10 H11 := fun b xs hb => xb b _ (fun z => by rw [z, hs10] at hb; cases hb) hb
      have s11 : StO K ns a H11 := by
        obtain ⟨sc', i', m', r', g1, g2, g3⟩ := s10.ex
        exact ⟨sc', i', m', r', xb _ _ nas g1, xb.seq hs10 g2, g3⟩
      have r7 : Rp H11 (.lst ((st l es).reverse.map undo)) (.ref fo) := rp_lst.mpr ⟨fo, fs, rfl, xb _ _ nfo h7a, Rps.tx txb (nls_undo _) h7b⟩
      have r4' : Rp H11 (editsD l es) (.ref ea) := rp_lst.mpr ⟨ea, ws, rfl, xb _ _ nea h4a, Rps.tx txb (nls_edx _) h4b⟩
      have rS : Rp H11 (.lst ((List.range es.length).map fun m => D.str (fin l (es.take m)))) (.ref sa) := rp_lst.mpr ⟨sa, _, rfl, hs11, rps_of_map _ _ (fun m => rp_str.mpr rfl) _⟩
      have hlen7 : (((st l es).reverse.map undo).length : Int) = (es.length : Int) := by rw [List.length_map, List.length_reverse, st_len]
      refine q_forR1 (n := (es.length : Int)) (ea_cons (ev_is (ed_lenL (ed_var rfl r7)) (by rw [hlen7])) ea_nil) ⟨by omega, by omega⟩ (fun k σ' H' => ∃ y11, σ' = [some (.ref sc), some (.ref a), some (.int (i : Int)), some (.str (S l)), some (.ref ea), some (.str (S (fin l es))), some v6, some (.ref fo), some (.str (S (fin l (es.take (es.length - k))))), some (.ref sa), y10, y11] ∧ Ex H11 H')
        (fun H12 e12 => ⟨y11, rfl, e12⟩) ?_ ?_
      · rintro k σ' H12 hk ⟨y11, rfl, e12⟩
        have hk : k < es.length := by omega
        have hm : es.length - 1 - k < es.length := by omega
        have hem : es[es.length - 1 - k]? = some es[es.length - 1 - k] := List.getElem?_eq_getElem hm
        have hst := st_get l es _ _ hem
        have hcan := hc.get hem
        have hok := fin_ok (es.length - 1 - k) hl hc
        have hon := on_ok hok hcan
        have hfs := fin_succ l es _ _ hem
        have em : es.length - 1 - k + 1 = es.length - k := by omega
        rw [em] at hfs
        have hrev : ((st l es).reverse.map undo)[k]? = some (undo (fin l (es.take (es.length - 1 - k)), es[es.length - 1 - k])) := by
          rw [List.getElem?_map, List.getElem?_reverse (by rw [st_len]; exact hk), st_len, hst]
          rfl
        have hedm : ((st l es).map edx)[es.length - 1 - k]? = some (edx (fin l (es.take (es.length - 1 - k)), es[es.length - 1 - k])) := by
          rw [List.getElem?_map, hst]
          rfl
        have hstm : ((List.range es.length).map fun m => D.str (fin l (es.take m)))[es.length - 1 - k]? = some (.str (fin l (es.take (es.length - 1 - k)))) := by
          rw [List.getElem?_map, List.getElem?_range hm]
          rfl
        rw [hfs]
        have huo := undo_on (x := (fin l (es.take (es.length - 1 - k)), es[es.length - 1 - k])) hcan
        have hue := undo_ed (x := (fin l (es.take (es.length - 1 - k)), es[es.length - 1 - k])) hcan
        have eback : es.length - (k + 1) = es.length - 1 - k := by omega
        rw [eback]
        generalize es[es.length - 1 - k] = e at *
        generalize fin l (es.take (es.length - 1 - k)) = s' at *
        have b1 := hok.1
        have b2 := hcan.1
        have b3 := hcan.2.1
        have b4 := hcan.2.2.1.1
        have b5 : (put s' e.a e.b e.q).length ≤ 200 := hcan.2.2.2
        have b6 := put_len (q := e.q) b2 b3
        have b7 : (e.on s').length = (put s' e.a e.b e.q).length := rfl
        have ixm : ∀ {H' : Hp} {σ : L2.St}, σ[4]? = some (some (.ref ea)) → σ[11]? = some (some (.int (k : Int))) → Ex H11 H' → Ev (tOp (rI0 fun i j => .int (i - j)) (tOp (rI0 fun i j => .int (i - j)) (tCB (fun xs H Q => ∃ p ys, xs = [.ref p] ∧ (SqL K H p ys ∨ SqT K H p ys) ∧ Q (.int ys.length) H) (tCons (tVar 4) tNil)) (tC (.int 1))) (tVar 11)) σ H' (.int ((es.length - 1 - k : Nat) : Int)) := fun h1 h2 h3 =>
          ev_is (ev_op (ev_op (ed_lenL (ed_var h1 (r4'.ex h3))) ev_c rv_I0) (ev_var h2) rv_I0) (by rw [List.length_map, st_len]; show V.int _ = V.int _; congr 1; omega)
        have fk : ∀ {H' : Hp} {σ : L2.St}, σ[7]? = some (some (.ref fo)) → σ[11]? = some (some (.int (k : Int))) → Ex H11 H' → EvD (tOp (rIxL K) (tVar 7) (tVar 11)) σ H' (undo (s', e)) := fun h1 h2 h3 => ed_ixL (ed_var h1 (r7.ex h3)) (ev_var h2) (atI_nat hrev)
        refine q_when (et_or0 (et_test (ev_neD (d := pl (pos s' e.a)) (ed_ixT (fk rfl rfl e12) ev_c rfl) (ed_ixT (ed_ixL (ed_var rfl (r4'.ex e12)) (ixm rfl rfl e12) (atI_nat hedm)) ev_c rfl) (sh_pl _))) (et_B (ev_notin (l := e.on s') (n := e.a) (ed_ixT (fk rfl rfl e12) ev_c (by rw [pos_put (by omega)]; rfl)) (ev_var rfl) (by omega) (by omega)))) (fun z => by cases z) fun _ H13 e13 => ?_
        have e123 := e12.trans e13
        refine q_when (et_B (ev_notin (l := e.on s') (n := e.a + e.q.length) (ed_ixT (fk rfl rfl e123) ev_c rfl) (ev_var rfl) (by omega) (by omega))) (fun z => by cases z) fun _ H14 e14 => ?_
        have e124 := e123.trans e14
        refine qd_asg (d := .str s') ?_ fun v H15 e15 r15 => ?_
        · have := fk (H' := H14) (σ := [some (.ref sc), some (.ref a), some (.int (i : Int)), some (.str (S l)), some (.ref ea), some (.str (S (fin l es))), some v6, some (.ref fo), some (.str (S (e.on s'))), some (.ref sa), y10, some (.int (k : Int))]) rfl rfl e124
          rw [hue] at this
          have hx := ed_call (E := E0) (n := 2) (R := fun ds d => ∃ s e, ds = [.str s, edD s e] ∧ s.length ≤ 1000 ∧ e.a ≤ s.length ∧ e.b ≤ s.length ∧ e.q.length ≤ 1000 ∧ d = .str (e.on s)) (d := .str s') (eda_cons (ed_s (ev_var (i := 8) rfl)) (eda_cons this eda_nil)) ⟨_, _, rfl, by show (put s' e.a e.b e.q).length ≤ 1000; omega, by show e.a ≤ (put s' e.a e.b e.q).length; omega, by show e.a + e.q.length ≤ (put s' e.a e.b e.q).length; omega, by show ((s'.drop e.a).take (e.b - e.a)).length ≤ 1000; rw [List.length_take, List.length_drop]; omega, by rw [huo]⟩
          exact hx
        · rw [rp_str.mp r15]
          refine s_when (et_is (et_test (ev_op (ev_var rfl) (EvD.s (ed_ixL (ed_var rfl (rS.ex (e124.trans e15))) (ixm rfl rfl (e124.trans e15)) (atI_nat hstm))) rv_neS)) (show (!decide (s' = s')) = false by simp)) (fun z => by cases z) fun _ H16 e16 => ⟨some (.int (k : Int)), rfl, (e124.trans e15).trans e16⟩
      · rintro σ' H12 ⟨y11, rfl, e12⟩
        obtain ⟨fo', fs', hfo', h12a, h12b⟩ := rp_lst.mp (r7.ex e12)
        cases hfo'
        have s12 := s11.mono e12
        have nfa : fo ≠ a := s12.ne h12a h12b (tup_undo _)
        refine s_app h12a (ev_var rfl) ev_c (by rw [rps_len h12b, List.length_map, List.length_reverse, st_len]; omega) fun H13 e13 => ⟨_, _, _, _, _, _, _, _, _, _, rfl, (s12.mono e13).upd (e13 _ _ h12a) nfa⟩
end
end HW

set_option Elab.async false
set_option linter.all false
set_option maxRecDepth 100000
namespace HW
open PySem PySem.Spec PyProof.Rows L2 Evl SX
section
theorem all_mk {l : PySem.W.OpenLaw} {w : World} {K : PySem.W.Frag} {h : Heap} {mg : Str → Option Value} {fa : Addr} (X : K.In h) (G : h.Ns mainGlobals mg) (hfa : mg "law" = some (.ref fa))
    {f0 : Addr} {od0 an0 : Option Addr} {sl0 : Array (Option Value)} {oc0 kV0 dc0 pm0 cd0 ct0 : Value} (a0 : PySem.W.nsIn K mainGlobals "_law_start" = some (some (.ref f0))) (l0 : K.lookup f0 = some ⟨oc0, od0, .func (PySem.W.fnOf "_law_start" "_law_start" (defArgs (topS 26)) (defBody (topS 26)) (defScope (topS 26)) .none kV0 dc0 pm0 an0 cd0 ct0), sl0⟩) (c0 : PySem.W.codeIn K cd0 "_law_start" = true) (k0 : PySem.W.keepIn K (.ref f0) = true)
    {f1 : Addr} {od1 an1 : Option Addr} {sl1 : Array (Option Value)} {oc1 kV1 dc1 pm1 cd1 ct1 : Value} (a1 : PySem.W.nsIn K mainGlobals "_law_drawn" = some (some (.ref f1))) (l1 : K.lookup f1 = some ⟨oc1, od1, .func (PySem.W.fnOf "_law_drawn" "_law_drawn" (defArgs (topS 27)) (defBody (topS 27)) (defScope (topS 27)) .none kV1 dc1 pm1 an1 cd1 ct1), sl1⟩) (c1 : PySem.W.codeIn K cd1 "_law_drawn" = true) (k1 : PySem.W.keepIn K (.ref f1) = true)
    {f2 : Addr} {od2 an2 : Option Addr} {sl2 : Array (Option Value)} {oc2 kV2 dc2 pm2 cd2 ct2 : Value} (a2 : PySem.W.nsIn K mainGlobals "_law_sign" = some (some (.ref f2))) (l2 : K.lookup f2 = some ⟨oc2, od2, .func (PySem.W.fnOf "_law_sign" "_law_sign" (defArgs (topS 29)) (defBody (topS 29)) (defScope (topS 29)) .none kV2 dc2 pm2 an2 cd2 ct2), sl2⟩) (c2 : PySem.W.codeIn K cd2 "_law_sign" = true) (k2 : PySem.W.keepIn K (.ref f2) = true)
    {f3 : Addr} {od3 an3 : Option Addr} {sl3 : Array (Option Value)} {oc3 kV3 dc3 pm3 cd3 ct3 : Value} (a3 : PySem.W.nsIn K mainGlobals "_law_put" = some (some (.ref f3))) (l3 : K.lookup f3 = some ⟨oc3, od3, .func (PySem.W.fnOf "_law_put" "_law_put" (defArgs (topS 30)) (defBody (topS 30)) (defScope (topS 30)) .none kV3 dc3 pm3 an3 cd3 ct3), sl3⟩) (c3 : PySem.W.codeIn K cd3 "_law_put" = true) (k3 : PySem.W.keepIn K (.ref f3) = true)
    {f4 : Addr} {od4 an4 : Option Addr} {sl4 : Array (Option Value)} {oc4 kV4 dc4 pm4 cd4 ct4 : Value} (a4 : PySem.W.nsIn K mainGlobals "_law_sheet" = some (some (.ref f4))) (l4 : K.lookup f4 = some ⟨oc4, od4, .func (PySem.W.fnOf "_law_sheet" "_law_sheet" (defArgs (topS 31)) (defBody (topS 31)) (defScope (topS 31)) .none kV4 dc4 pm4 an4 cd4 ct4), sl4⟩) (c4 : PySem.W.codeIn K cd4 "_law_sheet" = true) (k4 : PySem.W.keepIn K (.ref f4) = true)
    {f5 : Addr} {od5 an5 : Option Addr} {sl5 : Array (Option Value)} {oc5 kV5 dc5 pm5 cd5 ct5 : Value} (a5 : PySem.W.nsIn K mainGlobals "_law_numbers" = some (some (.ref f5))) (l5 : K.lookup f5 = some ⟨oc5, od5, .func (PySem.W.fnOf "_law_numbers" "_law_numbers" (defArgs (topS 33)) (defBody (topS 33)) (defScope (topS 33)) .none kV5 dc5 pm5 an5 cd5 ct5), sl5⟩) (c5 : PySem.W.codeIn K cd5 "_law_numbers" = true) (k5 : PySem.W.keepIn K (.ref f5) = true)
    {f6 : Addr} {od6 an6 : Option Addr} {sl6 : Array (Option Value)} {oc6 kV6 dc6 pm6 cd6 ct6 : Value} (a6 : PySem.W.nsIn K mainGlobals "_law_after" = some (some (.ref f6))) (l6 : K.lookup f6 = some ⟨oc6, od6, .func (PySem.W.fnOf "_law_after" "_law_after" (defArgs (topS 35)) (defBody (topS 35)) (defScope (topS 35)) .none kV6 dc6 pm6 an6 cd6 ct6), sl6⟩) (c6 : PySem.W.codeIn K cd6 "_law_after" = true) (k6 : PySem.W.keepIn K (.ref f6) = true)
    {f7 : Addr} {od7 an7 : Option Addr} {sl7 : Array (Option Value)} {oc7 kV7 dc7 pm7 cd7 ct7 : Value} (a7 : PySem.W.nsIn K mainGlobals "_law_at" = some (some (.ref f7))) (l7 : K.lookup f7 = some ⟨oc7, od7, .func (PySem.W.fnOf "_law_at" "_law_at" (defArgs (topS 32)) (defBody (topS 32)) (defScope (topS 32)) .none kV7 dc7 pm7 an7 cd7 ct7), sl7⟩) (c7 : PySem.W.codeIn K cd7 "_law_at" = true) (k7 : PySem.W.keepIn K (.ref f7) = true)
    {f8 : Addr} {od8 an8 : Option Addr} {sl8 : Array (Option Value)} {oc8 kV8 dc8 pm8 cd8 ct8 : Value} (a8 : PySem.W.nsIn K mainGlobals "_law_edit" = some (some (.ref f8))) (l8 : K.lookup f8 = some ⟨oc8, od8, .func (PySem.W.fnOf "_law_edit" "_law_edit" (defArgs (topS 34)) (defBody (topS 34)) (defScope (topS 34)) .none kV8 dc8 pm8 an8 cd8 ct8), sl8⟩) (c8 : PySem.W.codeIn K cd8 "_law_edit" = true) (k8 : PySem.W.keepIn K (.ref f8) = true)
    {f9 : Addr} {od9 an9 : Option Addr} {sl9 : Array (Option Value)} {oc9 kV9 dc9 pm9 cd9 ct9 : Value} (a9 : PySem.W.nsIn K mainGlobals "_law_edits" = some (some (.ref f9))) (l9 : K.lookup f9 = some ⟨oc9, od9, .func (PySem.W.fnOf "_law_edits" "_law_edits" (defArgs (topS 36)) (defBody (topS 36)) (defScope (topS 36)) .none kV9 dc9 pm9 an9 cd9 ct9), sl9⟩) (c9 : PySem.W.codeIn K cd9 "_law_edits" = true) (k9 : PySem.W.keepIn K (.ref f9) = true)
    {f10 : Addr} {od10 an10 : Option Addr} {sl10 : Array (Option Value)} {oc10 kV10 dc10 pm10 cd10 ct10 : Value} (a10 : PySem.W.nsIn K mainGlobals "is_number" = some (some (.ref f10))) (l10 : K.lookup f10 = some ⟨oc10, od10, .func (PySem.W.fnOf "is_number" "is_number" (defArgs (topS 15)) (defBody (topS 15)) (defScope (topS 15)) .none kV10 dc10 pm10 an10 cd10 ct10), sl10⟩) (c10 : PySem.W.codeIn K cd10 "is_number" = true) (k10 : PySem.W.keepIn K (.ref f10) = true)
    {f11 : Addr} {od11 an11 : Option Addr} {sl11 : Array (Option Value)} {oc11 kV11 dc11 pm11 cd11 ct11 : Value} (a11 : PySem.W.nsIn K mainGlobals "place_in" = some (some (.ref f11))) (l11 : K.lookup f11 = some ⟨oc11, od11, .func (PySem.W.fnOf "place_in" "place_in" (defArgs (topS 19)) (defBody (topS 19)) (defScope (topS 19)) .none kV11 dc11 pm11 an11 cd11 ct11), sl11⟩) (c11 : PySem.W.codeIn K cd11 "place_in" = true) (k11 : PySem.W.keepIn K (.ref f11) = true)
    {f12 : Addr} {od12 an12 : Option Addr} {sl12 : Array (Option Value)} {oc12 kV12 dc12 pm12 cd12 ct12 : Value} (a12 : PySem.W.nsIn K mainGlobals "behind" = some (some (.ref f12))) (l12 : K.lookup f12 = some ⟨oc12, od12, .func (PySem.W.fnOf "behind" "behind" (defArgs (topS 22)) (defBody (topS 22)) (defScope (topS 22)) .none kV12 dc12 pm12 an12 cd12 ct12), sl12⟩) (c12 : PySem.W.codeIn K cd12 "behind" = true) (k12 : PySem.W.keepIn K (.ref f12) = true)
    {f13 : Addr} {od13 an13 : Option Addr} {sl13 : Array (Option Value)} {oc13 kV13 dc13 pm13 cd13 ct13 : Value} (a13 : PySem.W.nsIn K mainGlobals "undoing" = some (some (.ref f13))) (l13 : K.lookup f13 = some ⟨oc13, od13, .func (PySem.W.fnOf "undoing" "undoing" (defArgs (topS 24)) (defBody (topS 24)) (defScope (topS 24)) .none kV13 dc13 pm13 an13 cd13 ct13), sl13⟩) (c13 : PySem.W.codeIn K cd13 "undoing" = true) (k13 : PySem.W.keepIn K (.ref f13) = true)
    {f14 : Addr} {od14 an14 : Option Addr} {sl14 : Array (Option Value)} {oc14 kV14 dc14 pm14 cd14 ct14 : Value} (a14 : PySem.W.nsIn K mainGlobals "is_sign" = some (some (.ref f14))) (l14 : K.lookup f14 = some ⟨oc14, od14, .func (PySem.W.fnOf "is_sign" "is_sign" (defArgs (topS 14)) (defBody (topS 14)) (defScope (topS 14)) .none kV14 dc14 pm14 an14 cd14 ct14), sl14⟩) (c14 : PySem.W.codeIn K cd14 "is_sign" = true) (k14 : PySem.W.keepIn K (.ref f14) = true)
    {f15 : Addr} {od15 an15 : Option Addr} {sl15 : Array (Option Value)} {oc15 kV15 dc15 pm15 cd15 ct15 : Value} (a15 : PySem.W.nsIn K mainGlobals "is_text_of_signs" = some (some (.ref f15))) (l15 : K.lookup f15 = some ⟨oc15, od15, .func (PySem.W.fnOf "is_text_of_signs" "is_text_of_signs" (defArgs (topS 13)) (defBody (topS 13)) (defScope (topS 13)) .none kV15 dc15 pm15 an15 cd15 ct15), sl15⟩) (c15 : PySem.W.codeIn K cd15 "is_text_of_signs" = true) (k15 : PySem.W.keepIn K (.ref f15) = true)
    {f16 : Addr} {od16 an16 : Option Addr} {sl16 : Array (Option Value)} {oc16 kV16 dc16 pm16 cd16 ct16 : Value} (a16 : PySem.W.nsIn K mainGlobals "check_sheet" = some (some (.ref f16))) (l16 : K.lookup f16 = some ⟨oc16, od16, .func (PySem.W.fnOf "check_sheet" "check_sheet" (defArgs (topS 12)) (defBody (topS 12)) (defScope (topS 12)) .none kV16 dc16 pm16 an16 cd16 ct16), sl16⟩) (c16 : PySem.W.codeIn K cd16 "check_sheet" = true) (k16 : PySem.W.keepIn K (.ref f16) = true)
    {f17 : Addr} {od17 an17 : Option Addr} {sl17 : Array (Option Value)} {oc17 kV17 dc17 pm17 cd17 ct17 : Value} (a17 : PySem.W.nsIn K mainGlobals "is_two_numbers" = some (some (.ref f17))) (l17 : K.lookup f17 = some ⟨oc17, od17, .func (PySem.W.fnOf "is_two_numbers" "is_two_numbers" (defArgs (topS 16)) (defBody (topS 16)) (defScope (topS 16)) .none kV17 dc17 pm17 an17 cd17 ct17), sl17⟩) (c17 : PySem.W.codeIn K cd17 "is_two_numbers" = true) (k17 : PySem.W.keepIn K (.ref f17) = true)
    {f18 : Addr} {od18 an18 : Option Addr} {sl18 : Array (Option Value)} {oc18 kV18 dc18 pm18 cd18 ct18 : Value} (a18 : PySem.W.nsIn K mainGlobals "is_place" = some (some (.ref f18))) (l18 : K.lookup f18 = some ⟨oc18, od18, .func (PySem.W.fnOf "is_place" "is_place" (defArgs (topS 17)) (defBody (topS 17)) (defScope (topS 17)) .none kV18 dc18 pm18 an18 cd18 ct18), sl18⟩) (c18 : PySem.W.codeIn K cd18 "is_place" = true) (k18 : PySem.W.keepIn K (.ref f18) = true)
    {f19 : Addr} {od19 an19 : Option Addr} {sl19 : Array (Option Value)} {oc19 kV19 dc19 pm19 cd19 ct19 : Value} (a19 : PySem.W.nsIn K mainGlobals "number_in" = some (some (.ref f19))) (l19 : K.lookup f19 = some ⟨oc19, od19, .func (PySem.W.fnOf "number_in" "number_in" (defArgs (topS 18)) (defBody (topS 18)) (defScope (topS 18)) .none kV19 dc19 pm19 an19 cd19 ct19), sl19⟩) (c19 : PySem.W.codeIn K cd19 "number_in" = true) (k19 : PySem.W.keepIn K (.ref f19) = true)
    {f20 : Addr} {od20 an20 : Option Addr} {sl20 : Array (Option Value)} {oc20 kV20 dc20 pm20 cd20 ct20 : Value} (a20 : PySem.W.nsIn K mainGlobals "can_be_done" = some (some (.ref f20))) (l20 : K.lookup f20 = some ⟨oc20, od20, .func (PySem.W.fnOf "can_be_done" "can_be_done" (defArgs (topS 21)) (defBody (topS 21)) (defScope (topS 21)) .none kV20 dc20 pm20 an20 cd20 ct20), sl20⟩) (c20 : PySem.W.codeIn K cd20 "can_be_done" = true) (k20 : PySem.W.keepIn K (.ref f20) = true)
    {f21 : Addr} {od21 an21 : Option Addr} {sl21 : Array (Option Value)} {oc21 kV21 dc21 pm21 cd21 ct21 : Value} (a21 : PySem.W.nsIn K mainGlobals "spans_of" = some (some (.ref f21))) (l21 : K.lookup f21 = some ⟨oc21, od21, .func (PySem.W.fnOf "spans_of" "spans_of" (defArgs (topS 20)) (defBody (topS 20)) (defScope (topS 20)) .none kV21 dc21 pm21 an21 cd21 ct21), sl21⟩) (c21 : PySem.W.codeIn K cd21 "spans_of" = true) (k21 : PySem.W.keepIn K (.ref f21) = true)
    {f22 : Addr} {od22 an22 : Option Addr} {sl22 : Array (Option Value)} {oc22 kV22 dc22 pm22 cd22 ct22 : Value} (a22 : PySem.W.nsIn K mainGlobals "back" = some (some (.ref f22))) (l22 : K.lookup f22 = some ⟨oc22, od22, .func (PySem.W.fnOf "back" "back" (defArgs (topS 11)) (defBody (topS 11)) (defScope (topS 11)) .none kV22 dc22 pm22 an22 cd22 ct22), sl22⟩) (c22 : PySem.W.codeIn K cd22 "back" = true) (k22 : PySem.W.keepIn K (.ref f22) = true)
    {f23 : Addr} {od23 an23 : Option Addr} {sl23 : Array (Option Value)} {oc23 kV23 dc23 pm23 cd23 ct23 : Value} (a23 : PySem.W.nsIn K mainGlobals "_law_same" = some (some (.ref f23))) (l23 : K.lookup f23 = some ⟨oc23, od23, .func (PySem.W.fnOf "_law_same" "_law_same" (defArgs (topS 28)) (defBody (topS 28)) (defScope (topS 28)) .none kV23 dc23 pm23 an23 cd23 ct23), sl23⟩) (c23 : PySem.W.codeIn K cd23 "_law_same" = true) (k23 : PySem.W.keepIn K (.ref f23) = true)
    {f24 : Addr} {od24 an24 : Option Addr} {sl24 : Array (Option Value)} {oc24 kV24 dc24 pm24 cd24 ct24 : Value} (a24 : PySem.W.nsIn K mainGlobals "edited" = some (some (.ref f24))) (l24 : K.lookup f24 = some ⟨oc24, od24, .func (PySem.W.fnOf "edited" "edited" (defArgs (topS 9)) (defBody (topS 9)) (defScope (topS 9)) .none kV24 dc24 pm24 an24 cd24 ct24), sl24⟩) (c24 : PySem.W.codeIn K cd24 "edited" = true) (k24 : PySem.W.keepIn K (.ref f24) = true)
    {f25 : Addr} {od25 an25 : Option Addr} {sl25 : Array (Option Value)} {oc25 kV25 dc25 pm25 cd25 ct25 : Value} (a25 : PySem.W.nsIn K mainGlobals "same_at_begin" = some (some (.ref f25))) (l25 : K.lookup f25 = some ⟨oc25, od25, .func (PySem.W.fnOf "same_at_begin" "same_at_begin" (defArgs (topS 23)) (defBody (topS 23)) (defScope (topS 23)) .none kV25 dc25 pm25 an25 cd25 ct25), sl25⟩) (c25 : PySem.W.codeIn K cd25 "same_at_begin" = true) (k25 : PySem.W.keepIn K (.ref f25) = true)
    {f26 : Addr} {od26 an26 : Option Addr} {sl26 : Array (Option Value)} {oc26 kV26 dc26 pm26 cd26 ct26 : Value} (a26 : PySem.W.nsIn K mainGlobals "together" = some (some (.ref f26))) (l26 : K.lookup f26 = some ⟨oc26, od26, .func (PySem.W.fnOf "together" "together" (defArgs (topS 10)) (defBody (topS 10)) (defScope (topS 10)) .none kV26 dc26 pm26 an26 cd26 ct26), sl26⟩) (c26 : PySem.W.codeIn K cd26 "together" = true) (k26 : PySem.W.keepIn K (.ref f26) = true)
    {f27 : Addr} {od27 an27 : Option Addr} {sl27 : Array (Option Value)} {oc27 kV27 dc27 pm27 cd27 ct27 : Value} (a27 : PySem.W.nsIn K mainGlobals "_law_together" = some (some (.ref f27))) (l27 : K.lookup f27 = some ⟨oc27, od27, .func (PySem.W.fnOf "_law_together" "_law_together" (defArgs (topS 37)) (defBody (topS 37)) (defScope (topS 37)) .none kV27 dc27 pm27 an27 cd27 ct27), sl27⟩) (c27 : PySem.W.codeIn K cd27 "_law_together" = true) (k27 : PySem.W.keepIn K (.ref f27) = true)
    {f28 : Addr} {od28 an28 : Option Addr} {sl28 : Array (Option Value)} {oc28 kV28 dc28 pm28 cd28 ct28 : Value} (a28 : PySem.W.nsIn K mainGlobals "law" = some (some (.ref f28))) (l28 : K.lookup f28 = some ⟨oc28, od28, .func (PySem.W.fnOf "law" "law" (defArgs (topS 38)) (defBody (topS 38)) (defScope (topS 38)) .none kV28 dc28 pm28 an28 cd28 ct28), sl28⟩) (c28 : PySem.W.codeIn K cd28 "law" = true) (k28 : PySem.W.keepIn K (.ref f28) = true)
    (z_len : PySem.W.nsIn K mainGlobals "len" = some none)    (z_range : PySem.W.nsIn K mainGlobals "range" = some none)    (z_enumerate : PySem.W.nsIn K mainGlobals "enumerate" = some none)    (z_int : PySem.W.nsIn K mainGlobals "int" = some none)    (z_sorted : PySem.W.nsIn K mainGlobals "sorted" = some none)    (z_min : PySem.W.nsIn K mainGlobals "min" = some none)    (z_isinstance : PySem.W.nsIn K mainGlobals "isinstance" = some none)    (z_bool : PySem.W.nsIn K mainGlobals "bool" = some none)    (z_str : PySem.W.nsIn K mainGlobals "str" = some none)    (z_all : PySem.W.nsIn K mainGlobals "all" = some none)    (z_tuple : PySem.W.nsIn K mainGlobals "tuple" = some none)    (z_sum : PySem.W.nsIn K mainGlobals "sum" = some none)    (z_reversed : PySem.W.nsIn K mainGlobals "reversed" = some none)    (z_list : PySem.W.nsIn K mainGlobals "list" = some none)    (z_max : PySem.W.nsIn K mainGlobals "max" = some none)    {t_MOST_SIGNS : Tok} (z_MOST_SIGNS : PySem.W.nsIn K mainGlobals "MOST_SIGNS" = some (some (.int 200 t_MOST_SIGNS)))    {t_MOST_PUT : Tok} (z_MOST_PUT : PySem.W.nsIn K mainGlobals "MOST_PUT" = some (some (.int 40 t_MOST_PUT)))    {t_MOST_EDITS : Tok} (z_MOST_EDITS : PySem.W.nsIn K mainGlobals "MOST_EDITS" = some (some (.int 8 t_MOST_EDITS))) :
    ∃ fd : FuncData, (∀ (s : Shared) (v : Value), BindsTo s fd ⟨[v], []⟩ [("_law_script", v)]) ∧ ∀ base : Heap, K.In base → base.Ns mainGlobals mg → FnOk l.prog w K mg base CX0 9 fa fd ["_law_script"] (sp_law K) := by
  have e := hfa.symm.trans (PySem.W.mg_of X G a28)
  cases e
  refine ⟨PySem.W.fnOf "law" "law" (defArgs (topS 38)) (defBody (topS 38)) (defScope (topS 38)) .none kV28 dc28 pm28 an28 cd28 ct28, fun s v => .of_eq rfl, fun base _ _ => ?_⟩
  have m_len : mg "len" = none := PySem.W.mg_none_of X G z_len
  have m_range : mg "range" = none := PySem.W.mg_none_of X G z_range
  have m_enumerate : mg "enumerate" = none := PySem.W.mg_none_of X G z_enumerate
  have m_int : mg "int" = none := PySem.W.mg_none_of X G z_int
  have m_sorted : mg "sorted" = none := PySem.W.mg_none_of X G z_sorted
  have m_min : mg "min" = none := PySem.W.mg_none_of X G z_min
  have m_isinstance : mg "isinstance" = none := PySem.W.mg_none_of X G z_isinstance
  have m_bool : mg "bool" = none := PySem.W.mg_none_of X G z_bool
  have m_str : mg "str" = none := PySem.W.mg_none_of X G z_str
  have m_all : mg "all" = none := PySem.W.mg_none_of X G z_all
  have m_tuple : mg "tuple" = none := PySem.W.mg_none_of X G z_tuple
  have m_sum : mg "sum" = none := PySem.W.mg_none_of X G z_sum
  have m_reversed : mg "reversed" = none := PySem.W.mg_none_of X G z_reversed
  have m_list : mg "list" = none := PySem.W.mg_none_of X G z_list
  have m_max : mg "max" = none := PySem.W.mg_none_of X G z_max
  have c_MOST_SIGNS : mg "MOST_SIGNS" = some (.int 200 t_MOST_SIGNS) := PySem.W.mg_of X G z_MOST_SIGNS
  have c_MOST_PUT : mg "MOST_PUT" = some (.int 40 t_MOST_PUT) := PySem.W.mg_of X G z_MOST_PUT
  have c_MOST_EDITS : mg "MOST_EDITS" = some (.int 8 t_MOST_EDITS) := PySem.W.mg_of X G z_MOST_EDITS
  have F0 := fun_mk (st := topS 26) l0 c0 k0
  have b0 := F0.binds (ps := ["_law_script"]) fun _ _ _ _ _ _ us hl => match us, hl with | [_], _ => rfl
  have d__law_start : Df l.prog w K mg base "_law_start" ["_law_script"] 1 (sp__law_start K) := ⟨f0, _, ok__law_start F0 , PySem.W.mg_of X G a0, k0, b0⟩
  have F1 := fun_mk (st := topS 27) l1 c1 k1
  have b1 := F1.binds (ps := ["_law_state", "_law_many"]) fun _ _ _ _ _ _ us hl => match us, hl with | [_, _], _ => rfl
  have d__law_drawn : Df l.prog w K mg base "_law_drawn" ["_law_state", "_law_many"] 1 (spDrawn K) := ⟨f1, _, ok__law_drawn F1 (m_len := m_len), PySem.W.mg_of X G a1, k1, b1⟩
  have F2 := fun_mk (st := topS 29) l2 c2 k2
  have b2 := F2.binds (ps := ["_law_state"]) fun _ _ _ _ _ _ us hl => match us, hl with | [_], _ => rfl
  have d__law_sign : Df l.prog w K mg base "_law_sign" ["_law_state"] 2 (sp__law_sign K) := ⟨f2, _, ok__law_sign F2 (m_len := m_len) (d__law_drawn := d__law_drawn), PySem.W.mg_of X G a2, k2, b2⟩
  have F3 := fun_mk (st := topS 30) l3 c3 k3
  have b3 := F3.binds (ps := ["_law_state", "_law_most"]) fun _ _ _ _ _ _ us hl => match us, hl with | [_, _], _ => rfl
  have d__law_put : Df l.prog w K mg base "_law_put" ["_law_state", "_law_most"] 3 (sp__law_put K) := ⟨f3, _, ok__law_put F3 (m_range := m_range) (d__law_drawn := d__law_drawn) (d__law_sign := d__law_sign), PySem.W.mg_of X G a3, k3, b3⟩
  have F4 := fun_mk (st := topS 31) l4 c4 k4
  have b4 := F4.binds (ps := ["_law_state"]) fun _ _ _ _ _ _ us hl => match us, hl with | [_], _ => rfl
  have d__law_sheet : Df l.prog w K mg base "_law_sheet" ["_law_state"] 4 (sp__law_sheet K) := ⟨f4, _, ok__law_sheet F4 (d__law_put := d__law_put) (d__law_drawn := d__law_drawn), PySem.W.mg_of X G a4, k4, b4⟩
  have F5 := fun_mk (st := topS 33) l5 c5 k5
  have b5 := F5.binds (ps := ["_law_sheet_here"]) fun _ _ _ _ _ _ us hl => match us, hl with | [_], _ => rfl
  have d__law_numbers : Df l.prog w K mg base "_law_numbers" ["_law_sheet_here"] 1 (sp__law_numbers) := ⟨f5, _, ok__law_numbers F5 (m_enumerate := m_enumerate) (m_int := m_int), PySem.W.mg_of X G a5, k5, b5⟩
  have F6 := fun_mk (st := topS 35) l6 c6 k6
  have b6 := F6.binds (ps := ["_law_sheet_here", "_law_one"]) fun _ _ _ _ _ _ us hl => match us, hl with | [_, _], _ => rfl
  have d__law_after : Df l.prog w K mg base "_law_after" ["_law_sheet_here", "_law_one"] 2 sp__law_after := ⟨f6, _, ok__law_after F6 (d__law_numbers := d__law_numbers), PySem.W.mg_of X G a6, k6, b6⟩
  have F7 := fun_mk (st := topS 32) l7 c7 k7
  have b7 := F7.binds (ps := ["_law_sheet_here", "_law_number"]) fun _ _ _ _ _ _ us hl => match us, hl with | [_, _], _ => rfl
  have d__law_at : Df l.prog w K mg base "_law_at" ["_law_sheet_here", "_law_number"] 1 sp__law_at := ⟨f7, _, ok__law_at F7 (m_int := m_int), PySem.W.mg_of X G a7, k7, b7⟩
  have F8 := fun_mk (st := topS 34) l8 c8 k8
  have b8 := F8.binds (ps := ["_law_state", "_law_sheet_here"]) fun _ _ _ _ _ _ us hl => match us, hl with | [_, _], _ => rfl
  have d__law_edit : Df l.prog w K mg base "_law_edit" ["_law_state", "_law_sheet_here"] 4 (sp__law_edit K) := ⟨f8, _, ok__law_edit F8 (m_len := m_len) (m_sorted := m_sorted) (m_min := m_min) (d__law_drawn := d__law_drawn) (d__law_put := d__law_put) (d__law_at := d__law_at), PySem.W.mg_of X G a8, k8, b8⟩
  have F9 := fun_mk (st := topS 36) l9 c9 k9
  have b9 := F9.binds (ps := ["_law_state", "_law_sheet_here", "_law_most"]) fun _ _ _ _ _ _ us hl => match us, hl with | [_, _, _], _ => rfl
  have d__law_edits : Df l.prog w K mg base "_law_edits" ["_law_state", "_law_sheet_here", "_law_most"] 5 (sp__law_edits K) := ⟨f9, _, ok__law_edits F9 (m_range := m_range) (d__law_drawn := d__law_drawn) (d__law_edit := d__law_edit) (d__law_after := d__law_after), PySem.W.mg_of X G a9, k9, b9⟩
  have F10 := fun_mk (st := topS 15) l10 c10 k10
  have b10 := F10.binds (ps := ["value"]) fun _ _ _ _ _ _ us hl => match us, hl with | [_], _ => rfl
  have d_is_number : Df l.prog w K mg base "is_number" ["value"] 1 sp_is_number := ⟨f10, _, ok_is_number F10 (m_int := m_int) (m_isinstance := m_isinstance) (m_bool := m_bool), PySem.W.mg_of X G a10, k10, b10⟩
  have F11 := fun_mk (st := topS 19) l11 c11 k11
  have b11 := F11.binds (ps := ["sheet", "number"]) fun _ _ _ _ _ _ us hl => match us, hl with | [_, _], _ => rfl
  have d_place_in : Df l.prog w K mg base "place_in" ["sheet", "number"] 2 sp_place_in := ⟨f11, _, ok_place_in F11 (m_len := m_len) (d_is_number := d_is_number), PySem.W.mg_of X G a11, k11, b11⟩
  have F12 := fun_mk (st := topS 22) l12 c12 k12
  have b12 := F12.binds (ps := ["span"]) fun _ _ _ _ _ _ us hl => match us, hl with | [_], _ => rfl
  have d_behind : Df l.prog w K mg base "behind" ["span"] 1 sp_behind := ⟨f12, _, ok_behind F12 , PySem.W.mg_of X G a12, k12, b12⟩
  have F13 := fun_mk (st := topS 24) l13 c13 k13
  have b13 := F13.binds (ps := ["span"]) fun _ _ _ _ _ _ us hl => match us, hl with | [_], _ => rfl
  have d_undoing : Df l.prog w K mg base "undoing" ["span"] 3 sp_undoing := ⟨f13, _, ok_undoing F13 (m_len := m_len) (d_place_in := d_place_in) (d_behind := d_behind), PySem.W.mg_of X G a13, k13, b13⟩
  have F14 := fun_mk (st := topS 14) l14 c14 k14
  have b14 := F14.binds (ps := ["sign"]) fun _ _ _ _ _ _ us hl => match us, hl with | [_], _ => rfl
  have d_is_sign : Df l.prog w K mg base "is_sign" ["sign"] 1 sp_is_sign := ⟨f14, _, ok_is_sign F14 , PySem.W.mg_of X G a14, k14, b14⟩
  have F15 := fun_mk (st := topS 13) l15 c15 k15
  have b15 := F15.binds (ps := ["text", "most"]) fun _ _ _ _ _ _ us hl => match us, hl with | [_, _], _ => rfl
  have d_is_text_of_signs : Df l.prog w K mg base "is_text_of_signs" ["text", "most"] 2 sp_is_text_of_signs := ⟨f15, _, ok_is_text_of_signs F15 (m_str := m_str) (m_isinstance := m_isinstance) (m_len := m_len) (m_all := m_all) (d_is_sign := d_is_sign), PySem.W.mg_of X G a15, k15, b15⟩
  have F16 := fun_mk (st := topS 12) l16 c16 k16
  have b16 := F16.binds (ps := ["sheet"]) fun _ _ _ _ _ _ us hl => match us, hl with | [_], _ => rfl
  have d_check_sheet : Df l.prog w K mg base "check_sheet" ["sheet"] 3 sp_check_sheet := ⟨f16, _, ok_check_sheet F16 (c_MOST_SIGNS := c_MOST_SIGNS) (d_is_text_of_signs := d_is_text_of_signs), PySem.W.mg_of X G a16, k16, b16⟩
  have F17 := fun_mk (st := topS 16) l17 c17 k17
  have b17 := F17.binds (ps := ["value"]) fun _ _ _ _ _ _ us hl => match us, hl with | [_], _ => rfl
  have d_is_two_numbers : Df l.prog w K mg base "is_two_numbers" ["value"] 2 sp_is_two_numbers := ⟨f17, _, ok_is_two_numbers F17 (m_tuple := m_tuple) (m_isinstance := m_isinstance) (m_len := m_len) (d_is_number := d_is_number), PySem.W.mg_of X G a17, k17, b17⟩
  have F18 := fun_mk (st := topS 17) l18 c18 k18
  have b18 := F18.binds (ps := ["sheet", "value"]) fun _ _ _ _ _ _ us hl => match us, hl with | [_, _], _ => rfl
  have d_is_place : Df l.prog w K mg base "is_place" ["sheet", "value"] 3 sp_is_place := ⟨f18, _, ok_is_place F18 (m_len := m_len) (d_is_two_numbers := d_is_two_numbers), PySem.W.mg_of X G a18, k18, b18⟩
  have F19 := fun_mk (st := topS 18) l19 c19 k19
  have b19 := F19.binds (ps := ["sheet", "place"]) fun _ _ _ _ _ _ us hl => match us, hl with | [_, _], _ => rfl
  have d_number_in : Df l.prog w K mg base "number_in" ["sheet", "place"] 4 sp_number_in := ⟨f19, _, ok_number_in F19 (m_len := m_len) (m_sum := m_sum) (d_is_place := d_is_place), PySem.W.mg_of X G a19, k19, b19⟩
  have F20 := fun_mk (st := topS 21) l20 c20 k20
  have b20 := F20.binds (ps := ["sheet", "edit"]) fun _ _ _ _ _ _ us hl => match us, hl with | [_, _], _ => rfl
  have d_can_be_done : Df l.prog w K mg base "can_be_done" ["sheet", "edit"] 5 sp_can_be_done := ⟨f20, _, ok_can_be_done F20 (m_tuple := m_tuple) (m_isinstance := m_isinstance) (m_len := m_len) (c_MOST_PUT := c_MOST_PUT) (c_MOST_SIGNS := c_MOST_SIGNS) (d_is_place := d_is_place) (d_is_text_of_signs := d_is_text_of_signs) (d_number_in := d_number_in), PySem.W.mg_of X G a20, k20, b20⟩
  have F21 := fun_mk (st := topS 20) l21 c21 k21
  have b21 := F21.binds (ps := ["sheet", "edits"]) fun _ _ _ _ _ _ us hl => match us, hl with | [_, _], _ => rfl
  have d_spans_of : Df l.prog w K mg base "spans_of" ["sheet", "edits"] 6 sp_spans_of := ⟨f21, _, ok_spans_of F21 (m_enumerate := m_enumerate) (c_MOST_EDITS := c_MOST_EDITS) (d_check_sheet := d_check_sheet) (d_can_be_done := d_can_be_done) (d_number_in := d_number_in) (d_behind := d_behind), PySem.W.mg_of X G a21, k21, b21⟩
  have F22 := fun_mk (st := topS 11) l22 c22 k22
  have b22 := F22.binds (ps := ["sheet", "edits"]) fun _ _ _ _ _ _ us hl => match us, hl with | [_, _], _ => rfl
  have d_back : Df l.prog w K mg base "back" ["sheet", "edits"] 7 sp_back := ⟨f22, _, ok_back F22 (m_reversed := m_reversed) (d_spans_of := d_spans_of) (d_undoing := d_undoing), PySem.W.mg_of X G a22, k22, b22⟩
  have F23 := fun_mk (st := topS 28) l23 c23 k23
  have b23 := F23.binds (ps := ["_law_found", "_law_due"]) fun _ _ _ _ _ _ us hl => match us, hl with | [_, _], _ => rfl
  have s0 : Df l.prog w K mg base "_law_same" ["_law_found", "_law_due"] 0 (SameSp (okL 0)) := ⟨f23, _, ⟨fun vs H Q E h => SpR.len h, fun A outer s H args us vs Q E hr e0 hb r h => by obtain ⟨_, _, _, _, ⟨_, _, z, _⟩, _⟩ := h; exact z.elim⟩, PySem.W.mg_of X G a23, k23, b23⟩
  have s1 : Df l.prog w K mg base "_law_same" ["_law_found", "_law_due"] 1 (SameSp (okL 1)) := ⟨f23, _, ok__law_same F23 (m_list := m_list) (m_tuple := m_tuple) (m_isinstance := m_isinstance) (m_len := m_len) (m_range := m_range) (m_str := m_str) (m_bool := m_bool) (m_int := m_int) (d__law_same := s0), PySem.W.mg_of X G a23, k23, b23⟩
  have s2 : Df l.prog w K mg base "_law_same" ["_law_found", "_law_due"] 2 (SameSp (okL 2)) := ⟨f23, _, ok__law_same F23 (m_list := m_list) (m_tuple := m_tuple) (m_isinstance := m_isinstance) (m_len := m_len) (m_range := m_range) (m_str := m_str) (m_bool := m_bool) (m_int := m_int) (d__law_same := s1), PySem.W.mg_of X G a23, k23, b23⟩
  have s3 : Df l.prog w K mg base "_law_same" ["_law_found", "_law_due"] 3 (SameSp (okL 3)) := ⟨f23, _, ok__law_same F23 (m_list := m_list) (m_tuple := m_tuple) (m_isinstance := m_isinstance) (m_len := m_len) (m_range := m_range) (m_str := m_str) (m_bool := m_bool) (m_int := m_int) (d__law_same := s2), PySem.W.mg_of X G a23, k23, b23⟩
  have d__law_same := s3
  have F24 := fun_mk (st := topS 9) l24 c24 k24
  have b24 := F24.binds (ps := ["sheet", "edits"]) fun _ _ _ _ _ _ us hl => match us, hl with | [_, _], _ => rfl
  have d_edited : Df l.prog w K mg base "edited" ["sheet", "edits"] 7 sp_edited := ⟨f24, _, ok_edited F24 (d_spans_of := d_spans_of) (d_behind := d_behind), PySem.W.mg_of X G a24, k24, b24⟩
  have F25 := fun_mk (st := topS 23) l25 c25 k25
  have b25 := F25.binds (ps := ["one", "other"]) fun _ _ _ _ _ _ us hl => match us, hl with | [_, _], _ => rfl
  have d_same_at_begin : Df l.prog w K mg base "same_at_begin" ["one", "other"] 1 sp_same_at_begin := ⟨f25, _, ok_same_at_begin F25 (m_len := m_len), PySem.W.mg_of X G a25, k25, b25⟩
  have F26 := fun_mk (st := topS 10) l26 c26 k26
  have b26 := F26.binds (ps := ["sheet", "edits"]) fun _ _ _ _ _ _ us hl => match us, hl with | [_, _], _ => rfl
  have d_together : Df l.prog w K mg base "together" ["sheet", "edits"] 8 sp_together := ⟨f26, _, ok_together F26 (m_len := m_len) (d_edited := d_edited) (d_same_at_begin := d_same_at_begin) (d_place_in := d_place_in), PySem.W.mg_of X G a26, k26, b26⟩
  have F27 := fun_mk (st := topS 37) l27 c27 k27
  have b27 := F27.binds (ps := ["_law_sheet_here", "_law_other"]) fun _ _ _ _ _ _ us hl => match us, hl with | [_, _], _ => rfl
  have d__law_together : Df l.prog w K mg base "_law_together" ["_law_sheet_here", "_law_other"] 2 sp__law_together := ⟨f27, _, ok__law_together F27 (m_len := m_len) (m_min := m_min) (m_range := m_range) (m_max := m_max) (d__law_at := d__law_at), PySem.W.mg_of X G a27, k27, b27⟩
  have F28 := fun_mk (st := topS 38) l28 c28 k28
  exact ok_law F28 (m_range := m_range) (m_len := m_len) (m_list := m_list) (m_isinstance := m_isinstance) (d__law_start := d__law_start) (d__law_sheet := d__law_sheet) (d__law_edits := d__law_edits) (d__law_drawn := d__law_drawn) (d__law_same := d__law_same) (d__law_together := d__law_together) (d_together := d_together) (d_back := d_back) (d__law_after := d__law_after) (d__law_numbers := d__law_numbers)
end
end HW
open PySem PySem.W PyProof.Rows
set_option maxHeartbeats 0 in
theorem PySem.Challenge.cw_helperwire_k03_together_and_back_holds : PySem.Challenge.rw_helperwire_k03_together_and_back.Holds := by
  w_on; o_law; k_head; (case hw => w_witness2)
  k_fill
  refine L2.walk_of (l := PySem.Challenge.rw_helperwire_k03_together_and_back) (n := 63) (k := 9) (x := "_law_script") (CX := fun _ => L2.CX0) (sp := fun w => HW.sp_law _) rfl (by decide) rfl ⟨rfl, by decide, by decide⟩ (fun w h Y => PySem.W.kIn_of Y) ?F (fun _ _ a ns hl ho hS => ⟨a, ns, rfl, HW.Scr.of hS ho, fun _ => rfl⟩) (fun _ _ _ _ _ h => h)
  case F =>
    intro w mg fa h KX G hmg
    refine' HW.all_mk KX G hmg ?a0 ?l0 ?c0 ?k0 ?a1 ?l1 ?c1 ?k1 ?a2 ?l2 ?c2 ?k2 ?a3 ?l3 ?c3 ?k3 ?a4 ?l4 ?c4 ?k4 ?a5 ?l5 ?c5 ?k5 ?a6 ?l6 ?c6 ?k6 ?a7 ?l7 ?c7 ?k7 ?a8 ?l8 ?c8 ?k8 ?a9 ?l9 ?c9 ?k9 ?a10 ?l10 ?c10 ?k10 ?a11 ?l11 ?c11 ?k11 ?a12 ?l12 ?c12 ?k12 ?a13 ?l13 ?c13 ?k13 ?a14 ?l14 ?c14 ?k14 ?a15 ?l15 ?c15 ?k15 ?a16 ?l16 ?c16 ?k16 ?a17 ?l17 ?c17 ?k17 ?a18 ?l18 ?c18 ?k18 ?a19 ?l19 ?c19 ?k19 ?a20 ?l20 ?c20 ?k20 ?a21 ?l21 ?c21 ?k21 ?a22 ?l22 ?c22 ?k22 ?a23 ?l23 ?c23 ?k23 ?a24 ?l24 ?c24 ?k24 ?a25 ?l25 ?c25 ?k25 ?a26 ?l26 ?c26 ?k26 ?a27 ?l27 ?c27 ?k27 ?a28 ?l28 ?c28 ?k28 ?z_len ?z_range ?z_enumerate ?z_int ?z_sorted ?z_min ?z_isinstance ?z_bool ?z_str ?z_all ?z_tuple ?z_sum ?z_reversed ?z_list ?z_max ?z_MOST_SIGNS ?z_MOST_PUT ?z_MOST_EDITS
    (case a0 => k_is)
    (case l0 => k_is)
    (case c0 => k_is)
    (case k0 => k_is)
    (case a1 => k_is)
    (case l1 => k_is)
    (case c1 => k_is)
    (case k1 => k_is)
    (case a2 => k_is)
    (case l2 => k_is)
    (case c2 => k_is)
    (case k2 => k_is)
    (case a3 => k_is)
    (case l3 => k_is)
    (case c3 => k_is)
    (case k3 => k_is)
    (case a4 => k_is)
    (case l4 => k_is)
    (case c4 => k_is)
    (case k4 => k_is)
    (case a5 => k_is)
    (case l5 => k_is)
    (case c5 => k_is)
    (case k5 => k_is)
    (case a6 => k_is)
    (case l6 => k_is)
    (case c6 => k_is)
    (case k6 => k_is)
    (case a7 => k_is)
    (case l7 => k_is)
    (case c7 => k_is)
    (case k7 => k_is)
    (case a8 => k_is)
    (case l8 => k_is)
    (case c8 => k_is)
    (case k8 => k_is)
    (case a9 => k_is)
    (case l9 => k_is)
    (case c9 => k_is)
    (case k9 => k_is)
    (case a10 => k_is)
    (case l10 => k_is)
    (case c10 => k_is)
    (case k10 => k_is)
    (case a11 => k_is)
    (case l11 => k_is)
    (case c11 => k_is)
    (case k11 => k_is)
    (case a12 => k_is)
    (case l12 => k_is)
    (case c12 => k_is)
    (case k12 => k_is)
    (case a13 => k_is)
    (case l13 => k_is)
    (case c13 => k_is)
    (case k13 => k_is)
    (case a14 => k_is)
    (case l14 => k_is)
    (case c14 => k_is)
    (case k14 => k_is)
    (case a15 => k_is)
    (case l15 => k_is)
    (case c15 => k_is)
    (case k15 => k_is)
    (case a16 => k_is)
    (case l16 => k_is)
    (case c16 => k_is)
    (case k16 => k_is)
    (case a17 => k_is)
    (case l17 => k_is)
    (case c17 => k_is)
    (case k17 => k_is)
    (case a18 => k_is)
    (case l18 => k_is)
    (case c18 => k_is)
    (case k18 => k_is)
    (case a19 => k_is)
    (case l19 => k_is)
    (case c19 => k_is)
    (case k19 => k_is)
    (case a20 => k_is)
    (case l20 => k_is)
    (case c20 => k_is)
    (case k20 => k_is)
    (case a21 => k_is)
    (case l21 => k_is)
    (case c21 => k_is)
    (case k21 => k_is)
    (case a22 => k_is)
    (case l22 => k_is)
    (case c22 => k_is)
    (case k22 => k_is)
    (case a23 => k_is)
    (case l23 => k_is)
    (case c23 => k_is)
    (case k23 => k_is)
    (case a24 => k_is)
    (case l24 => k_is)
    (case c24 => k_is)
    (case k24 => k_is)
    (case a25 => k_is)
    (case l25 => k_is)
    (case c25 => k_is)
    (case k25 => k_is)
    (case a26 => k_is)
    (case l26 => k_is)
    (case c26 => k_is)
    (case k26 => k_is)
    (case a27 => k_is)
    (case l27 => k_is)
    (case c27 => k_is)
    (case k27 => k_is)
    (case a28 => k_is)
    (case l28 => k_is)
    (case c28 => k_is)
    (case k28 => k_is)
    (case z_len => k_is)
    (case z_range => k_is)
    (case z_enumerate => k_is)
    (case z_int => k_is)
    (case z_sorted => k_is)
    (case z_min => k_is)
    (case z_isinstance => k_is)
    (case z_bool => k_is)
    (case z_str => k_is)
    (case z_all => k_is)
    (case z_tuple => k_is)
    (case z_sum => k_is)
    (case z_reversed => k_is)
    (case z_list => k_is)
    (case z_max => k_is)
    (case z_MOST_SIGNS => k_is)
    (case z_MOST_PUT => k_is)
    (case z_MOST_EDITS => k_is)

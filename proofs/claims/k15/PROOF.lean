import PyProof.Rows.All
import Wide.All
import OpenK.AllK
import Wide.FinOn
import HandS.ForMost
import HandS.Evl
import HandS.IsInst
import HandS.Codes
import HandS.StrMore
import HandS.Wide
import HandS.EndBits
import HandS.Style
import KE.KDictDisplayH
import KE.KRevSl
import PyProof.Draws
import PyProof.EnumMake
import PyProof.Rows.TupDisplay
import PyProof.StrLawsLast
import HandS.Walk
import HandS.Lambda
import HandS.ExcOwn
import HandS.ExcIs
import HandS.ExcField
import HandS.WordsExc
import HandS.Conv
import KE.KExcIs
import HandS.EndTab
import KE.KNestM
import HandS.ExcInit
import HandS.FStr
import KE.KExcSuper
import HandS.SortInts
import HandS.More
import KE.GoesMore
import KE.KDictPairs
import HandS.ListItems
import HandS.Ends
import HandS.DictComp
import HandS.TupMul
import HandS.TupAny
import HandS.Zip
import HandS.Star
import HandS.Replace
import HandS.ReplaceLit
import HandS.ReplaceList
import HandS.ReplaceDef
import HandS.Deep
import PySem.Challenge.RW_helperwire_k15_texts_refused
set_option Elab.async false
set_option linter.all false
set_option maxRecDepth 100000
noncomputable def PySem.W.Fast.tw11395245042645399501 : PySem.Program := PySem.Challenge.pw_helperwire_k15_texts_refused
theorem PySem.W.Fast.te11395245042645399501 : PySem.Challenge.pw_helperwire_k15_texts_refused = PySem.W.Fast.tw11395245042645399501 := rfl
def PySem.W.Fast.tw12186707537050820419 : Nat := 0
def PySem.W.Fast.tw5829150645506262397 : Nat := 0
def PySem.W.Fast.tw12660229984107363461 : Nat := 0
def PySem.W.Fast.tw1467527589928319022 : Nat := 0
def PySem.W.Fast.tw2594920348877557967 : Nat := 0
def PySem.W.Fast.tw11280092479203440126 : Nat := 0
def PySem.W.Fast.tw8219700971858145412 : Nat := 0
def PySem.W.Fast.tw5800858228517135963 : Nat := 0
def PySem.W.Fast.tw14545504068719486373 : Nat := 0
def PySem.W.Fast.tw13019074579290421726 : Nat := 0
def PySem.W.Fast.tw17176698546305234187 : Nat := 0
def PySem.W.Fast.tw10251905979393616241 : Nat := 0
def PySem.W.Fast.tw3376924073089226202 : Nat := 0
def PySem.W.Fast.tw8710858263254866057 : Nat := 0
def PySem.W.Fast.tw2874683560101224920 : Nat := 0
def PySem.W.Fast.tw18044298523984094009 : Nat := 0
def PySem.W.Fast.tw10569524710379792068 : Nat := 0
def PySem.W.Fast.tw11191927852071240333 : Nat := 0
def PySem.W.Fast.tw9475414221846566685 : Nat := 0
def PySem.W.Fast.tw13240008431815696829 : Nat := 0
def PySem.W.Fast.tw9590168916555611531 : Nat := 0
def PySem.W.Fast.tw16502164669370179246 : Nat := 0
def PySem.W.Fast.tw18358370701059692286 : Nat := 0
def PySem.W.Fast.tw17896272904553348096 : Nat := 0
section
open PySem PySem.W PyProof.Rows
set_option maxHeartbeats 0 in
open_top MW.hd for PySem.Challenge.rw_helperwire_k15_texts_refused
end
set_option Elab.async false
set_option linter.all false
set_option maxRecDepth 100000
namespace HW
open PySem PySem.Spec PyProof.Rows L2 Evl SX

/-! ### data as a whole -/
inductive D where
  | non | bl (b : Bool) | int (i : Int) | str (l : List Nat) | tup (ds : List D) | lst (ds : List D)

mutual
def Rp (H : Hp) : D → V → Prop
  | .non, v => v = .non
  | .bl b, v => v = .bl b
  | .int i, v => v = .int i
  | .str l, v => v = .str (S l)
  | .tup ds, v => ∃ p vs, v = .ref p ∧ H p = some (.tup vs) ∧ Rps H ds vs
  | .lst ds, v => ∃ p vs, v = .ref p ∧ H p = some (.lst vs) ∧ Rps H ds vs
def Rps (H : Hp) : List D → List V → Prop
  | [], vs => vs = []
  | d :: ds, vs => ∃ v r, vs = v :: r ∧ Rp H d v ∧ Rps H ds r
end
mutual
theorem Rp.ex {H H' : Hp} (e : Ex H H') : ∀ {d : D} {v : V}, Rp H d v → Rp H' d v
  | .non, _, h => by rw [Rp] at h ⊢; exact h
  | .bl _, _, h => by rw [Rp] at h ⊢; exact h
  | .int _, _, h => by rw [Rp] at h ⊢; exact h
  | .str _, _, h => by rw [Rp] at h ⊢; exact h
  | .tup ds, _, h => by
    rw [Rp] at h ⊢
    obtain ⟨p, vs, h1, h2, h3⟩ := h
    exact ⟨p, vs, h1, e _ _ h2, Rps.ex e h3⟩
  | .lst ds, _, h => by
    rw [Rp] at h ⊢
    obtain ⟨p, vs, h1, h2, h3⟩ := h
    exact ⟨p, vs, h1, e _ _ h2, Rps.ex e h3⟩
theorem Rps.ex {H H' : Hp} (e : Ex H H') : ∀ {ds : List D} {vs : List V}, Rps H ds vs → Rps H' ds vs
  | [], _, h => by rw [Rps] at h ⊢; exact h
  | d :: ds, _, h => by
    rw [Rps] at h ⊢
    obtain ⟨v, r, h1, h2, h3⟩ := h
    exact ⟨v, r, h1, Rp.ex e h2, Rps.ex e h3⟩
end
section
variable {H : Hp} {v : V} {vs : List V}
theorem rp_bl {b : Bool} : Rp H (.bl b) v ↔ v = .bl b := by rw [Rp]
theorem rp_int {i : Int} : Rp H (.int i) v ↔ v = .int i := by rw [Rp]
theorem rp_str {l : List Nat} : Rp H (.str l) v ↔ v = .str (S l) := by rw [Rp]
theorem rp_tup {ds : List D} : Rp H (.tup ds) v ↔ ∃ p vs, v = .ref p ∧ H p = some (.tup vs) ∧ Rps H ds vs := by rw [Rp]
theorem rp_lst {ds : List D} : Rp H (.lst ds) v ↔ ∃ p vs, v = .ref p ∧ H p = some (.lst vs) ∧ Rps H ds vs := by rw [Rp]
theorem rps_nil : Rps H [] vs ↔ vs = [] := by rw [Rps]
theorem rps_cons {d : D} {ds : List D} : Rps H (d :: ds) vs ↔ ∃ v r, vs = v :: r ∧ Rp H d v ∧ Rps H ds r := by rw [Rps]
theorem rps_len : ∀ {ds : List D} {vs : List V}, Rps H ds vs → vs.length = ds.length
  | [], _, h => by rw [rps_nil.mp h]; rfl
  | d :: ds, _, h => by
    obtain ⟨v, r, rfl, _, h3⟩ := rps_cons.mp h
    show r.length + 1 = ds.length + 1
    rw [rps_len h3]
theorem rps_get : ∀ {ds : List D} {vs : List V} {i : Nat} {d : D}, Rps H ds vs → ds[i]? = some d → ∃ v, vs[i]? = some v ∧ Rp H d v
  | [], _, _, _, _, e => by simp at e
  | d :: ds, _, 0, _, h, e => by
    obtain ⟨v, r, rfl, h2, h3⟩ := rps_cons.mp h
    have e : d = _ := Option.some.inj e
    subst e
    exact ⟨v, rfl, h2⟩
  | d :: ds, _, i + 1, d', h, e => by
    obtain ⟨v, r, rfl, h2, h3⟩ := rps_cons.mp h
    exact rps_get (i := i) h3 e
theorem rps_app : ∀ {ds es : List D} {vs ws : List V}, Rps H ds vs → Rps H es ws → Rps H (ds ++ es) (vs ++ ws)
  | [], es, _, _, h, h' => by rw [rps_nil.mp h]; exact h'
  | d :: ds, es, _, _, h, h' => by
    obtain ⟨v, r, rfl, h2, h3⟩ := rps_cons.mp h
    exact rps_cons.mpr ⟨v, _, rfl, h2, rps_app h3 h'⟩
end

/-! ### what evaluates to which data -/
def EvD (te : TE) (σ : L2.St) (H : Hp) (d : D) : Prop := ∀ H1, Ex H H1 → ∀ Q : VK, (∀ v H2, Ex H1 H2 → Rp H2 d v → Q v H2) → te σ H1 Q
def EvDA (ta : TA) (σ : L2.St) (H : Hp) (ds : List D) : Prop := ∀ H1, Ex H H1 → ∀ Q : List V → Hp → Prop, (∀ vs H2, Ex H1 H2 → Rps H2 ds vs → Q vs H2) → ta σ H1 Q
section
variable {K : PySem.W.Frag} {σ : L2.St} {H H' : Hp} {ta tb te tx : TE} {t u : TT} {x y z v : V} {r : R2} {d e : D} {ds : List D}
theorem ed_var {i : Nat} (h : σ[i]? = some (some v)) (r : Rp H d v) : EvD (tVar i) σ H d := fun H1 e _ q => ⟨v, h, q v H1 (Ex.refl H1) (r.ex e)⟩
theorem ed_of (h : Ev te σ H v) (r : Rp H d v) : EvD te σ H d := fun H1 e Q q => h H1 e Q fun H2 e2 => q v H2 e2 (r.ex (e.trans e2))
theorem ed_i {i : Int} (h : Ev te σ H (.int i)) : EvD te σ H (.int i) := ed_of h (rp_int.mpr rfl)
theorem ed_s {l : List Nat} (h : Ev te σ H (.str (S l))) : EvD te σ H (.str l) := ed_of h (rp_str.mpr rfl)
theorem ed_b {b : Bool} (h : Ev te σ H (.bl b)) : EvD te σ H (.bl b) := ed_of h (rp_bl.mpr rfl)
theorem EvD.s {l : List Nat} (h : EvD te σ H (.str l)) : Ev te σ H (.str (S l)) := fun H1 e Q q => h H1 e Q fun v H2 e2 r => by rw [rp_str.mp r]; exact q H2 e2
theorem eda_nil : EvDA tNil σ H [] := fun H1 _ _ q => q [] H1 (Ex.refl H1) (rps_nil.mpr rfl)
theorem eda_cons {tr : TA} (h : EvD ta σ H d) (hr : EvDA tr σ H ds) : EvDA (tCons ta tr) σ H (d :: ds) := fun H1 e _ q =>
  h H1 e _ fun v H2 e2 r => hr H2 (e.trans e2) _ fun vs H3 e3 rs => q _ H3 (e2.trans e3) (rps_cons.mpr ⟨v, vs, rfl, r.ex e3, rs⟩)
theorem ed_tup {ta : TA} (h : EvDA ta σ H ds) (hl : ds.length ≤ 100000 := by simp) : EvD (tTup ta) σ H (.tup ds) := fun H1 e _ q =>
  h H1 e _ fun vs H2 e2 rs => ⟨sz_of (by rw [rps_len rs]; exact hl), fun p hp => q _ _ (e2.trans (Ex.new hp)) (rp_tup.mpr ⟨p, vs, rfl, upd_same, rs.ex (Ex.new hp)⟩)⟩
theorem ed_lst {ta : TA} (h : EvDA ta σ H ds) (hl : ds.length ≤ 100000 := by simp) : EvD (tLst ta) σ H (.lst ds) := fun H1 e _ q =>
  h H1 e _ fun vs H2 e2 rs => ⟨sz_of (by rw [rps_len rs]; exact hl), fun p hp => q _ _ (e2.trans (Ex.new hp)) (rp_lst.mpr ⟨p, vs, rfl, upd_same, rs.ex (Ex.new hp)⟩)⟩
theorem ed_ixL {i : Int} (h : EvD ta σ H (.lst ds)) (hi : Ev tb σ H (.int i)) (hd : atI ds i = some d) : EvD (tOp (rIxL K) ta tb) σ H d := fun H1 e Q q =>
  h H1 e _ fun v H2 e2 r => hi H2 (e.trans e2) _ fun H3 e3 => by
    obtain ⟨p, vs, rfl, h2, h3⟩ := rp_lst.mp (r.ex e3)
    have hl := rps_len h3
    unfold atI at hd
    cases hj : ixN ds.length i with
    | none => rw [hj] at hd; cases hd
    | some j =>
      rw [hj] at hd
      obtain ⟨w, hw, rw'⟩ := rps_get h3 (show ds[j]? = some d from hd)
      refine ⟨p, vs, i, w, rfl, rfl, sq_of h2, ?_, q w H3 (e2.trans e3) rw'⟩
      unfold atI
      rw [hl, hj]
      exact hw
/-! ### promises of defs that change nothing -/
/-! ### statements -/
variable {D' : Ends} {tu tw tz : TS} {g : TG}
theorem sd_ret (h : EvD te σ H d) (k : ∀ v H1, Ex H H1 → Rp H1 d v → D'.rt v H1) : tRet te D' σ H := h H (Ex.refl H) _ k
theorem sd_asg {i : Nat} (h : EvD te σ H d) (k : ∀ v H1, Ex H H1 → Rp H1 d v → D'.nx (σ.set i (some v)) H1) : tAsg te (gName i) D' σ H := h H (Ex.refl H) _ k
theorem qd_asg {i : Nat} (h : EvD te σ H d) (k : ∀ v H1, Ex H H1 → Rp H1 d v → tz D' (σ.set i (some v)) H1) : tSeq (tAsg te (gName i)) tz D' σ H := sd_asg (D' := { D' with nx := tz D' }) h k
end

/-! ### a def that stands -/
structure Df (P : Program) (w : World) (K : PySem.W.Frag) (mg : Str → Option Value) (base : Heap) (x : Str) (ps : List Str) (k : Nat) (sp : Sp) : Prop where
  ex : ∃ f fd, FnOk P w K mg base CX0 k f fd ps sp ∧ mg x = some (.ref f) ∧ PySem.W.keepIn K (.ref f) = true ∧ Binds K fd ps []
end HW

set_option Elab.async false
set_option linter.all false
set_option maxRecDepth 100000
namespace HW
open PySem PySem.Spec PyProof.Rows L2 Evl SX
section
variable {X : Cx}
/-! ### text * int -/
def rMulS : R2 := fun x y H Q => ∃ z n, x = .str z ∧ y = .int n ∧ MulOk z n ∧ Q (.str (Txt.mul z n)) H
theorem op_mulS : OpR X (binaryOp .Mult) rMulS := by
  intro pins s σ H x y v u Q I rx ry h
  obtain ⟨z, n, rfl, rfl, hok, q⟩ := h
  obtain ⟨t, rfl⟩ := rx
  obtain ⟨t', rfl⟩ := ry
  exact SB.mul hok fun t2 k => ⟨.str (Txt.mul z n), H, I.tok _, ⟨_, rfl⟩, q⟩
/-! ### text[::-1] -/
/-! ### {(..): v} -/
def tDispT1 (tk tv : TE) : TE := fun σ H Q => ∀ p, H p = none → tk σ (upd H p (.dT [])) fun x H1 => tv σ H1 fun y H2 => ∃ b k, x = .ref b ∧ H2 b = some (.tup (k.map kV)) ∧ H2 p = some (.dT []) ∧ Q (.ref p) (upd H2 p (.dT [(k, y)]))
theorem pe_dispT1 {k v : Expr} {tk tv : TE} {pos : Pos} (hu : X.A.units + 1 < cLine) (hk : PE X k tk) (hv : PE X v tv) : PE X (.Dict [some k] [v] pos) (tDispT1 tk tv) := by
  refine ⟨fun pins s σ H Q I q => ?_⟩
  have hn := I.hok.fresh (Nat.le_refl s.heap.objs.size)
  have I1 := I.laid (a := s.heap.objs.size) (o := .dT []) (h' := s.heap.push { cls := .type "dict", data := .dict #[] }) (t' := s.toks) (fun _ _ q => Heap.get?_push_of_some _ q) (Nat.le_refl _) (dt_empty s.heap I.big)
  refine wpAny_Dict_any rfl rfl (by simp) (by show 1 ≤ 15; decide) ?_
  refine pairTrees_cons_walk (thn (hk.run pins _ σ _ _ I1 (q _ hn)) fun u s1 ⟨x, H1, I2, rx, q1⟩ => thn (hv.run pins s1 σ H1 _ I2 q1) fun w2 s2 ⟨y, H2, I3, ry, q2⟩ => pairTrees_nil_walk ?_)
  obtain ⟨b, ks, ex, hb, hp, q⟩ := q2
  subst ex
  cases (show u = Value.ref b from rx)
  obtain ⟨z, hd, xs, rel, dd⟩ := dt_of I3.hok hp
  cases rel
  unfold storeAll
  rw [List.forIn_cons]
  refine wpAny_bind (wpAny_bind (wpAny_dictSet_heap (hsz := by decide) (show X.A.units < cLine from Nat.lt_of_succ_lt hu) (key_of I3.hok hb) dd fun h' dd' hs => wpAny_pure ?_))
  show wpAny _ _ (forIn [] _ _) _ _ _
  rw [List.forIn_nil]
  refine wpAny_pure ?_
  obtain ⟨qo, es, ep, hq, h2, h3, h4, _, h5⟩ := dd'
  refine ⟨.ref s.heap.objs.size, _, d_write (ob := .dT [(ks, y)]) I3 (by rw [hp]; exact True.intro) hs ⟨qo, hq⟩ ⟨?_, hd, [(ks, b, w2)], .cons ⟨rfl, ?_, ry⟩ .nil, qo, es, ep, hq, h2, h3, h4, h5⟩, rfl, q⟩
  · show 1 ≤ sizeLine
    decide
  · show (upd H2 _ _) b = _
    rw [upd_ne (ne_of hb hp (fun z => nomatch z))]
    exact hb
/-! ### enumerate(text) -/
def Ites (x : Str) : It :=
  ⟨fun i _ => i < x.cps.size, fun i H v H' => ∃ T c, v = .ref T ∧ H T = none ∧ x.cps[i]? = some c ∧ H' = upd H T (.tup [.int (i : Nat), .str ⟨#[c]⟩]), fun i _ => i = x.cps.size⟩
theorem draws_str {P : Program} {w : World} {A : Around} (hh : A.handled = none) (it : Addr) (x : Str) (t : Tok) (ty : String) (hty : ty = "str_ascii_iterator" ∨ ty = "str_iterator") :
    Draws P w A it [it] x.cps.size (fun i v => ∃ c u, x.cps[i]? = some c ∧ v = .str ⟨#[c]⟩ u) (fun i h => h.IsStrIter it ty x t i) := by
  rcases hty with e | e
  · rw [e]; exact Draws.strAscii hh it x t
  · rw [e]; exact Draws.strWide hh it x t
theorem turn_enumS {P : Program} {w : World} {K : PySem.W.Frag} {elts : List Expr} {kk : Nat} {tpos : Pos} (x : Str) (t : Tok) (ty : String) (hty : ty = "str_ascii_iterator" ∨ ty = "str_iterator") (e it : Addr) :
    Turn P w K (.Tuple elts kk tpos) (Ites x) [e, it] e (fun i h => (∃ old, IsEnum h e it ((i : Nat) : Int) old) ∧ h.IsStrIter it ty x t i ∧ e ≠ it) where
  mem := by simp
  obj := fun i h st b hb => by
    obtain ⟨⟨old, he⟩, ⟨o, ho, hc, hd⟩, _⟩ := st
    have e' : b = e ∨ b = it := by simpa using hb
    rcases e' with z | z
    · rw [z]; exact ⟨_, he, fun v q => nomatch q⟩
    · rw [z]; exact ⟨o, ho, fun v q => by rw [hd] at q; cases q⟩
  keep := fun i h h' st k => let ⟨⟨old, he⟩, ⟨o, ho, r⟩, hne⟩ := st; ⟨⟨old, k e (by simp) _ he⟩, ⟨o, k it (by simp) o ho, r⟩, hne⟩
  item := by
    intro X hP hw hK hc i pins s σ H E I hf st hg
    subst hP hw hK
    obtain ⟨⟨old, he⟩, hit, hne⟩ := st
    have hel : e < s.heap.objs.size := Heap.lt_size he
    have hil : it < s.heap.objs.size := by obtain ⟨_, q, _⟩ := hit; exact Heap.lt_size q
    refine wpAny_pyNext_enum_itemD (fp := [it]) (St := fun i h => h.IsStrIter it ty x t i) (draws_str (A := X.A.in1) (I.ok.hd hc) it x t ty hty) he hit hg hne (by simpa using hne) fun u h' tk hu ho hit' hT hsz hk => ?_
    obtain ⟨c, ut, hc2, rfl⟩ := hu
    refine ⟨_, rfl, wpAny_letOwnedTupleGo_enum (s := { s with heap := h', toks := tk + 1 }) ho fun h'' he' sb => ?_⟩
    have hT2 : h''.get? s.heap.objs.size = some { cls := .type "tuple", data := .seq #[.int i tk, .str ⟨#[c]⟩ ut] } := (sb.2 _ (Nat.ne_of_gt hel)).trans hT
    have new : ObjOk X.prog X.w (upd H s.heap.objs.size (.tup [.int (i : Nat), .str ⟨#[c]⟩])) h'' s.heap.objs.size (.tup [.int (i : Nat), .str ⟨#[c]⟩]) :=
      ⟨by show 2 ≤ sizeLine; decide, [.int i tk, .str ⟨#[c]⟩ ut], .cons ⟨_, rfl⟩ (.cons ⟨_, rfl⟩ .nil), ⟨_, hT2, rfl, _, rfl⟩⟩
    have I1 : Inv X pins σ (upd H s.heap.objs.size (.tup [.int (i : Nat), .str ⟨#[c]⟩])) { s with heap := h'', toks := tk + 1 } :=
      I.turnedNew (ch := [e, it]) (fun b ob hb q => (sb.2 b (fun z => hb (by simp [z]))).trans (hk b ob (fun z => hb (by simp [z])) (fun z => hb (by simp [z])) q)) hf (Nat.le_refl _) new
    refine ⟨.ref s.heap.objs.size, _, I1, rfl, ⟨_, c, rfl, I.hok.fresh (Nat.le_refl _), hc2, rfl⟩, ⟨⟨.str ⟨#[c]⟩ ut, ?_⟩, ?_, hne⟩, fun b hb => ?_⟩
    · have e1 : ((i + 1 : Nat) : Int) = (i : Int) + 1 := by omega
      rw [e1]; exact he'
    · obtain ⟨o, ho2, r⟩ := hit'
      exact ⟨o, (sb.2 it (Ne.symm hne)).trans ho2, r⟩
    · have hb' : b < s.heap.objs.size := by
        have e' : b = e ∨ b = it := by simpa using hb
        rcases e' with z | z
        · rw [z]; exact hel
        · rw [z]; exact hil
      rw [upd_ne (Nat.ne_of_lt hb')]
      exact (hf b hb).1
  done := by
    intro X hP hw hK hc i pins s σ H E I hf st hg
    subst hP hw hK
    obtain ⟨⟨old, he⟩, hit, hne⟩ := st
    obtain ⟨f0, f1, f2, f3, f4, f5⟩ := hf it (by simp)
    have hg : i = x.cps.size := hg
    subst hg
    exact wpAny_pyNext_enum_endD (fp := [it]) (St := fun i h => h.IsStrIter it ty x t i) (draws_str (A := X.A.in1) (I.ok.hd hc) it x t ty hty) he hit fun h' eb => ⟨rfl, I.turned (t' := s.toks) (fun b o hb q => eb b o hb q) f0 f1 f3 f4 f5⟩
  self := fun A i s Q E st h => let ⟨⟨_, he⟩, _⟩ := st; wpAny_pyIter_enum he h
def iEnumS (ta : TA) : TI := fun σ H R => ta σ H fun vs H1 => ∃ x, vs = [.str x] ∧ R (Ites x) H1
theorem pi_enumS {e : Expr} {ta : TA} {p pos tpos : Pos} {elts : List Expr} {kk : Nat} (hg : Gl X "enumerate") (hm : X.mg "enumerate" = none) (ha : PA X [e] ta) (hs : starEach [e] X.env = [(false, eval e X.env)] := by rfl) :
    PI X (.Tuple elts kk tpos) (.Call (.Name "enumerate" p) [e] [] pos) (iEnumS ta) := by
  refine ⟨fun pins s σ H R I h => ?_⟩
  refine Call_ (ld_blt I hg hm boot_enumerate (PyProof.Rows.callWith_type1 (thn (ha.run pos pins s σ H _ I h) fun us s1 ⟨vs, H1, I1, r1, q1⟩ => ?_) hs rfl))
  obtain ⟨x, ex, q⟩ := q1
  subst ex
  cases r1 with
  | cons r rr =>
    cases rr
    obtain ⟨t, rfl⟩ := r
    refine call_enumerate_str fun h' he hit hsz hk => wpAny_pyIter_enum he ?_
    have I2 : Inv X pins σ H1 { s1 with heap := h' } := I1.kept (t' := s1.toks) hk
    have hty : strIterType x = "str_ascii_iterator" ∨ strIterType x = "str_iterator" := by
      unfold strIterType
      by_cases c : (x.cps.all (· < 128)) = true
      · rw [if_pos c]; exact .inl rfl
      · rw [if_neg c]; exact .inr rfl
    refine ⟨s1.heap.objs.size + 1, [s1.heap.objs.size + 1, s1.heap.objs.size], _, _, H1, rfl, I2, turn_enumS x t (strIterType x) hty (s1.heap.objs.size + 1) s1.heap.objs.size, ⟨⟨.none, he⟩, hit, Nat.succ_ne_self _⟩, fun b hb => ?_, q⟩
    have e' : b = s1.heap.objs.size + 1 ∨ b = s1.heap.objs.size := by simpa using hb
    have hle : s1.heap.objs.size ≤ b := by
      rcases e' with z | z
      · rw [z]; exact Nat.le_add_right _ _
      · rw [z]; exact Nat.le_refl _
    exact I1.fpOk hle (I1.hok.fresh hle)
end
end HW

set_option Elab.async false
set_option linter.all false
namespace HW
open PySem PySem.Spec PyProof.Rows L2 Evl SX
/-! ### signs, places -/
def sgn (c : Nat) : Bool := (decide (32 ≤ c) && decide (c ≤ 126)) || decide (c = 10)
def stp (p : Nat × Nat) (c : Nat) : Nat × Nat := if c = 10 then (p.1 + 1, 0) else (p.1, p.2 + 1)
def posF (s : List Nat) : Nat × Nat := s.foldl stp (0, 0)
def pos (s : List Nat) (n : Nat) : Nat × Nat := posF (s.take n)
def rwsA (acc : List Nat) : List Nat → List (List Nat)
  | [] => [acc]
  | c :: r => if c = 10 then acc :: rwsA [] r else rwsA (acc ++ [c]) r
def rws (s : List Nat) : List (List Nat) := rwsA [] s
theorem pos_succ {s : List Nat} {n c : Nat} (h : s[n]? = some c) : pos s (n + 1) = stp (pos s n) c := by
  unfold pos posF
  rw [List.take_add_one, h, List.foldl_append]
  rfl
theorem fold_shift : ∀ (s : List Nat) (k l : Nat), s.foldl stp (k, l) = (k + (s.foldl stp (0, l)).1, (s.foldl stp (0, l)).2)
  | [], k, l => by simp
  | c :: r, k, l => by
    rw [List.foldl_cons, List.foldl_cons]
    by_cases h : c = 10
    · rw [stp, if_pos h, stp, if_pos h]
      rw [fold_shift r (k + 1) 0, fold_shift r (0 + 1) 0]
      simp only [Prod.mk.injEq, and_true]
      omega
    · rw [stp, if_neg h, stp, if_neg h]
      exact fold_shift r k (l + 1)
theorem rwsA_head : ∀ (s acc : List Nat), ∃ t r, rwsA acc s = (acc ++ t) :: r
  | [], acc => ⟨[], [], by rw [List.append_nil]; rfl⟩
  | c :: r, acc => by
    by_cases h : c = 10
    · rw [rwsA, if_pos h]
      exact ⟨[], _, by rw [List.append_nil]⟩
    · rw [rwsA, if_neg h]
      obtain ⟨t, q, e⟩ := rwsA_head r (acc ++ [c])
      exact ⟨[c] ++ t, q, by rw [e, List.append_assoc]⟩
def before (rs : List (List Nat)) (k : Nat) : Nat := ((rs.take k).map fun r => r.length + 1).sum
theorem rwsA_pos : ∀ (s acc : List Nat) (n : Nat), n ≤ s.length →
    ∃ row, (rwsA acc s)[((s.take n).foldl stp (0, acc.length)).1]? = some row ∧ ((s.take n).foldl stp (0, acc.length)).2 ≤ row.length ∧
      before (rwsA acc s) ((s.take n).foldl stp (0, acc.length)).1 + ((s.take n).foldl stp (0, acc.length)).2 = n + acc.length
  | s, acc, 0, _ => by
    obtain ⟨t, r, e⟩ := rwsA_head s acc
    rw [List.take_zero, List.foldl_nil, e]
    refine ⟨_, rfl, ?_, ?_⟩
    · rw [List.length_append]; exact Nat.le_add_right _ _
    · unfold before
      rw [List.take_zero]
      simp
  | [], acc, n + 1, h => by simp at h
  | c :: r, acc, n + 1, h => by
    have h' : n ≤ r.length := by
      rw [List.length_cons] at h
      omega
    rw [List.take_succ_cons, List.foldl_cons]
    by_cases hc : c = 10
    · rw [stp, if_pos hc, rwsA, if_pos hc, fold_shift]
      obtain ⟨row, h1, h2, h3⟩ := rwsA_pos r [] n h'
      have e0 : (([] : List Nat).length) = 0 := rfl
      rw [e0] at h1 h2 h3
      have ek : 0 + 1 + ((r.take n).foldl stp (0, 0)).1 = ((r.take n).foldl stp (0, 0)).1 + 1 := by omega
      simp only [ek]
      refine ⟨row, ?_, h2, ?_⟩
      · rw [List.getElem?_cons_succ]; exact h1
      · unfold before at h3 ⊢
        rw [List.take_succ_cons, List.map_cons, List.sum_cons]
        omega
    · rw [stp, if_neg hc, rwsA, if_neg hc]
      obtain ⟨row, h1, h2, h3⟩ := rwsA_pos r (acc ++ [c]) n h'
      have e0 : (acc ++ [c]).length = acc.length + 1 := by simp
      rw [e0] at h1 h2 h3
      exact ⟨row, h1, h2, h3.trans (by omega)⟩
theorem rws_pos {s : List Nat} {n : Nat} (h : n ≤ s.length) :
    ∃ row, (rws s)[(pos s n).1]? = some row ∧ (pos s n).2 ≤ row.length ∧ before (rws s) (pos s n).1 + (pos s n).2 = n := rwsA_pos s [] n h
theorem pos_inj {s : List Nat} {n m : Nat} (hn : n ≤ s.length) (hm : m ≤ s.length) (h : pos s n = pos s m) : n = m := by
  obtain ⟨_, _, _, h1⟩ := rws_pos hn
  obtain ⟨_, _, _, h2⟩ := rws_pos hm
  rw [h] at h1
  omega
end HW

set_option Elab.async false
set_option linter.all false
set_option maxRecDepth 100000
namespace HW
open PySem PySem.Spec PyProof.Rows L2 Evl SX
/-! ### flat lists -/
section
variable {H : Hp}
theorem rps_map {α : Type} (f : α → D) (g : α → V) (h : ∀ a v, Rp H (f a) v → v = g a) : ∀ {xs : List α} {vs : List V}, Rps H (xs.map f) vs → vs = xs.map g
  | [], _, r => rps_nil.mp r
  | x :: xs, _, r => by
    obtain ⟨v, q, rfl, h1, h2⟩ := rps_cons.mp r
    rw [h x v h1, rps_map f g h h2]
    rfl
theorem rps_bls {xs : List Bool} {vs : List V} (r : Rps H (xs.map D.bl) vs) : vs = xs.map V.bl := rps_map D.bl V.bl (fun _ _ q => rp_bl.mp q) r
end
/-! ### the type of data -/
/-! ### data without lists: tuples stay, whatever is changed -/
/-! ### data compared with itself -/

section
variable {K : PySem.W.Frag} {σ : L2.St} {H H' : Hp} {ta tb tc te tx : TE} {t u : TT} {x y z v : V} {r r' : R2} {d e : D} {ds : List D}
/-! ### comparisons -/
theorem rv_eqS {a b : List Nat} : RV rEq (.str (S a)) (.str (S b)) H (.bl (decide (a = b))) := fun H1 _ _ q => ⟨rfl, by
  have e : decide (V.str (S a) = V.str (S b)) = decide (a = b) := by
    by_cases h : a = b
    · subst h; simp
    · have h' : ¬ V.str (S a) = V.str (S b) := fun z => h (S_inj (V.str.inj z))
      rw [decide_eq_false h, decide_eq_false h']
  rw [e]
  exact q H1 (Ex.refl H1)⟩
theorem rv_neI {a b : Int} : RV rNe (.int a) (.int b) H (.bl (!decide (a = b))) := fun H1 _ _ q => ⟨rfl, by
  have e : decide (V.int a = V.int b) = decide (a = b) := by
    by_cases h : a = b
    · subst h; simp
    · rw [decide_eq_false h, decide_eq_false fun z => h (V.int.inj z)]
  rw [e]
  exact q H1 (Ex.refl H1)⟩
/-! ### isinstance -/
theorem k_is : kitB "int" "str" = some false := by decide +kernel
/-! ### len -/
/-! ### all, sum, max, min -/
/-! ### texts -/
theorem sIx_n {n d : Nat} {i : Nat} : HT.sIx n d (some (i : Int)) = min i n := HT.sIx_nat n d i
theorem cut_mid (l : List Nat) (a b : Nat) (h1 : a ≤ b) (h2 : b ≤ l.length) : cutS (S l) (some (a : Int)) (some (b : Int)) = S ((l.drop a).take (b - a)) := by
  unfold cutS
  rw [sIx_n, sIx_n]
  show S ((l.drop (min a (S l).length)).take (min b (S l).length - min a (S l).length)) = _
  rw [S_len, Nat.min_eq_left h2, Nat.min_eq_left (Nat.le_trans h1 h2)]
/-! ### what is walked -/
/-! ### comprehensions -/
end
end HW

set_option Elab.async false
set_option linter.all false
set_option maxRecDepth 100000
namespace HW
open PySem PySem.Spec PyProof.Rows L2 Evl SX
section
variable {K : PySem.W.Frag} {σ : L2.St} {H H' : Hp} {ta tb tc te tx : TE} {t u : TT} {x y z v : V} {r r' : R2} {d e : D} {ds : List D} {D' : Ends} {tu tw tz : TS} {g : TG}
theorem et_no (h : EvT t σ H true) : EvT (tNot t) σ H false := et_is (et_not h) rfl
theorem et_or0 {b : Bool} (h1 : EvT t σ H false) (h2 : EvT u σ H b) : EvT (tOr t u) σ H b := et_is (et_or h1 fun _ => h2) (Bool.false_or b)
end
end HW

set_option Elab.async false
set_option linter.all false
set_option maxRecDepth 100000
namespace HW
open PySem PySem.Spec PyProof.Rows L2 Evl SX
/-! ### a state that is drawn from: a list that changes, all else stays -/
/-- the script: locked, or written -/
def Scr (K : PySem.W.Frag) (H : Hp) (sc : Addr) (xs : List V) : Prop := (∃ o, H sc = some (.frz o (.lst xs))) ∨
  ∃ (o : Obj) (its : Array Value) (n : Nat), K.lookup sc = some o ∧ o.cls = .type "list" ∧ o.dict = none ∧ o.data = .seq its n ∧ its.size ≤ sizeLine ∧ Vals xs its.toList
theorem Scr.sq {K : PySem.W.Frag} {H : Hp} {sc : Addr} {xs : List V} (h : Scr K H sc xs) : SqL K H sc xs := by
  rcases h with ⟨o, h⟩ | h
  · exact .inl (.inr ⟨o, h⟩)
  · exact .inr h
theorem Scr.upd {K : PySem.W.Frag} {H : Hp} {sc p : Addr} {xs : List V} {o : HO} (h : Scr K H sc xs) (hp : ∀ ob u, H p ≠ some (.frz ob u)) : Scr K (upd H p o) sc xs := by
  rcases h with ⟨ob, h⟩ | h
  · refine .inl ⟨ob, ?_⟩
    rw [upd_ne (fun z => hp _ _ (by rw [← z]; exact h))]
    exact h
  · exact .inr h
section
variable {K : PySem.W.Frag} {ns : List Int} {a : Addr} {σ : L2.St} {H H' : Hp} {ta tb te : TE} {P P1 P2 : V → Prop} {v : V} {r : R2}
/-! ### statements -/
variable {D' : Ends} {tz tu tw : TS}
/-! ### tests that draw -/
/-! ### a list made by draws -/
/-! ### a plain def called with drawn values; a drawn item of a list -/
end
/-! ### lists that are new -/
section
variable {K : PySem.W.Frag} {σ : L2.St} {H H' : Hp} {ta tb te tx : TE} {t u : TT} {d e : D} {ds : List D} {D' : Ends} {tz : TS}
end
end HW

set_option Elab.async false
set_option linter.all false
set_option maxRecDepth 100000
set_option maxHeartbeats 1000000
namespace HW
open PySem PySem.Spec PyProof.Rows L2 Evl SX
/-! ### things known by their very object -/
def ObjO (c : Addr) (o : Obj) : HO := .ext fun h => h.get? c = some o
abbrev Cl := List (Addr × Obj)
def lay (H : Hp) (cs : Cl) : Hp := fun b => match cs.lookup b with
  | some o => some (ObjO b o)
  | none => H b
def bar (H : Hp) (cs : Cl) : Hp := fun b => match cs.lookup b with
  | some _ => none
  | none => H b
def FreeOf (H : Hp) (cs : Cl) : Prop := ∀ c o, cs.lookup c = some o → H c = none
def LaidIn (H : Hp) (cs : Cl) : Prop := ∀ c o, cs.lookup c = some o → H c = some (ObjO c o)
section
variable {P : Program} {w : World} {H H' : Hp} {h : Heap} {cs : Cl} {b c : Addr} {o : Obj}
theorem objO_ok (e : h.get? c = some o) : ObjOk P w H h c (ObjO c o) := ⟨e, ⟨o, e⟩, fun _ _ p st => st o p⟩
theorem objO_at (ok : HOk P w H h) (e : H c = some (ObjO c o)) : h.get? c = some o := (ok c _ e).1
theorem lay_in (e : cs.lookup b = some o) : lay H cs b = some (ObjO b o) := by unfold lay; rw [e]
theorem lay_out (e : cs.lookup b = none) : lay H cs b = H b := by unfold lay; rw [e]
theorem bar_in (e : cs.lookup b = some o) : bar H cs b = none := by unfold bar; rw [e]
theorem bar_out (e : cs.lookup b = none) : bar H cs b = H b := by unfold bar; rw [e]
theorem lay_bar (l : ∀ c o, cs.lookup c = some o → H c = none) : bar (lay H cs) cs = H := by
  funext b
  cases q : cs.lookup b with
  | some o => rw [bar_in q, l b o q]
  | none => rw [bar_out q, lay_out q]
theorem laid_lay : LaidIn (lay H cs) cs := fun _ _ q => lay_in q
theorem LaidIn.ex (l : LaidIn H cs) (e : Ex H H') : LaidIn H' cs := fun c o q => e _ _ (l c o q)
/-- not among cs: it is tracked otherwise -/
theorem out_of {u : HO} (l : ∀ c o, cs.lookup c = some o → H c = none) (e : H b = some u) : cs.lookup b = none := by
  cases q : cs.lookup b with
  | none => rfl
  | some o => rw [l b o q] at e; cases e
theorem out_of' {u : HO} (l : LaidIn H cs) (e : H b = some u) (hu : ∀ o, u ≠ ObjO b o) : cs.lookup b = none := by
  cases q : cs.lookup b with
  | none => rfl
  | some o => rw [l b o q] at e; exact absurd (Option.some.inj e).symm (hu o)
theorem out_none (l : LaidIn H cs) (e : H b = none) : cs.lookup b = none := by
  cases q : cs.lookup b with
  | none => rfl
  | some o => rw [l b o q] at e; cases e
theorem ne_tup {xs : List V} {c : Addr} (o : Obj) : HO.tup xs ≠ ObjO c o := fun z => by unfold ObjO at z; cases z
theorem ne_own {x c : Addr} (o : Obj) : HO.own x ≠ ObjO c o := fun z => by unfold ObjO at z; cases z
theorem ne_frz {ob : Obj} {u : HO} {c : Addr} (o : Obj) : HO.frz ob u ≠ ObjO c o := fun z => by unfold ObjO at z; cases z
theorem ne_tbl {ps : Array Value} {c : Addr} (o : Obj) : HO.tbl ps ≠ ObjO c o := fun z => by unfold ObjO at z; cases z
theorem hok_lay (ok : HOk P w H h) (l : ∀ c o, cs.lookup c = some o → H c = none ∧ h.get? c = some o) : HOk P w (lay H cs) h := fun b u e => by
  cases q : cs.lookup b with
  | some o =>
    rw [lay_in q] at e
    cases e
    exact objO_ok (l b o q).2
  | none =>
    rw [lay_out q] at e
    refine (ok b u e).stay (fun _ _ _ z => z) (fun c z => ?_) fun c xs z => ?_
    · rw [lay_out (out_of (fun c o q => (l c o q).1) z)]; exact z
    · rw [lay_out (out_of (fun c o q => (l c o q).1) z)]; exact z
theorem hok_bar (ok : HOk P w H h) (l : LaidIn H cs) : HOk P w (bar H cs) h := fun b u e => by
  cases q : cs.lookup b with
  | some o => rw [bar_in q] at e; cases e
  | none =>
    rw [bar_out q] at e
    refine (ok b u e).stay (fun _ _ _ z => z) (fun c z => ?_) fun c xs z => ?_
    · rw [bar_out (out_of' l z ne_own)]; exact z
    · rw [bar_out (out_of' l z ne_tup)]; exact z
end
section
variable {P : Program} {w : World} {K : PySem.W.Frag} {mg : Str → Option Value} {base : Heap} {A : Around} {outer : List Env} {s s' : Shared} {H : Hp} {cs : Cl} {Q : VK} {E : XK} {u : Value}
theorem env0_bar (e : Env0 P w K mg base A outer s H) (l : LaidIn H cs) : Env0 P w K mg base A outer s (bar H cs) :=
  ⟨e.frames, e.mod, fun b o q => ⟨(e.bs b o q).1, by rw [bar_out (out_none l (e.bs b o q).2)]; exact (e.bs b o q).2⟩, e.bsz, e.funs, fun b hb => by rw [bar_out (out_none l (e.frf b hb))]; exact e.frf b hb, hok_bar e.hok l, e.bare⟩
theorem env0_lay (e : Env0 P w K mg base A outer s H) (l : ∀ c o, cs.lookup c = some o → H c = none ∧ s.heap.get? c = some o) (nf : ∀ b ∈ frs outer, cs.lookup b = none) (nb : ∀ b o, base.get? b = some o → cs.lookup b = none) : Env0 P w K mg base A outer s (lay H cs) :=
  ⟨e.frames, e.mod, fun b o q => ⟨(e.bs b o q).1, by rw [lay_out (nb b o q)]; exact (e.bs b o q).2⟩, e.bsz, e.funs, fun b hb => by rw [lay_out (nf b hb)]; exact e.frf b hb, hok_lay e.hok l, e.bare⟩
/-- behind a run in which cs were not tracked: they are as they were -/
theorem ce_lay (ok : HOk P w H s.heap) (l : LaidIn H cs) (hf : ∀ b ∈ frs outer, H b = none) (h : CE outer P w (bar H cs) s (fun v H' => FreeOf H' cs → Q v (lay H' cs)) u s') : CE outer P w H s Q u s' := by
  obtain ⟨v, H', os, ba, un, hok, r, q⟩ := h
  have nf : ∀ c o, cs.lookup c = some o → c ∉ frs outer := fun c o e z => by
    have := hf c z
    rw [l c o e] at this
    cases this
  have kc : ∀ c o, cs.lookup c = some o → H' c = none ∧ s'.heap.get? c = some o := fun c o e =>
    ⟨un.free c o (objO_at ok (l c o e)) (bar_in e) (by simp), un.keep c o (objO_at ok (l c o e)) (bar_in e) (nf c o e) (by simp)⟩
  refine ⟨v, lay H' cs, os, ba, ⟨fun b o e n hb hx => ?_, fun b o e n hb hx => ?_, fun b o e n hx => ?_, un.there, fun b xs e => ?_, fun b o x e => ?_, fun b ps e => ?_⟩, hok_lay hok kc, r, q fun c o e => (kc c o e).1⟩
  · exact un.keep b o e (by rw [bar_out (out_none l n)]; exact n) hb hx
  · exact un.slot b o e (by rw [bar_out (out_none l n)]; exact n) hb hx
  · rw [lay_out (out_none l n)]
    exact un.free b o e (by rw [bar_out (out_none l n)]; exact n) hx
  · have no := out_of' l e ne_tup
    rw [lay_out no]
    exact un.tups b xs (by rw [bar_out no]; exact e)
  · have no := out_of' l e ne_frz
    rw [lay_out no]
    exact un.frzs b o x (by rw [bar_out no]; exact e)
  · have no := out_of' l e ne_tbl
    rw [lay_out no]
    exact un.tbls b ps (by rw [bar_out no]; exact e)
theorem cx_lay (ok : HOk P w H s.heap) (l : LaidIn H cs) (hf : ∀ b ∈ frs outer, H b = none) (h : L2.CX P w outer (bar H cs) s (fun cls d H' => FreeOf H' cs → E cls d (lay H' cs)) u s') : L2.CX P w outer H s E u s' := by
  obtain ⟨a, B, H', cls, d, eu, fl, hok, ub, ha, os, ba, q⟩ := h
  have nf : ∀ c o, cs.lookup c = some o → c ∉ frs outer := fun c o e z => by
    have := hf c z
    rw [l c o e] at this
    cases this
  have kc : ∀ c o, cs.lookup c = some o → H' c = none ∧ B.get? c = some o := fun c o e =>
    ⟨ub.free c o (objO_at ok (l c o e)) (bar_in e), ub.keep c o (objO_at ok (l c o e)) (bar_in e) (nf c o e)⟩
  have na : cs.lookup a = none := by
    cases e : cs.lookup a with
    | none => rfl
    | some o =>
      have := (kc a o e).2
      rw [fl.2.1] at this
      cases this
  refine ⟨a, B, lay H' cs, cls, d, eu, fl, hok_lay hok kc, ⟨fun b o e n hb => ?_, ub.slot, fun b o e n => ?_, ub.there, fun b xs e => ?_, fun b o x e => ?_, fun b ps e => ?_⟩, by rw [lay_out na]; exact ha, os, ba, q fun c o e => (kc c o e).1⟩
  · exact ub.keep b o e (by rw [bar_out (out_none l n)]; exact n) hb
  · rw [lay_out (out_none l n)]
    exact ub.free b o e (by rw [bar_out (out_none l n)]; exact n)
  · have no := out_of' l e ne_tup
    rw [lay_out no]
    exact ub.tups b xs (by rw [bar_out no]; exact e)
  · have no := out_of' l e ne_frz
    rw [lay_out no]
    exact ub.frzs b o x (by rw [bar_out no]; exact e)
  · have no := out_of' l e ne_tbl
    rw [lay_out no]
    exact ub.tbls b ps (by rw [bar_out no]; exact e)
/-- behind a call in which cs were tracked: they are untracked again -/
theorem ce_bar (l : ∀ c o, cs.lookup c = some o → H c = none ∧ s.heap.get? c = some o) (h : CE outer P w (lay H cs) s (fun v H' => LaidIn H' cs ∧ Q v (bar H' cs)) u s') : CE outer P w H s Q u s' := by
  obtain ⟨v, H', os, ba, un, hok, r, lq, q⟩ := h
  have at' : ∀ b o o', cs.lookup b = some o' → s.heap.get? b = some o → s'.heap.get? b = some o := fun b o o' e z => by
    have h1 := (l b o' e).2
    rw [z] at h1
    cases h1
    exact objO_at hok (lq b o e)
  have l1 : ∀ c o, cs.lookup c = some o → H c = none := fun c o e => (l c o e).1
  refine ⟨v, bar H' cs, os, ba, ⟨fun b o e n hb hx => ?_, fun b o e n hb hx => ?_, fun b o e n hx => ?_, un.there, fun b xs e => ?_, fun b o x e => ?_, fun b ps e => ?_⟩, hok_bar hok lq, r, q⟩
  · cases z : cs.lookup b with
    | some o' => exact at' b o o' z e
    | none => exact un.keep b o e (by rw [lay_out z]; exact n) hb hx
  · cases z : cs.lookup b with
    | some o' => exact ⟨o.slots, at' b o o' z e⟩
    | none => exact un.slot b o e (by rw [lay_out z]; exact n) hb hx
  · cases z : cs.lookup b with
    | some o' => exact bar_in z
    | none =>
      rw [bar_out z]
      exact un.free b o e (by rw [lay_out z]; exact n) hx
  · have no := out_of l1 e
    rw [bar_out no]
    exact un.tups b xs (by rw [lay_out no]; exact e)
  · have no := out_of l1 e
    rw [bar_out no]
    exact un.frzs b o x (by rw [lay_out no]; exact e)
  · have no := out_of l1 e
    rw [bar_out no]
    exact un.tbls b ps (by rw [lay_out no]; exact e)
end
/-! ### a function of no arguments, known by its object -/
/-- what the object o, called with nothing, does -/
def LamRun (P : Program) (w : World) (K : PySem.W.Frag) (mg : Str → Option Value) (base : Heap) (k : Nat) (o : Obj) (sp : Hp → VK → XK → Prop) : Prop :=
  ∀ (A : Around) (outer : List Env) (s : Shared) (H : Hp) (f : Addr) (Q : VK) (E : XK), Room k A → Env0 P w K mg base A outer s H → s.heap.get? f = some o → sp H Q E →
    codeAny (model P w) A (.call (.ref f) ⟨[], []⟩) (CR (L2.CX P w) outer P w H s Q E) s
def FnO (o : Obj) : Prop := ∃ oc od fd sl, o = (⟨oc, od, .func fd, sl⟩ : Obj)
def Act (P : Program) (w : World) (K : PySem.W.Frag) (mg : Str → Option Value) (base : Heap) (k : Nat) (H : Hp) (f : Addr) (Q : VK) (E : XK) : Prop :=
  ∃ (o : Obj) (sp : Hp → VK → XK → Prop), H f = some (ObjO f o) ∧ FnO o ∧ LamRun P w K mg base k o sp ∧ sp H Q E
/-- work(), work a name that holds such a function -/
def tWork (P : Program) (w : World) (K : PySem.W.Frag) (mg : Str → Option Value) (base : Heap) (k i : Nat) (W : WX) : TE := fun σ H Q => ∃ f, σ[i]? = some (some (.ref f)) ∧ Act P w K mg base k H f Q fun cls d H' => W cls d σ H'
theorem pe_work {X : Cx} {W : WX} {k i : Nat} {a : Str} {p1 p2 : Pos} (tk : Takes X W) (hr : Room k X.A) (hN : X.N[i]? = some a) (hv : Vis X.env.scope a) (hd : (a == ("__debug__" : Str)) = false := by decide) (hcd : (a == ("__classdict__" : Str)) = false := by decide) :
    PE X (.Call (.Name a p1) [] [] p2) (tWork X.prog X.w X.K X.mg X.base k i W) := by
  refine ⟨fun pins s σ H Q I h => ?_⟩
  obtain ⟨f, hs, o, sp, hf, ⟨oc, od, fd, sl, ho⟩, run, hsp⟩ := h
  refine wpAny_Call_Name_kw (thn ((pe_var (pos := p1) hN hv hd hcd).run pins s σ H (fun v H1 => v = .ref f ∧ H1 = H) I ⟨.ref f, hs, rfl, rfl⟩) fun u s1 hh => ?_)
  obtain ⟨v, H1, I1, r1, ev, eH⟩ := hh
  subst ev
  subst eH
  obtain rfl : u = Value.ref f := r1
  have hg := objO_at I1.hok hf
  refine PySem.W.callWith_F0 ⟨oc, od, fd, sl, by rw [hg, ho]⟩ (wpAny_call (codeAny_mono (run X.A X.stack s1 H1 f Q _ hr I1.env0 hg hsp) fun r s' hq => ?_))
  cases r with
  | error e => exact tk e s' (XE.of_call I1 (fun _ _ _ q => q) hq)
  | ok fl =>
    cases fl with
    | ret u => exact I1.after hq
    | next => exact False.elim hq
    | brk => exact False.elim hq
    | cont => exact False.elim hq
/-! ### the body of a lambda -/
structure LmS (N : List Str) (sc scope : Scope) : Prop where
  kind : scope.kind = .function
  co : scope.isCoroutine = false
  gen : scope.isGenerator = false
  own : ∀ y ∈ scope.names, y.2 ≠ .cell ∧ (y.2 = .local → y.1 ∉ N)
  free : ∀ y ∈ scope.names, y.2 = .free → sc.names.lookup y.1 = some .cell ∨ sc.names.lookup y.1 = some .free
def lmSB (N : List Str) (sc scope : Scope) : Bool :=
  decide (scope.kind = .function) && !scope.isCoroutine && !scope.isGenerator && scope.names.all fun y => !decide (y.2 = .cell) && (!decide (y.2 = .local) || !decide (y.1 ∈ N)) && (!decide (y.2 = .free) || (decide (sc.names.lookup y.1 = some .cell) || decide (sc.names.lookup y.1 = some .free)))
theorem lmS_by {N : List Str} {sc scope : Scope} (h : lmSB N sc scope = true) : LmS N sc scope := by
  unfold lmSB at h
  simp only [Bool.and_eq_true, Bool.or_eq_true, Bool.not_eq_true', decide_eq_true_eq, decide_eq_false_iff_not, List.all_eq_true] at h
  obtain ⟨⟨⟨h1, h2⟩, h3⟩, h4⟩ := h
  exact ⟨h1, h2, h3, fun y hy => ⟨(h4 y hy).1.1, fun e => (h4 y hy).1.2.resolve_left fun z => z e⟩, fun y hy e => (h4 y hy).2.resolve_left fun z => z e⟩
/-- the cells of X, by their objects: what the slots say stands in them -/
structure CelOk (X : Cx) (σ : L2.St) (cs : Cl) : Prop where
  val : ∀ x c, (X.env.kindOf x = some .cell ∨ X.env.kindOf x = some .free) → X.env.cells.lookup x = some c → ∃ o u, cs.lookup c = some o ∧ o.data = .cell u ∧ ∀ (i : Nat) (v : V), X.N[i]? = some x → σ[i]? = some (some v) → ∃ u', u = some u' ∧ RelV v u'
  inj : ∀ x y c, X.env.cells.lookup x = some c → X.env.cells.lookup y = some c → x = y
  has : ∀ x, (X.env.kindOf x = some .cell ∨ X.env.kindOf x = some .free) → ∃ c, X.env.cells.lookup x = some c
  len : σ.length = X.N.length
abbrev lamFn (q : Str) (params : Arguments) (body : Expr) (scope : Scope) (cl : List (Str × Addr)) (pm cdv ct dV : Value) : FuncData := { PySem.W.kla_fn "<lambda>" q params body scope cl pm cdv ct with defaults := dV }
abbrev lamObj (q : Str) (params : Arguments) (body : Expr) (scope : Scope) (cl : List (Str × Addr)) (pm cdv ct dV : Value) : Obj := { cls := .type "function", data := .func (lamFn q params body scope cl pm cdv ct dV) }
/-- how its arguments are bound where nothing is given: ds are the objects on which it leans -/
def DefOk (P : Program) (w : World) (fd : FuncData) (scope : Scope) (ds : Cl) (binds : List (Str × Value)) : Prop :=
  (∀ y ∈ binds, scope.names.lookup y.1 = some .local) ∧ ∀ (A : Around) (s : Shared) (Q : List (Str × Value) → Shared → Prop) (E : Value → Shared → Prop), (∀ c o, ds.lookup c = some o → s.heap.get? c = some o) → Q binds s → wpAny (model P w) A (bindArgs fd ⟨[], []⟩) Q E s
theorem lam_run {X : Cx} {σ : L2.St} {cs ds : Cl} {k : Nat} {params : Arguments} {body : Expr} {scope : Scope} {pm ctv dV : Value} {c' : Addr} {binds : List (Str × Value)} {t : XK → TE} (C : CelOk X σ cs) (L : LmS X.N X.env.scope scope)
    (hk : ∀ x, X.env.kindOf x = X.env.scope.names.lookup x)
    (B : DefOk X.prog X.w (lamFn (X.env.qual ++ "<lambda>") params body scope (cloFrom X.env.cells scope.names []) pm (.ref c') ctv dV) scope ds binds)
    (hbody : ∀ (A : Around) (outer : List Env) (s : Shared) (H : Hp) (E : XK) (f : Addr), Room k (A.deeper (LamX.lamEnv X scope s.heap.objs.size f c')) → PE (LamX.lamCx X A outer s H E scope f c') body (t E)) :
    LamRun X.prog X.w X.K X.mg X.base (k + 1) (lamObj (X.env.qual ++ "<lambda>") params body scope (cloFrom X.env.cells scope.names []) pm (.ref c') ctv dV)
      (fun H Q E => H c' = some (LamX.CodeO c' (X.env.qual ++ "<lambda>")) ∧ LaidIn H ds ∧ LaidIn H cs ∧ t (fun cls d H' => FreeOf H' cs → E cls d (lay H' cs)) σ (bar H cs) fun v H' => FreeOf H' cs → Q v (lay H' cs)) := by
  intro A outer s H f Q E hr e0 hf hsp
  obtain ⟨hc, hds, hcs, ht⟩ := hsp
  have e1 := env0_bar e0 hcs
  obtain ⟨⟨oc, vs, tq, hoc, hdc, hvc⟩, _, _⟩ := e0.hok c' _ hc
  have cm : ∀ {y c}, (cloFrom X.env.cells scope.names []).lookup y = some c → X.env.cells.lookup y = some c := fun {y c} e => by
    rcases cloFrom_mem (PySem.mem_of_lookup e) with hm | ⟨h1, h2⟩
    · cases hm
    · obtain ⟨c1, hc1⟩ := C.has y (by rw [hk]; exact L.free _ h1 rfl)
      have : c = c1 := by rw [h2, hc1]; rfl
      rw [this]
      exact hc1
  have kf : ∀ {y c}, (cloFrom X.env.cells scope.names []).lookup y = some c → X.env.kindOf y = some .cell ∨ X.env.kindOf y = some .free := fun {y c} e => by
    rcases cloFrom_mem (PySem.mem_of_lookup e) with hm | ⟨h1, _⟩
    · cases hm
    · rw [hk]; exact L.free _ h1 rfl
  have look : ∀ {y}, scope.names.lookup y = some .free → ∃ c, (cloFrom X.env.cells scope.names []).lookup y = some c := fun {y} hl => mem_lookup (cloFrom_has (cells := X.env.cells) (acc := []) (PySem.mem_of_lookup hl))
  have cellK : ∀ {h₁ : Heap}, (∀ b o, s.heap.get? b = some o → h₁.get? b = some o) → ∀ y c, (cloFrom X.env.cells scope.names []).lookup y = some c → ∃ o u, cs.lookup c = some o ∧ h₁.get? c = some o ∧ o.data = .cell u ∧ ∀ (i : Nat) (v : V), X.N[i]? = some y → σ[i]? = some (some v) → ∃ u', u = some u' ∧ RelV v u' := fun {h₁} kp y c e => by
    obtain ⟨o, u, q1, q2, q3⟩ := C.val y c (kf e) (cm e)
    exact ⟨o, u, q1, kp _ _ (objO_at e0.hok (hcs c o q1)), q2, q3⟩
  refine codeAny_mono (R := CR (L2.CX X.prog X.w) outer X.prog X.w (bar H cs) s (fun v H' => FreeOf H' cs → Q v (lay H' cs)) (fun cls d H' => FreeOf H' cs → E cls d (lay H' cs))) ?_ fun r s' hq => ?_
  · refine PySem.W.kla_callFunE hr.depth hf rfl L.co L.gen rfl ⟨c', oc, vs, tq, rfl, hoc, hdc, hvc⟩ (B.2 _ s _ _ (fun c o q => objO_at e0.hok (hds c o q)) ?_)
    refine wpAny_newFunctionEnv (fun y hy => (L.own y hy).1) B.1 (fun h₁ hns hsb => ⟨?_, ?_⟩) L.kind
    · exact (e0.mod.nolimit.keeps fun b o e => (e0.bs b o e).1).fresh _ hsb
    · show codeAny _ _ (.expr body (LamX.lamEnv X scope s.heap.objs.size f c')) _ _
      have kp : ∀ b o, s.heap.get? b = some o → h₁.get? b = some o := fun b o e => hsb.extBut b o (Nat.ne_of_lt (Heap.lt_size e)) (Heap.get?_push_of_some _ e)
      have noA : ∀ b : Addr, b ∉ ([] : List Addr) := fun b z => by cases z
      have J : Inv (LamX.lamCx X A outer s (bar H cs) (fun cls d H' => FreeOf H' cs → E cls d (lay H' cs)) scope f c') [] σ (bar H cs) { s with heap := h₁, toks := s.toks + binds.length } := by
        refine ⟨⟨e1.mod, L.kind, rfl, rfl, Nat.le_refl _, fun y z c a1 a2 => C.inj y z c (cm a1) (cm a2), fun y hy => ?_, fun y c z _ => ?_, fun _ => hr.hd, Around.frames_deeper e1.frames, .inr ⟨rfl, rfl⟩, fun b z => absurd z (noA b), e1.bs, e1.bsz, fun b _ _ => noA b, fun b z => absurd z (noA b), e1.funs, e1.frf⟩,
          rfl, e1.bare, Un.kept kp, ⟨_, hns, fun i y v a1 a2 a3 => ?_⟩, fun y c e => ?_, e1.hok.fresh (Nat.le_refl _), fun y c e => ?_, fun q hq => absurd (show q ∈ ([] : List (Addr × Obj)) ++ [] from hq) (by simp), e1.hok.kept kp, C.len⟩
        · have hy : scope.names.lookup y = some .cell ∨ scope.names.lookup y = some .free := hy
          rcases hy with hy | hy
          · exact absurd rfl (L.own _ (PySem.mem_of_lookup hy)).1
          · exact look hy
        · have z : false = true := z
          cases z
        · have a1 : X.N[i]? = some y := a1
          have a3 : Vis scope y := a3
          rcases a3 with k1 | k1 | k1
          · exact absurd (List.mem_of_getElem? a1) ((L.own _ (PySem.mem_of_lookup k1)).2 rfl)
          · exact absurd rfl (L.own _ (PySem.mem_of_lookup k1)).1
          · obtain ⟨c2, h2⟩ := look k1
            obtain ⟨o, u, q1, q2, q3, q4⟩ := cellK kp y c2 h2
            obtain ⟨u', hu, ru⟩ := q4 i v a1 a2
            exact ⟨u', ru, .inr ⟨.inr k1, c2, h2, o, q2, by rw [q3, hu]⟩⟩
        · obtain ⟨o, u, q1, q2, q3, _⟩ := cellK kp y c e
          exact ⟨u, o, q2, q3⟩
        · obtain ⟨o, u, q1, _⟩ := cellK kp y c e
          exact bar_in q1
      refine PySem.W.kla_codeExpr (wpAny_mono ((hbody A outer s (bar H cs) _ f (hr.deeper _)).run [] _ _ (bar H cs) _ J ht) (fun v s' hq => ?_) fun e s' hq => hq)
      obtain ⟨w', H', J', rv, q⟩ := hq
      exact ⟨w', H', J'.os, J'.bare, J'.base, J'.hok, rv, q⟩
  · cases r with
    | error e => exact cx_lay e0.hok hcs e0.frf hq
    | ok fl =>
      cases fl with
      | ret u => exact ce_lay e0.hok hcs e0.frf hq
      | next => exact False.elim hq
      | brk => exact False.elim hq
      | cont => exact False.elim hq
end HW

set_option Elab.async false
set_option linter.all false
set_option maxRecDepth 100000
set_option maxHeartbeats 1000000
namespace HW
open PySem PySem.Spec PyProof.Rows L2 Evl SX
/-! ### a lambda is made -/
section
variable {M : Model} {A : Around} {E : Value → Shared → Prop} {s : Shared} {q : Str} {params : Arguments} {body : Expr} {scope : Scope} {env : Env} {c P : Addr} {ps : Array Value} {pos : Pos} {ln : Nat} {mg : Str → Option Value} {cl : List (Str × Addr)} {Q : Value → Shared → Prop} {dV : Value}
theorem mk_new (h1 : closureFor scope env = pure cl) (h2 : env.globals = mainGlobals) (h3 : s.heap.Ns mainGlobals mg) (h4 : env.code = .ref c) (C : PySem.W.CodeHd s.heap c P) (h5 : s.heap.get? P = some (PySem.W.tabObj ps)) (h6 : TriplesOk ps.toList) (h7 : codeAmong pos ps.toList = none) (h8 : mainGlobals ≠ P) (h9 : s.heap.BuiltinsAt mg P)
    (k : ∀ c' ctv h' tk, Heap.ExtBut P s.heap h' → s.heap.objs.size ≤ c' → c' < h'.objs.size → h'.CodeRec (.ref c') q → h'.get? P = some (PySem.W.tabObj (ps ++ #[rawInt pos.line, rawInt pos.col, .ref c'])) →
      Q (.ref h'.objs.size) { s with heap := h'.push (lamObj q params body scope cl ((mg "__name__").getD .none) (.ref c') ctv dV), toks := tk }) :
    wpAny M A (makeTail "<lambda>" q params (.expr body) scope env dV .none none pos ln) Q E s := by
  obtain ⟨bm, ob, b1, b2, _, b4, b5, b6, b7, b8⟩ := h9
  unfold makeTail
  rw [h1, h2]
  refine wpAny_bind (wpAny_pure ?_)
  cases cl with
  | nil =>
    simp only [List.isEmpty_nil, if_true]
    refine wpAny_bind (wpAny_pure (wpAny_bind (wpAny_functionCodeX h4 (C.code h5 h6) (C.tab h5) h7 fun c' h' tk hx hge hlt _ hrec htb _ => ?_)))
    have g' := h3.extBut hx h8
    refine wpAny_bind (wpAny_builtinsFor g' b1 b2 (hx _ _ b4 b5) b6 b7 b8 (wpAny_bind (wpAny_nsGet g' ?_)))
    exact wpAny_bind (wpAny_pure (wpAny_newObj_type (k c' .none h' tk hx hge hlt hrec htb.2) (by size_fits)))
  | cons p r =>
    simp only [List.isEmpty_cons, Bool.false_eq_true, if_false]
    have kp : ∀ oT : Obj, ∀ b o, s.heap.get? b = some o → (s.heap.push oT).get? b = some o := fun oT b o e => Heap.get?_push_of_some _ e
    refine wpAny_bind (wpAny_newTextTuple (wpAny_bind (wpAny_functionCodeX h4 ((C.keeps (kp _)).code (Heap.get?_push_of_some _ h5) h6) ((C.keeps (kp _)).tab (Heap.get?_push_of_some _ h5)) h7 fun c' h' tk hx hge hlt _ hrec htb _ => ?_)))
    have g' := (h3.push _).extBut hx h8
    have hx' : Heap.ExtBut P s.heap h' := fun b o hb e => hx b o hb (kp _ b o e)
    have hge' : s.heap.objs.size ≤ c' := Nat.le_trans (by rw [Heap.size_push]; omega) hge
    refine wpAny_bind (wpAny_builtinsFor g' b1 b2 (hx' _ _ b4 b5) b6 b7 b8 (wpAny_bind (wpAny_nsGet g' ?_)))
    exact wpAny_bind (wpAny_pure (wpAny_newObj_type (k c' _ h' tk hx' hge' hlt hrec htb.2) (by size_fits)))
theorem mk_old {c' : Addr} (h1 : closureFor scope env = pure cl) (h2 : env.globals = mainGlobals) (h3 : s.heap.Ns mainGlobals mg) (h4 : env.code = .ref c) (C : PySem.W.CodeHd s.heap c P) (h5 : s.heap.get? P = some (PySem.W.tabObj ps)) (h6 : TriplesOk ps.toList) (h7 : codeAmong pos ps.toList = some (.ref c')) (h9 : s.heap.BuiltinsAt mg P)
    (k : ∀ (ctv : Value) (h' : Heap) (tk : Tok), (∀ b o, s.heap.get? b = some o → h'.get? b = some o) → s.heap.objs.size ≤ h'.objs.size →
      Q (.ref h'.objs.size) { s with heap := h'.push (lamObj q params body scope cl ((mg "__name__").getD .none) (.ref c') ctv dV), toks := tk }) :
    wpAny M A (makeTail "<lambda>" q params (.expr body) scope env dV .none none pos ln) Q E s := by
  obtain ⟨bm, ob, b1, b2, _, b4, b5, b6, b7, b8⟩ := h9
  unfold makeTail
  rw [h1, h2]
  refine wpAny_bind (wpAny_pure ?_)
  cases cl with
  | nil =>
    simp only [List.isEmpty_nil, if_true]
    refine wpAny_bind (wpAny_pure (wpAny_bind (wpAny_functionCode_hit h4 (C.code h5 h6) h7 ?_)))
    refine wpAny_bind (wpAny_builtinsFor h3 b1 b2 b5 b6 b7 b8 (wpAny_bind (wpAny_nsGet h3 ?_)))
    exact wpAny_bind (wpAny_pure (wpAny_newObj_type (k .none s.heap s.toks (fun _ _ e => e) (Nat.le_refl _)) (by size_fits)))
  | cons p r =>
    simp only [List.isEmpty_cons, Bool.false_eq_true, if_false]
    have kp : ∀ oT : Obj, ∀ b o, s.heap.get? b = some o → (s.heap.push oT).get? b = some o := fun oT b o e => Heap.get?_push_of_some _ e
    refine wpAny_bind (wpAny_newTextTuple (wpAny_bind (wpAny_functionCode_hit h4 ((C.keeps (kp _)).code (Heap.get?_push_of_some _ h5) h6) h7 ?_)))
    refine wpAny_bind (wpAny_builtinsFor (h3.push _) b1 b2 (Heap.get?_push_of_some _ b5) b6 b7 b8 (wpAny_bind (wpAny_nsGet (h3.push _) ?_)))
    exact wpAny_bind (wpAny_pure (wpAny_newObj_type (k _ _ s.toks (kp _) (by rw [Heap.size_push]; omega)) (by size_fits)))
end
/-- a lambda of the maker X stands at f -/
structure LamIs (X : Cx) (params : Arguments) (body : Expr) (scope : Scope) (f : Addr) (H : Hp) : Prop where
  ex : ∃ (pm ctv dV : Value) (c' : Addr) (ds : Cl) (binds : List (Str × Value)), H f = some (ObjO f (lamObj (X.env.qual ++ "<lambda>") params body scope (cloFrom X.env.cells scope.names []) pm (.ref c') ctv dV)) ∧ H c' = some (LamX.CodeO c' (X.env.qual ++ "<lambda>")) ∧ LaidIn H ds ∧
    DefOk X.prog X.w (lamFn (X.env.qual ++ "<lambda>") params body scope (cloFrom X.env.cells scope.names []) pm (.ref c') ctv dV) scope ds binds
/-- what is known by its object stays -/
def ExO (H H' : Hp) : Prop := ∀ b φ, H b = some (.ext φ) → H' b = some (.ext φ)
theorem LamIs.mono {X : Cx} {params : Arguments} {body : Expr} {scope : Scope} {f : Addr} {H H' : Hp} (l : LamIs X params body scope f H) (e : ExO H H') : LamIs X params body scope f H' := by
  obtain ⟨pm, ctv, dV, c', ds, bs, h1, h2, h3, h4⟩ := l.ex
  exact ⟨pm, ctv, dV, c', ds, bs, e _ _ h1, e _ _ h2, fun c o q => e _ _ (h3 c o q), h4⟩
section
variable {X : Cx} {pins : List (Addr × Obj)} {σ : L2.St} {H : Hp} {s : Shared}
/-! ### a call within which the maker's cells are known -/
/-- the block's cells lie apart from the frames, and from what stands from the start -/
def CelOut (X : Cx) (cl : List (Str × Addr)) : Prop := ∀ x c, cl.lookup x = some c → c ∉ frs X.stack ∧ ∀ o, X.base.get? c ≠ some o
theorem CelOut.of_fn (I : Inv X pins σ H s) (hfn : ∀ x, X.fn x = true) : CelOut X X.env.cells := fun x c hx => by
  have hc := I.ok.cab x c (hfn x) hx
  refine ⟨fun hb => ?_, fun o hb => ?_⟩
  · rcases List.mem_cons.mp (I.stkSub c hb) with e | e
    · exact I.cne x c hx e
    · obtain ⟨_, ob, ho, _⟩ := I.ok.funs.mem e
      exact absurd (Nat.lt_of_lt_of_le (Heap.lt_size ho) hc) (Nat.lt_irrefl _)
  · exact absurd (Nat.lt_of_lt_of_le (Heap.lt_size hb) (Nat.le_trans I.ok.bsz hc)) (Nat.lt_irrefl _)
theorem cels (I : Inv X pins σ H s) (hk : ∀ x, X.env.kindOf x = X.env.scope.names.lookup x) (hO : CelOut X X.env.cells) : ∃ cs : Cl, CelOk X σ cs ∧ (∀ c o, cs.lookup c = some o → H c = none ∧ s.heap.get? c = some o) ∧ (∀ b ∈ frs X.stack, cs.lookup b = none) ∧ ∀ b o, X.base.get? b = some o → cs.lookup b = none := by
  have key : ∀ (l : List (Str × Addr)) (c : Addr) (o : Obj), (l.filterMap fun p => (s.heap.get? p.2).map fun o => (p.2, o)).lookup c = some o → s.heap.get? c = some o ∧ ∃ x, (x, c) ∈ l := by
    intro l
    induction l with
    | nil => intro c o h; cases h
    | cons p l ih =>
      intro c o h
      rw [List.filterMap_cons] at h
      cases hp : s.heap.get? p.2 with
      | none =>
        rw [hp] at h
        obtain ⟨h1, x, h2⟩ := ih c o h
        exact ⟨h1, x, List.mem_cons_of_mem _ h2⟩
      | some o' =>
        rw [hp] at h
        simp only [Option.map_some] at h
        rw [List.lookup_cons] at h
        by_cases hc : c = p.2
        · subst hc
          rw [beq_self_eq_true] at h
          cases h
          exact ⟨hp, p.1, List.mem_cons_self⟩
        · rw [beq_false_of_ne hc] at h
          obtain ⟨h1, x, h2⟩ := ih c o h
          exact ⟨h1, x, List.mem_cons_of_mem _ h2⟩
  have have_ : ∀ (l : List (Str × Addr)) (x : Str) (c : Addr) (o : Obj), (x, c) ∈ l → s.heap.get? c = some o → (l.filterMap fun p => (s.heap.get? p.2).map fun o => (p.2, o)).lookup c = some o := by
    intro l
    induction l with
    | nil => intro x c o h; cases h
    | cons p l ih =>
      intro x c o h ho
      rw [List.filterMap_cons]
      by_cases hc : c = p.2
      · subst hc
        rw [ho]
        simp only [Option.map_some]
        rw [List.lookup_cons_self]
      · have hm : (x, c) ∈ l := (List.mem_cons.mp h).resolve_left fun z => hc (by rw [← z])
        cases hp : s.heap.get? p.2 with
        | none => exact ih x c o hm ho
        | some o' =>
          simp only [Option.map_some]
          rw [List.lookup_cons, beq_false_of_ne hc]
          exact ih x c o hm ho
  have sub : ∀ {x c}, (x, c) ∈ (X.env.cells.filter fun p => X.env.cells.lookup p.1 == some p.2) → X.env.cells.lookup x = some c := fun h => eq_of_beq (List.mem_filter.mp h).2
  have sup : ∀ {x c}, X.env.cells.lookup x = some c → (x, c) ∈ (X.env.cells.filter fun p => X.env.cells.lookup p.1 == some p.2) := fun h => List.mem_filter.mpr ⟨PySem.mem_of_lookup h, by rw [h]; exact beq_self_eq_true _⟩
  refine ⟨(X.env.cells.filter fun p => X.env.cells.lookup p.1 == some p.2).filterMap fun p => (s.heap.get? p.2).map fun o => (p.2, o), ⟨fun x c hx hl => ?_, I.ok.inj, I.ok.has, I.len⟩, fun c o hc => ?_, fun b hb => ?_, fun b o hb => ?_⟩
  · obtain ⟨v, o, ho, hd⟩ := I.cell x c hl
    refine ⟨o, v, have_ _ x c o (sup hl) ho, hd, fun i v' a1 a2 => ?_⟩
    obtain ⟨m, hn, hl'⟩ := I.loc
    obtain ⟨u, r, lk⟩ := hl' i x v' a1 a2 (by
      rcases hx with hx | hx
      · rw [hk] at hx; exact .inr (.inl hx)
      · rw [hk] at hx; exact .inr (.inr hx))
    rcases lk with ⟨k1, _⟩ | ⟨_, c2, e2, o2, ho2, hd2⟩
    · rcases hx with hx | hx <;> rw [hx] at k1 <;> cases k1
    · rw [hl] at e2
      cases e2
      rw [ho] at ho2
      cases ho2
      rw [hd] at hd2
      injection hd2 with hv
      exact ⟨u, hv, r⟩
  · obtain ⟨h1, x, h2⟩ := key _ c o hc
    exact ⟨I.freeC x c (sub h2), h1⟩
  · cases hc : ((X.env.cells.filter fun p => X.env.cells.lookup p.1 == some p.2).filterMap fun p => (s.heap.get? p.2).map fun o => (p.2, o)).lookup b with
    | none => rfl
    | some o =>
      obtain ⟨h1, x, h2⟩ := key _ b o hc
      exact absurd hb (hO x b (sub h2)).1
  · cases hc : ((X.env.cells.filter fun p => X.env.cells.lookup p.1 == some p.2).filterMap fun p => (s.heap.get? p.2).map fun o => (p.2, o)).lookup b with
    | none => rfl
    | some o' =>
      obtain ⟨h1, x, h2⟩ := key _ b o' hc
      exact absurd hb ((hO x b (sub h2)).2 o)
/-- f(..), the maker's cells known within; nothing is raised out of it -/
def tCallC (X : Cx) (sp : Sp) (t : TA) : TE := fun σ H Q => t σ H fun vs H1 => ∀ cs : Cl, CelOk X σ cs → (∀ c o, cs.lookup c = some o → H1 c = none) → sp vs (lay H1 cs) (fun v H' => LaidIn H' cs ∧ Q v (bar H' cs)) E0
theorem Df.peCg {x : Str} {ps : List Str} {k : Nat} {sp : Sp} {e : Expr} {es : List Expr} {t : TA} {p pos : Pos} (d : Df X.prog X.w X.K X.mg X.base x ps k sp) (hr : Room k X.A) (hk : ∀ x, X.env.kindOf x = X.env.scope.names.lookup x) (hO : ∀ {pins σ H s}, Inv X pins σ H s → CelOut X X.env.cells) (ha : PA X (e :: es) t) (hg : Gl X x := by rfl)
    (hdb : (x == ("__debug__" : Str)) = false := by decide) (he : starEach (e :: es) X.env = (false, eval e X.env) :: starEach es X.env := by rfl) (hpl : (backTo pos (starEach es X.env)).any (·.1) = false := by rfl) : PE X (.Call (.Name x p) (e :: es) [] pos) (tCallC X sp t) := by
  obtain ⟨f, fd, F, hm, hkp, hb⟩ := d.ex
  refine ⟨fun pins s σ H Q I h => ?_⟩
  refine wpAny_Call_Name_kw (ld_glob I hg hm (PySem.W.callWith_K (h₀ := X.base) I.ok.mod.kin hkp (thn (ha.run pos pins s σ H _ I h) fun us s1 hh => ?_) he hpl) hdb)
  obtain ⟨vs, H1, I1, r, q⟩ := hh
  refine ⟨I1.kIn, ?_⟩
  obtain ⟨cs, C, l, nf, nb⟩ := cels I1 hk (hO I1)
  have hq := q cs C fun c o z => (l c o z).1
  have hl : us.length = ps.length := by rw [← r.length]; exact F.len _ _ _ _ hq
  refine wpAny_call (codeAny_mono (F.run X.A X.stack s1 (lay H1 cs) ⟨us, []⟩ us vs _ E0 hr (env0_lay I1.env0 l nf nb) (by have := hb s1 us I1.kIn (by rw [List.append_nil]; exact hl); rw [List.append_nil] at this; exact this) r hq) fun r s' hq => ?_)
  cases r with
  | error e => exact False.elim hq
  | ok fl =>
    cases fl with
    | ret u => exact I1.after (ce_bar l hq)
    | next => exact False.elim hq
    | brk => exact False.elim hq
    | cont => exact False.elim hq
end
end HW

set_option Elab.async false
set_option linter.all false
set_option maxRecDepth 100000
set_option maxHeartbeats 1000000
namespace HW
open PySem PySem.Spec PyProof.Rows L2 Evl SX
/-! ### defs that may raise -/
section
variable {K : PySem.W.Frag} {mg : Str → Option Value} {σ : L2.St} {H H' : Hp} {ta tb te tx : TE} {t u : TT} {d e : D} {ds : List D} {D' : Ends} {tz tw tu : TS} {r : R2} {g : TG}
/-- it raises -/
def ExR (te : TE) (σ : L2.St) (H : Hp) : Prop := ∀ H1, Ex H H1 → ∀ Q : VK, te σ H1 Q
end
/-! ### the classes of errors -/
/-! ### functions known by their object, that raise -/
theorem ex_bar {H H1 : Hp} {cs : Cl} (hn : FreeOf H cs) (e : Ex (lay H cs) H1) : Ex H (bar H1 cs) := fun b o h => by
  have no := out_of hn h
  rw [bar_out no]
  exact e b o (by rw [lay_out no]; exact h)
theorem exO_lay {H : Hp} {cs : Cl} (hn : FreeOf H cs) : ExO H (lay H cs) := fun b φ h => by
  rw [lay_out (out_of hn h)]
  exact h
end HW
namespace HW
open PySem PySem.Spec PyProof.Rows L2 Evl SX
/-- a def whose code object is known -/
structure FunC (K : PySem.W.Frag) (x qual : Str) (st : Stmt) (f : Addr) (fd : FuncData) (c : Addr) : Prop where
  ex : ∃ (oc : Value) (od : Option Addr) (kV doc pm : Value) (an : Option Addr) (ct : Value) (osl : Array (Option Value)),
    fd = PySem.W.fnOf x qual (defArgs st) (defBody st) (defScope st) .none kV doc pm an (.ref c) ct ∧ K.lookup f = some ⟨oc, od, .func fd, osl⟩ ∧ PySem.W.codeIn K (.ref c) qual = true
section
variable {K : PySem.W.Frag} {σ : L2.St} {H : Hp} {ta te : TE} {t : TT}
end
end HW

set_option Elab.async false
set_option linter.all false
set_option maxRecDepth 100000
set_option maxHeartbeats 1000000
namespace HW
open PySem PySem.Spec PyProof.Rows L2 Evl SX
/-! ### list.count, flat items -/
def rCountL (K : PySem.W.Frag) : V → List V → Hp → VK → Prop := fun x xs H Q => ∃ (a : Addr) (ys : List V) (y : V), x = V.ref a ∧ xs = [y] ∧ SqL K H a ys ∧ flatV y = true ∧ ys.all flatV = true ∧ Q (.int ((ys.countP fun z => eqV z y : Nat) : Int)) H
theorem mt_countL {X : Cx} : MtR X "list.count" (rCountL X.K) := by
  intro pins s σ H x xs v us Q I rx rxs h
  obtain ⟨a, ys, y, rfl, rfl, hs, fy, fys, q⟩ := h
  cases rx
  cases rxs with
  | cons ry rt =>
    rename_i uy ut
    cases rt
    obtain ⟨its, rv, ⟨⟨cls, dd, data, sl⟩, n, ho, hc, hdn, hd⟩, hlen⟩ := I.list hs
    simp only at hc hd
    subst hc hd
    have hcnt : ∀ {ys : List V} {its : List Value}, Vals ys its → ys.all flatV = true → its.countP (eqU y) = ys.countP fun z => eqV z y := by
      intro ys its r
      induction r with
      | nil => intro _; rfl
      | cons r1 r2 ih =>
        intro f
        rw [List.all_cons, Bool.and_eq_true] at f
        rw [List.countP_cons, List.countP_cons, ih f.2, eqU_of r1 f.1]
    refine call_meets PySem.F.slot_list_count ⟨_, ho, rfl⟩ PySem.F.entry_list_count (PySem.F.args_list_count_2 _ _) (SeqAt.list_countAt a its.toArray n dd sl uy (eqU y)) ⟨ho, fun u' hu' => mem_eqAt ry fy rv fys u' (by simpa using hu'), ?_⟩
    refine ⟨.int ((ys.countP fun z => eqV z y : Nat) : Int), H, I.tok _, ⟨s.toks, by rw [← hcnt rv fys]⟩, q⟩
/-! ### isinstance of the caught one -/
def rIsX (K : PySem.W.Frag) (cls : Value) (d : Option Addr) (a : Addr) : List V → Hp → VK → Prop := fun xs H Q => ∃ (D : Addr) (c : V) (cv : Value) (b : Bool), cls = .ref D ∧ ExcC K D ∧ (d = none ∨ ∃ dd fs, d = some dd ∧ H dd = some (.xd fs)) ∧ xs = [.ref a, c] ∧ (∀ u, RelV c u → u = cv) ∧ PySem.W.kitOne K (.ref D) cv = some b ∧ Q (.bl b) H
theorem call_isX {X : Cx} {a : Addr} {cls : Value} {d : Option Addr} {oe : Obj} {pn : List (Addr × Obj)} (hz : Zc cls d oe) (hf : ∃ vs, oe.data = .fields vs) : CallR (X.suite a ((a, oe) :: pn)) (.builtin "isinstance") (rIsX X.K cls d a) := by
  intro pins s σ H xs us Q I r h
  obtain ⟨D, c, cv, b, hcls, C, hd, rfl, hcv, e, q⟩ := h
  cases r with
  | cons rx rr =>
    cases rr with
    | cons rt rr =>
      cases rr
      cases rx
      have ec := hcv _ rt
      subst ec
      obtain ⟨hget, _⟩ := I.pin (a, oe) (List.mem_append.mpr (.inl List.mem_cons_self))
      obtain ⟨vs, hv⟩ := hf
      have hJ : ∃ od, PySem.W.InstAt s.heap a oe D od := by
        rcases hd with hd | ⟨dd, fs, hd, hH⟩
        · refine ⟨none, hget, by rw [hz.1, hcls], by unfold PySem.W.notCls; rw [hv] <;> rfl, ?_⟩
          rw [hz.2, hd]
          trivial
        · obtain ⟨mA, ⟨od, _, _, ho, _⟩, _⟩ := I.hok dd _ hH
          refine ⟨some od, hget, by rw [hz.1, hcls], by unfold PySem.W.notCls; rw [hv] <;> rfl, ?_⟩
          rw [hz.2, hd]
          exact ho
      obtain ⟨od, J⟩ := hJ
      obtain ⟨cd, hc, _⟩ := PySem.W.any_some C.hd
      exact PySem.W.kia_one (PySem.W.kitx_exc (by rw [hc]; rfl) C.hg C.hk C.hs C.ha C.hn C.ht C.hm) I.kIn J e (fun z => nomatch z) fun tk => ⟨.bl b, H, I.kept (t' := tk) fun _ _ z => z, rfl, q⟩
def excCB (K : PySem.W.Frag) (D : Addr) : Bool := decide (PySem.W.findIn K (.ref D) "__getattribute__" = some (some (.builtin "BaseException.__getattribute__"))) && decide (PySem.W.findIn K (.ref D) "__getattr__" = some none) && decide (PySem.W.subIn K (.ref D) (.type "BaseException") = some true) && PySem.W.hasDictIn K D &&
  decide (PySem.W.findIn K (.ref D) "__class__" = some (some (.builtin "object.__class__"))) && decide (PySem.W.specialIn K (.builtin "object.__class__") "__get__" = some (some (.builtin "getset_descriptor.__get__"))) && decide (PySem.W.takesIn K (.builtin "object.__class__") = some true) && decide (PySem.W.mroIn K D (.type "object") = some true)
theorem excC_by {K : PySem.W.Frag} {D : Addr} (h : excCB K D = true) : ExcC K D := by
  unfold excCB at h
  simp only [Bool.and_eq_true, decide_eq_true_eq] at h
  obtain ⟨⟨⟨⟨⟨⟨⟨h1, h2⟩, h3⟩, h4⟩, h5⟩, h6⟩, h7⟩, h8⟩ := h
  exact ⟨h1, h2, h3, h4, h5, h6, h7, h8⟩
/-! ### the words of the refusals -/
def wNames : List String := ["BadSheet", "BadPlace", "BadEdit", "BadFile", "Opened", "NoFile", "TooMany", "BadAsk", "NoAsk", "Old", "Fallen", "NotFallen", "BadLetter", "BadText"]
/-- the classes stand as they should: no one of them under another, all under WireError -/
def wkB (K : PySem.W.Frag) (Cs : List Addr) (CW : Addr) : Bool := decide (Cs.length = 14) && (List.range 14).all fun j => match Cs[j]? with
  | none => false
  | some Cj => excCB K Cj && decide (PySem.W.exmOne K (.ref Cj) (.ref CW) = some true) && decide (PySem.W.kitOne K (.ref Cj) (.type "ValueError") = some true) && (List.range 14).all fun i => match Cs[i]? with
    | none => false
    | some Ci => decide (PySem.W.kitOne K (.ref Cj) (.ref Ci) = some (decide (i = j)))
structure Wk (K : PySem.W.Frag) (mg : Str → Option Value) (Cs : List Addr) (CW : Addr) : Prop where
  ok : wkB K Cs CW = true
  nm : ∀ (i : Nat) n C, wNames[i]? = some n → Cs[i]? = some C → mg (Str.ofString n) = some (.ref C)
  w : mg "WireError" = some (.ref CW)
theorem Wk.len {K : PySem.W.Frag} {mg : Str → Option Value} {Cs : List Addr} {CW : Addr} (h : Wk K mg Cs CW) : Cs.length = 14 := by
  have := h.ok
  unfold wkB at this
  rw [Bool.and_eq_true] at this
  exact of_decide_eq_true this.1
theorem Wk.at {K : PySem.W.Frag} {mg : Str → Option Value} {Cs : List Addr} {CW Cj : Addr} {j : Nat} (h : Wk K mg Cs CW) (hj : Cs[j]? = some Cj) : ExcC K Cj ∧ PySem.W.exmOne K (.ref Cj) (.ref CW) = some true ∧ PySem.W.kitOne K (.ref Cj) (.type "ValueError") = some true ∧ ∀ i Ci, Cs[i]? = some Ci → PySem.W.kitOne K (.ref Cj) (.ref Ci) = some (decide (i = j)) := by
  have hl := h.len
  have := h.ok
  unfold wkB at this
  rw [Bool.and_eq_true] at this
  have h2 := List.all_eq_true.mp this.2 j (List.mem_range.mpr (by rw [← hl]; exact (List.getElem?_eq_some_iff.mp hj).1))
  rw [hj] at h2
  simp only [Bool.and_eq_true, decide_eq_true_eq] at h2
  obtain ⟨⟨⟨a1, a2⟩, a3⟩, a4⟩ := h2
  refine ⟨excC_by a1, a2, a3, fun i Ci hi => ?_⟩
  have h3 := List.all_eq_true.mp a4 i (List.mem_range.mpr (by rw [← hl]; exact (List.getElem?_eq_some_iff.mp hi).1))
  rw [hi] at h3
  exact of_decide_eq_true h3
end HW

set_option Elab.async false
set_option linter.all false
set_option maxRecDepth 100000
set_option maxHeartbeats 1000000
namespace HW
open PySem PySem.Spec PyProof.Rows L2 Evl SX
/-! ### the end of a law whose def makes lambdas -/
end HW

set_option Elab.async false
set_option linter.all false
set_option maxRecDepth 100000
set_option maxHeartbeats 2000000
namespace HW
open PySem PySem.Spec PyProof.Rows L2 Evl SX
/-! ### an error whose __init__ says super().__init__(f"..") and self.x = x -/
structure IniS (x : Str) (sc : Scope) : Prop where
  kind : sc.kind = .function
  co : sc.isCoroutine = false
  gen : sc.isGenerator = false
  self : sc.names.lookup ("self" : Str) = some .local
  x : sc.names.lookup x = some .local
  nocell : ∀ y ∈ sc.names, y.2 ≠ .cell
  free : ∀ y ∈ sc.names, y.2 = .free → y.1 = ("__class__" : Str)
  cls : sc.names.lookup ("__class__" : Str) = some .free
  sup : sc.names.lookup ("super" : Str) = some .globalImplicit
def iniB (x : Str) (sc : Scope) : Bool := decide (sc.kind = .function) && !sc.isCoroutine && !sc.isGenerator && decide (sc.names.lookup ("self" : Str) = some .local) && decide (sc.names.lookup x = some .local) && (sc.names.all fun y => !decide (y.2 = .cell) && (!decide (y.2 = .free) || decide (y.1 = ("__class__" : Str)))) && decide (sc.names.lookup ("__class__" : Str) = some .free) && decide (sc.names.lookup ("super" : Str) = some .globalImplicit)
theorem ini_by {x : Str} {sc : Scope} (h : iniB x sc = true) : IniS x sc := by
  unfold iniB at h
  simp only [Bool.and_eq_true, Bool.or_eq_true, Bool.not_eq_true', decide_eq_true_eq, decide_eq_false_iff_not, List.all_eq_true] at h
  obtain ⟨⟨⟨⟨⟨⟨⟨h1, h2⟩, h3⟩, h4⟩, h5⟩, h6⟩, h7⟩, h8⟩ := h
  exact ⟨h1, h2, h3, h4, h5, fun y hy => (h6 y hy).1, fun y hy e => (h6 y hy).2.resolve_left fun z => z e, h7, h8⟩
def iniCx (CX : CXT) (P : Program) (w : World) (K : PySem.W.Frag) (mg : Str → Option Value) (base : Heap) (N : List Str) (qual : Str) (scope : Scope) (f cda cc : Addr) (A : Around) (outer : List Env) (s : Shared) (H : Hp) (E : XK) : Cx where
  prog := P
  w := w
  K := K
  mg := mg
  base := base
  A := A.deeper (PySem.W.ksEnv qual scope s.heap.objs.size f (.ref cda) cc)
  N := N
  s_0 := s
  H_0 := H
  env := PySem.W.ksEnv qual scope s.heap.objs.size f (.ref cda) cc
  outer := outer
  stack := PySem.W.ksEnv qual scope s.heap.objs.size f (.ref cda) cc :: outer
  ex := []
  calm := true
  fn := fun _ => false
  pn := []
  xe := fun e s' => wpAny (model P w) (A.deeper (PySem.W.ksEnv qual scope s.heap.objs.size f (.ref cda) cc)) (leaving (PySem.W.ksEnv qual scope s.heap.objs.size f (.ref cda) cc) e) (fun _ s'' => CX outer H s E e s'') (fun e' s'' => CX outer H s E e' s'') s'
theorem inv_ini {CX : CXT} {P : Program} {w : World} {K : PySem.W.Frag} {mg : Str → Option Value} {base : Heap} {x qual : Str} {scope : Scope} {f cda cc D : Addr} {A : Around} {outer : List Env} {s : Shared} {H : Hp} {E : XK} {v0 v1 : V} {u0 u1 : Value} {h₁ : Heap} {tk : Nat} {oc : Obj}
    (S : IniS x scope) (hx : x ≠ ("self" : Str)) (hd : A.handled = none) (e0 : Env0 P w K mg base A outer s H) (r0 : RelV v0 u0) (r1 : RelV v1 u1) (hcc : base.get? cc = some oc) (hoc : oc.data = .cell (some (.ref D)))
    (hns : h₁.Ns s.heap.objs.size fun y => ([("self" : Str), x].zip [u0, u1]).reverse.lookup y) (kp : ∀ b o, s.heap.get? b = some o → h₁.get? b = some o) :
    Inv (iniCx CX P w K mg base [("self" : Str), x] qual scope f cda cc A outer s H E) [] [some v0, some v1] H { s with heap := h₁, toks := tk } := by
  have noA : ∀ b : Addr, b ∉ (iniCx CX P w K mg base [("self" : Str), x] qual scope f cda cc A outer s H E).ex := fun b z => absurd (show b ∈ ([] : List Addr) from z) (by simp)
  have lk1 : ∀ {y c}, ([(("__class__" : Str), cc)] : List (Str × Addr)).lookup y = some c → y = ("__class__" : Str) ∧ c = cc := fun {y c} e => by
    have := PySem.mem_of_lookup e
    rw [List.mem_singleton] at this
    cases this
    exact ⟨rfl, rfl⟩
  have hcH := e0.bs cc oc hcc
  refine ⟨⟨e0.mod, S.kind, rfl, rfl, Nat.le_refl _, fun y z c e1 e2 => ?_, fun y hy => ?_, fun y c z _ => ?_, fun _ => hd, Around.frames_deeper e0.frames, .inr ⟨rfl, rfl⟩, fun b z => absurd z (noA b), e0.bs, e0.bsz, fun b _ _ => noA b,
      fun b z => absurd z (noA b), e0.funs, e0.frf⟩,
    rfl, e0.bare, Un.kept kp, ⟨_, hns, fun i y v e1 e2 e3 => ?_⟩, fun y c e => ?_, e0.hok.fresh (Nat.le_refl _), fun y c e => ?_, fun q hq => absurd (show q ∈ ([] : List (Addr × Obj)) ++ [] from hq) (by simp), e0.hok.kept kp, rfl⟩
  · rw [(lk1 e1).1, (lk1 e2).1]
  · have hy : scope.names.lookup y = some .cell ∨ scope.names.lookup y = some .free := hy
    rcases hy with hy | hy
    · exact absurd rfl (S.nocell _ (PySem.mem_of_lookup hy))
    · have := S.free _ (PySem.mem_of_lookup hy) rfl
      have this : y = ("__class__" : Str) := this
      subst this
      exact ⟨cc, List.lookup_cons_self⟩
  · have z : false = true := z
    cases z
  · match i, e1, e2 with
    | 0, e1, e2 =>
      cases e1
      cases e2
      refine ⟨u0, r0, .inl ⟨S.self, ?_⟩⟩
      show ([(x, u1), (("self" : Str), u0)] : List (Str × Value)).lookup ("self" : Str) = some u0
      rw [List.lookup_cons, beq_false_of_ne (Ne.symm hx)]
      exact List.lookup_cons_self
    | 1, e1, e2 =>
      cases e1
      cases e2
      refine ⟨u1, r1, .inl ⟨S.x, ?_⟩⟩
      exact List.lookup_cons_self
    | i + 2, e1, e2 => simp at e2
  · rw [(lk1 e).2]
    exact ⟨_, oc, kp _ _ hcH.1, hoc⟩
  · rw [(lk1 e).2]
    exact hcH.2
/-- a pin added -/
theorem Inv.pinned {X : Cx} {σ : L2.St} {H : Hp} {s : Shared} {u : Addr} {o : Obj} (I : Inv X [] σ H s) (hu : s.heap.get? u = some o) (hH : H u = none) (hl : u ≠ X.env.locals) (hf : u ∉ X.fs) (hc : ∀ v, o.data ≠ .cell v) : Inv X [(u, o)] σ H s :=
  ⟨I.ok, I.os, I.bare, I.base, I.loc, I.cell, I.free, I.freeC, fun p hp => by
    rcases List.mem_append.mp hp with h | h
    · exact I.pin p (List.mem_append_left _ h)
    · rw [List.mem_singleton.mp h]
      exact ⟨hu, hH, hl, hf, hc⟩, I.hok, I.len⟩
theorem Inv.unpin {X : Cx} {pins : List (Addr × Obj)} {σ : L2.St} {H : Hp} {s : Shared} (I : Inv X pins σ H s) : Inv X [] σ H s :=
  ⟨I.ok, I.os, I.bare, I.base, I.loc, I.cell, I.free, I.freeC, fun p hp => I.pin p (List.mem_append_left _ (by simpa using hp)), I.hok, I.len⟩
def sp_init (C : Addr) (x : Str) : Sp := fun vs H Q _ => ∃ (a : Addr) (n : Int), vs = [.ref a, .int n] ∧ n.natAbs.log2 < 1920 ∧ (Str.ofString (toString n)).length ≤ 1000 ∧ H a = some (exo a C none) ∧ ∀ dx, H dx = none → dx ≠ a → Q .non (upd (upd H dx (exd dx [(x, .int n)])) a (exo a C (some dx)))
/-- what must stand for such a class -/
structure IniC (P : Program) (K : PySem.W.Frag) (mg : Str → Option Value) (x qual : Str) (C D fI cda cc : Addr) (params : Arguments) (scope : Scope) : Prop where
  S : IniS x scope
  hx : x ≠ ("self" : Str)
  par : (params.posonlyargs ++ params.args).head?.map (·.arg) = some ("self" : Str)
  code : PySem.W.codeIn K (.ref cda) qual = true
  file : ∃ oc od vs sl file tf, K.lookup cda = some ⟨oc, od, .fields vs, sl⟩ ∧ vs[2]? = some (.str file tf) ∧ ((P.main.file : Str) == file) = true
  cell : ∃ oc od sl, K.lookup cc = some ⟨oc, od, .cell (some (.ref D)), sl⟩
  cD : ∃ cd, PySem.W.clsIn K D = some cd
  sub : PySem.W.mroIn K C (.ref D) = some true
  sup : mg "super" = none
  top : (P.main.scope.names.lookup ("super" : Str)).isSome = false
  op : PySem.W.nsIn K cStatics "thirdparty.any" = some none
  meth : PySem.W.ks_superIn K C D "__init__" = some (some (.builtin "ValueError.__init__"))
  ve : PySem.W.subIn K (.ref C) (.type "ValueError") = some true
  oex : OexC K C
  no : PySem.W.findIn K (.ref C) x = some none
theorem init_ok {P : Program} {w : World} {K : PySem.W.Frag} {mg : Str → Option Value} {base : Heap} {x qual : Str} {C D fI cda cc : Addr} {params : Arguments} {scope : Scope} {oc kV doc pm ct : Value} {od an : Option Addr} {osl : Array (Option Value)} {l1 l2 : Str} {j1 j2 : Nat} {p0 p1 p2 p3 p4 p5 p6 p7 p8 p9 q1 q2 q3 q4 : Pos}
    (c : IniC P K mg x qual C D fI cda cc params scope) (hl1 : l1.length ≤ 1000) (hl2 : l2.length ≤ 1000) {pl : Sem Bool} (hi : ∀ L, interactive (PySem.W.ksEnv qual scope L fI (.ref cda) cc) = false) (hs1 : ∀ L, swapsWith (.Call (.Attribute (.Call (.Name "super" p0) [] [] p1) "__init__" p2) [.JoinedStr [.Constant (.str l1) j1 q1, .FormattedValue (.Name x q2) (-1) none q3, .Constant (.str l2) j2 q4] p3] [] p4) none p5.line (PySem.W.ksEnv qual scope L fI (.ref cda) cc) = pure false)
    (hev : ∀ L, eval (.Call (.Attribute (.Call (.Name "super" p0) [] [] p1) "__init__" p2) [.JoinedStr [.Constant (.str l1) j1 q1, .FormattedValue (.Name x q2) (-1) none q3, .Constant (.str l2) j2 q4] p3] [] p4) (PySem.W.ksEnv qual scope L fI (.ref cda) cc) = (do
      let ov ← attributeBase (.Call (.Name "super" p0) [] [] p1) "__init__" (PySem.W.ksEnv qual scope L fI (.ref cda) cc) (eval (.Call (.Name "super" p0) [] [] p1) (PySem.W.ksEnv qual scope L fI (.ref cda) cc))
      standAt p2.atName
      let (f, first) ← holding [ov] (getMethod ov "__init__" pl)
      callWith p4 f first (backTo p4 (starEach [.JoinedStr [.Constant (.str l1) j1 q1, .FormattedValue (.Name x q2) (-1) none q3, .Constant (.str l2) j2 q4] p3] (PySem.W.ksEnv qual scope L fI (.ref cda) cc))) []))
    (hs2 : ∀ L, swapsWith (.Name x p8) (some (.Attribute (.Name "self" p6) x p7)) p9.line (PySem.W.ksEnv qual scope L fI (.ref cda) cc) = pure false)
    (hbx : (x == ("__debug__" : Str)) = false) (hbx2 : (x == ("__classdict__" : Str)) = false)
    (lk : K.lookup fI = some ⟨oc, od, .func (PySem.W.ksFn "__init__" qual params [.Expr (.Call (.Attribute (.Call (.Name "super" p0) [] [] p1) "__init__" p2) [.JoinedStr [.Constant (.str l1) j1 q1, .FormattedValue (.Name x q2) (-1) none q3, .Constant (.str l2) j2 q4] p3] [] p4) p5, .Assign [.Attribute (.Name "self" p6) x p7] (.Name x p8) p9] scope .none kV doc pm an (.ref cda) ct cc), osl⟩) :
    FnOk P w K mg base CX0 1 fI (PySem.W.ksFn "__init__" qual params [.Expr (.Call (.Attribute (.Call (.Name "super" p0) [] [] p1) "__init__" p2) [.JoinedStr [.Constant (.str l1) j1 q1, .FormattedValue (.Name x q2) (-1) none q3, .Constant (.str l2) j2 q4] p3] [] p4) p5, .Assign [.Attribute (.Name "self" p6) x p7] (.Name x p8) p9] scope .none kV doc pm an (.ref cda) ct cc) [("self" : Str), x] (sp_init C x) := by
  refine ⟨fun vs H Q E h => by obtain ⟨a, n, rfl, _⟩ := h; rfl, fun A outer s H args us vs Q E hr e0 hb r hsp => ?_⟩
  obtain ⟨a, n, rfl, hlog, hlen, hHa, q⟩ := hsp
  cases r with
  | @cons _ u0 _ _ r0 rr =>
  cases rr with
  | @cons _ u1 _ _ r1 rr =>
  cases rr
  obtain rfl : u0 = Value.ref a := r0
  have KX : K.In s.heap := e0.mod.kin.keeps fun b o e => (e0.bs b o e).1
  have lim : s.heap.NoLimit := e0.mod.nolimit.keeps fun b o e => (e0.bs b o e).1
  obtain ⟨fo, fod, fvs, fsl, file, tf, f1, f2, f3⟩ := c.file
  obtain ⟨co, cod, csl, c1⟩ := c.cell
  obtain ⟨cdD, cD⟩ := c.cD
  refine ks_codeAny_call_defAt (fd := PySem.W.ksFn "__init__" qual params _ scope .none kV doc pm an (.ref cda) ct cc) (binds := [("self" : Str), x].zip [Value.ref a, u1]) hr.depth (KX _ _ lk) rfl lim (PySem.W.codeRec_of KX c.code) rfl hb c.S.nocell ?_ (fun h₁ hns kp => ?_) c.S.co c.S.gen c.S.kind
  · intro y hy
    rcases List.mem_cons.mp hy with rfl | hy
    · exact c.S.self
    · rw [List.mem_singleton.mp hy]; exact c.S.x
  have I := inv_ini (CX := CX0) (qual := qual) (f := fI) (cda := cda) (E := E) (tk := s.toks + ([("self" : Str), x].zip [Value.ref a, u1]).length) c.S c.hx hr.hd e0 (show RelV (.ref a) (Value.ref a) from rfl) r1 (e0.mod.kin _ _ c1) rfl hns kp
  have K1 : K.In h₁ := KX.keeps kp
  obtain ⟨oD, hD1, hD2⟩ : ∃ oD, h₁.get? D = some oD ∧ oD.data = .cls cdD := by
    unfold PySem.W.clsIn at cD
    split at cD
    · rename_i c' d' cd' sl ho
      cases cD
      exact ⟨_, K1 _ _ ho, rfl⟩
    · cases cD
  obtain ⟨t1, hoa⟩ := exo_at I.hok hHa
  have hsr : ([("self" : Str), x].zip [Value.ref a, u1]).reverse.lookup ("self" : Str) = some (Value.ref a) := by
    show ([(x, u1), (("self" : Str), Value.ref a)] : List (Str × Value)).lookup ("self" : Str) = some (Value.ref a)
    rw [List.lookup_cons, beq_false_of_ne (Ne.symm c.hx)]
    exact List.lookup_cons_self
  obtain ⟨ar, har, hara⟩ := Option.map_eq_some_iff.mp c.par
  refine ks_wpAt_execs_cons (ks_wpAt_Expr_any (ks_wpAt_MethodCall (pl := pl) ?_ (hev _)) (hi _) (hs1 _))
  refine ks_wpAt_super_base (env := PySem.W.ksEnv qual scope s.heap.objs.size fI (.ref cda) cc) c.S.sup c.S.cls (by decide) rfl (K1 _ _ lk) rfl har rfl (K1 _ _ f1) rfl f2 f3 c.top ?_
  obtain ⟨mb, hb1, hb2⟩ := e0.mod.blt
  have kb : ∀ b o, base.get? b = some o → h₁.get? b = some o := fun b o e => kp _ _ (e0.bs b o e).1
  refine PySem.W.ks_loadName_global c.S.kind c.S.sup (PySem.Calls.loadGlobal_builtin (env := PySem.W.ksEnv qual scope s.heap.objs.size fI (.ref cda) cc) (e0.mod.glob.keeps kb) c.sup (hb1.keeps kb) ((hb2 _ (by decide +kernel)).trans (by decide +kernel)) ⟨rfl, ?_⟩)
  refine wpAny_loadName_free c.S.kind c.S.cls List.lookup_cons_self ⟨_, K1 _ _ c1, rfl⟩ ?_
  refine wpAny_loadName_local c.S.kind (by rw [hara]; exact c.S.self) hns (by rw [hara]; exact hsr) ?_
  refine ks_wpAny_isType_cls hD1 hD2 ⟨rfl, ?_⟩
  refine ks_wpAny_call_super hD1 hD2 hoa rfl (fun c' e => by cases e) (PySem.W.looks_mroIn K1 c.sub) (fun h2 e2 k2 => ?_)
  have I2 := I.kept (t' := s.toks + ([("self" : Str), x].zip [Value.ref a, u1]).length) k2
  have K2 : K.In h2 := K1.keeps k2
  have hoa2 := k2 _ _ hoa
  cases hcC : PySem.W.clsIn K C with
  | none => have := c.meth; unfold PySem.W.ks_superIn at this; rw [hcC] at this; cases this
  | some cdC =>
  have hmeth := c.meth
  unfold PySem.W.ks_superIn at hmeth
  rw [hcC] at hmeth
  have J : PySem.W.InstAt h2 a _ C none := ⟨hoa2, rfl, rfl, trivial⟩
  refine PySem.W.kxs_getMethod PySem.W.kxs_ValueError e2 (PySem.W.looks_opaque K2 c.op) (l₀ := cdC.mro) (fun A Q E s k q => wpAny_bind ((PySem.W.looks_clsIn K2 hcC) A _ E s k (wpAny_pure q))) rfl K2 hmeth (J.type.andThen (PySem.W.looks_subIn K2 c.ve)) (PySem.W.ks_ne K2 J hcC) (by decide) ?_
  have k3 : ∀ b o, h2.get? b = some o → (h2.push (PySem.W.kxs_mw "ValueError.__init__" a)).get? b = some o := fun b o e => Heap.get?_push_of_some _ e
  have I3 := I2.kept (t' := s.toks + ([("self" : Str), x].zip [Value.ref a, u1]).length + 1) k3
  have hu3 : (h2.push (PySem.W.kxs_mw "ValueError.__init__" a)).get? h2.objs.size = some (PySem.W.kxs_mw "ValueError.__init__" a) := Heap.get?_push_at rfl rfl
  have I3 := Inv.pinned I3 hu3 (I2.hok.fresh (Nat.le_refl _)) (Nat.ne_of_gt I2.lt) (I2.nofs (Nat.le_refl _)) (fun v z => by cases z)
  have PAx : PA (iniCx CX0 P w K mg base [("self" : Str), x] qual scope fI cda cc A outer s H E) [.JoinedStr [.Constant (.str l1) j1 q1, .FormattedValue (.Name x q2) (-1) none q3, .Constant (.str l2) j2 q4] p3] _ := pa_cons (pe_joined (.cons pe_str (.cons (pe_fmt (pe_var (i := 1) rfl (.inl c.S.x) hbx hbx2)) (.cons pe_str .nil)))) pa_nil
  show wpAny _ _ (callWith p4 (Value.ref h2.objs.size) [] (backTo p4 (starEach [.JoinedStr [.Constant (.str l1) j1 q1, .FormattedValue (.Name x q2) (-1) none q3, .Constant (.str l2) j2 q4] p3] (PySem.W.ksEnv qual scope s.heap.objs.size fI (.ref cda) cc))) []) _ _ _
  refine PySem.W.kxs_callWith (i := "ValueError.__init__") (x := a) rfl (PySem.Calls.evalArgs_plain (thn (PAx.run p4 [(h2.objs.size, PySem.W.kxs_mw "ValueError.__init__" a)] _ [some (.ref a), some (.int n)] H (fun vs H4 => (∃ z, vs = [V.str z]) ∧ H4 = H) I3 ?_) fun us s4 hh => ?_))
  · refine ⟨l1, rfl, ?_, .int n, rfl, .inr ⟨n, rfl, hlog, _, rfl, ?_, l2, rfl, ?_, ⟨_, rfl⟩, rfl⟩⟩
    · show (Str.empty ++ l1).length ≤ sizeLine
      rw [Str.length_append]
      show 0 + _ ≤ _
      rw [sizeLine_eq]; omega
    · rw [Str.length_append, Str.length_append, sizeLine_eq]
      show 0 + _ + _ ≤ _
      omega
    · rw [Str.length_append, Str.length_append, Str.length_append, sizeLine_eq]
      show 0 + _ + _ + _ ≤ _
      omega
  obtain ⟨vs4, H4, I4, r4, ⟨z, rfl⟩, rfl⟩ := hh
  have hu4 := (I4.pin (h2.objs.size, PySem.W.kxs_mw "ValueError.__init__" a) (List.mem_append_right _ List.mem_cons_self)).1
  refine ⟨hu4, ?_⟩
  have hus : us.length = 1 := by rw [← Paired.length r4]; rfl
  have I4 := Inv.unpin I4
  obtain ⟨t4, hoa4⟩ := exo_at I4.hok hHa
  obtain ⟨nm, qn, N, bs, bm, sn, sub, ab, col, dd, k0, k1', k2', k3', k5, hC, hbm⟩ := c.oex.cls
  obtain ⟨hp, g, d, tk, os⟩ := s4
  refine wpAny_call (codeAny_of_tree ?_)
  show wpAny _ _ (callAny (.ref h2.objs.size) ⟨us, []⟩) _ _ _
  simp only [callAny]
  refine wpAny_bind (wpAny_load hu4 ?_)
  simp only [PySem.W.kxs_mw, show (Value.type "method-wrapper" == Value.type "method" || Value.type "method-wrapper" == Value.type "builtin_function_or_method" || Value.type "method-wrapper" == Value.type "method-wrapper") = true by decide, if_true]
  refine PySem.W.KFB.if_so (by decide) ?_
  refine wpAny_bind (PySem.W.check_bound_init PySem.F.excBase_ValueError.toExcCallFacts (I4.kIn _ _ hC) hoa4 rfl ?_)
  refine wpAny_bind (wpAny_pure (wpAny_pure ?_))
  refine ⟨plainId_quiet PySem.F.excBase_ValueError.init.plain _, codeAny_builtin PySem.F.excBase_ValueError.initEntry ?_⟩
  refine PySem.W.exc_init_tree (cls := .ref C) (t0 := t4) (dv := none) (c2 := .none) (c3 := .none) (b4 := .bool false) hoa4 (by rw [hus, sizeLine_eq]; omega) fun h5 k5' e5 e5' => ?_
  have I5 := I4.write (t' := tk) (x := a) (e := a) (o := exo a C none) (by rw [hHa]; exact True.intro) (.inl rfl) k5' ⟨_, e5⟩ (exo_ok e5)
  have eu : upd H4 a (exo a C none) = H4 := by
    funext b
    by_cases hb : b = a
    · rw [hb, upd_same, hHa]
    · rw [upd_ne hb]
  rw [eu] at I5
  have PSx : PSs (iniCx CX0 P w K mg base [("self" : Str), x] qual scope fI cda cc A outer s H4 E) [.Assign [.Attribute (.Name "self" p6) x p7] (.Name x p8) p9] _ := pss_one (ps_ost (pe_var (i := 0) rfl (.inl c.S.self) (by decide) (by decide)) (pe_var (i := 1) rfl (.inl c.S.x) hbx hbx2) (hs2 _))
  refine wpAt_of_wpAny (wpAny_mono (PSx.run [] _ [some (.ref a), some (.int n)] H4 { nx := fun _ H' => Q .non H', rt := Q } I5 ?_) (fun fl s' hs => ?_) fun e s' hs => hs)
  · exact ⟨.int n, rfl, .ref a, rfl, a, C, rfl, c.oex, c.no, .inl ⟨hHa, q⟩⟩
  have fin : ∀ {σ' : L2.St} {H' : Hp} {v : V} {u : Value}, Inv (iniCx CX0 P w K mg base [("self" : Str), x] qual scope fI cda cc A outer s H4 E) [] σ' H' s' → RelV v u → Q v H' → CE outer P w H4 s Q u s' :=
    fun {σ' H' v u} J rv q => ⟨v, H', J.os, J.bare, J.base, J.hok, rv, q⟩
  cases fl with
  | ret u =>
    obtain ⟨v, σ', H', J, rv, q⟩ := hs
    exact fin J rv q
  | next =>
    obtain ⟨σ', H', J, q⟩ := hs
    exact fin (v := V.non) (u := Value.none) J rfl q
  | brk =>
    obtain ⟨_, _, _, q⟩ := hs
    exact False.elim q
  | cont =>
    obtain ⟨_, _, _, q⟩ := hs
    exact False.elim q
/-- such a class, as it stands -/
structure Xi (P : Program) (w : World) (K : PySem.W.Frag) (mg : Str → Option Value) (base : Heap) (nm x : Str) (C f : Addr) (fd : FuncData) : Prop where
  oex : OexC K C
  ini : PySem.W.findIn K (.ref C) "__init__" = some (some (.ref f))
  tyI : PySem.W.typeIn K (.ref f) = some (.type "function")
  F : FnOk P w K mg base CX0 1 f fd [("self" : Str), x] (sp_init C x)
  bd : Binds K fd [("self" : Str), x] []
  g : mg nm = some (.ref C)
def iniOf : Stmt → Stmt
  | .ClassDef (body := b) .. => b.getD 0 (.Pass ⟨0, 0, 0, 0⟩)
  | st => st
/-! ### raising it -/
end HW

set_option Elab.async false
set_option linter.all false
set_option maxRecDepth 100000
namespace MW
open PySem PySem.Spec PyProof.Rows L2 Evl SX HW

/-! ### the small world: values, objects, stores -/
inductive Ky where
  | i (n : Int) | s (l : List Nat)
  deriving DecidableEq
def Ky.r : Ky → Key
  | .i n => .inl n
  | .s l => .inr (S l)
inductive Cl where
  | WireError | BadSheet | BadPlace | BadEdit | BadFile | Opened | NoFile | TooMany | BadAsk | NoAsk | Old | Fallen | NotFallen | BadLetter | BadText
  | OpenFile | KnownAsk | Court | EditorAsk | Editor | Helper | Wire
  deriving DecidableEq
inductive Fd where
  | number | sheet | past | shut | want | home | since | off | birth | open_files | known | file | state | answer | down | closed_at | asks | copied_files | asked | editor | helper | outward | inward | log | row
  deriving DecidableEq
def Fd.s : Fd → Str
  | number => "number" | sheet => "sheet" | past => "past" | shut => "shut" | want => "want" | home => "home" | since => "since" | off => "off" | birth => "birth" | open_files => "open_files" | known => "known" | file => "file" | state => "state" | answer => "answer" | down => "down" | closed_at => "closed_at" | asks => "asks" | copied_files => "copied_files" | asked => "asked" | editor => "editor" | helper => "helper" | outward => "outward" | inward => "inward" | log => "log" | row => "row"
def Fd.all : List Fd := [number, sheet, past, shut, want, home, since, off, birth, open_files, known, file, state, answer, down, closed_at, asks, copied_files, asked, editor, helper, outward, inward, log, row]
inductive Val where
  | non | bl (b : Bool) | int (i : Int) | str (l : List Nat) | tup (vs : List Val) | lst (vs : List Val)
  /-- the script -/
  | scr (ns : List Int)
  /-- a dict from pairs of numbers to numbers, which is not changed any more -/
  | pmp (kvs : List ((Int × Int) × Int))
  /-- an object that may be changed -/
  | ref (a : Nat)
inductive Ob where
  | lst (vs : List Val) | dic (kvs : List (Ky × Val)) | ins (c : Cl) (fs : List (Fd × Val))
  /-- a dict that is walked: it stays as it is -/
  | fdic (kvs : List (Ky × Val)) (x : HO)
structure Sto where
  n : Nat
  o : Nat → Option Ob
def Sto.put (μ : Sto) (a : Nat) (o : Ob) : Sto := ⟨μ.n, fun b => if b = a then some o else μ.o b⟩
def Sto.new (μ : Sto) (o : Ob) : Sto := ⟨μ.n + 1, fun b => if b = μ.n then some o else μ.o b⟩
/-- an error: its class, its number -/
structure Exc where
  c : Cl
  f : Option (Fd × Int) := none
/-- how a law's text stands -/
structure Cf where
  K : PySem.W.Frag
  cA : Cl → Addr
  T : List (Addr × Str)
structure Om where
  m : Nat → Addr
  μ : Sto
def Om.live (ω : Om) (a : Nat) : Prop := ω.μ.o a ≠ none
def Om.off (ω : Om) (p : Addr) : Prop := ∀ a, ω.live a → ω.m a ≠ p
abbrev Av := Addr → Prop
def strLim : Nat := 1000000
/-- a text of the small world -/
def SOk (l : List Nat) : Prop := l.length ≤ strLim ∧ l.all (fun c => decide (c < 0x110000)) = true

mutual
def RelV (F : Cf) (A : Av) (ω : Om) (H : Hp) : Val → V → Prop
  | .non, u => u = .non
  | .bl b, u => u = .bl b
  | .int i, u => u = .int i
  | .str l, u => u = .str (S l) ∧ SOk l
  | .tup vs, u => ∃ p ws, u = .ref p ∧ H p = some (.tup ws) ∧ RelVs F A ω H vs ws
  | .lst vs, u => ∃ p ws, u = .ref p ∧ H p = some (.lst ws) ∧ (¬ A p ∧ ω.off p) ∧ RelVs F A ω H vs ws
  | .scr ns, u => ∃ p, u = .ref p ∧ Scr F.K H p (ns.map V.int)
  | .pmp kvs, u => ∃ p, u = .ref p ∧ H p = some (.dT (kvs.map fun kv => ([.inl kv.1.1, .inl kv.1.2], .int kv.2))) ∧ (¬ A p ∧ ω.off p)
  | .ref a, u => a < ω.μ.n ∧ u = .ref (ω.m a)
def RelVs (F : Cf) (A : Av) (ω : Om) (H : Hp) : List Val → List V → Prop
  | [], us => us = []
  | v :: vs, us => ∃ u r, us = u :: r ∧ RelV F A ω H v u ∧ RelVs F A ω H vs r
end
def ObR (F : Cf) (A : Av) (ω : Om) (H : Hp) (p : Addr) : Ob → Prop
  | .lst vs => ∃ ws, H p = some (.lst ws) ∧ RelVs F A ω H vs ws
  | .dic kvs => (kvs.map (·.1)).Nodup ∧ ∃ ws, H p = some (.dK ((kvs.map (·.1.r)).zip ws)) ∧ RelVs F A ω H (kvs.map (·.2)) ws
  | .ins c fs => ∃ dx ws, H p = some (.ins (F.cA c) dx ((fs.map (·.1.s)).zip ws)) ∧ RelVs F A ω H (fs.map (·.2)) ws
  | .fdic kvs x => (kvs.map (·.1)).Nodup ∧ H p = some x ∧ ∃ od ws, x = .frz od (.dK ((kvs.map (·.1.r)).zip ws)) ∧ RelVs F A ω H (kvs.map (·.2)) ws
/-- what stands at a changing object -/
def ObH : HO → Prop
  | .lst _ => True | .dK _ => True | .ins _ _ _ => True | _ => False
/-- the same, or a dict that is walked -/
def ObF : HO → Prop
  | .lst _ => True | .dK _ => True | .ins _ _ _ => True | .frz _ (.dK _) => True | _ => False
theorem ObH.f {x : HO} (h : ObH x) : ObF x := by
  cases x <;> first | exact h | exact h.elim
structure Rel (F : Cf) (A : Av) (ω : Om) (H : Hp) : Prop where
  ob : ∀ a o, ω.μ.o a = some o → a < ω.μ.n ∧ ¬ A (ω.m a) ∧ ObR F A ω H (ω.m a) o
  inj : ∀ a b, ω.live a → ω.live b → ω.m a = ω.m b → a = b
  tabs : LamX.Tabs F.T H
  av : ∀ p, A p → ∃ x, H p = some x ∧ (ObH x ∨ ∃ l, x = .dT l)
/-- what isn't of a changing kind is no changing object -/
def OffOf (ω : Om) (H : Hp) : Prop := ∀ p x, H p = some x → ¬ ObF x → ω.off p
/-- from one world to a later one -/
structure Stp (ω : Om) (H : Hp) (ω' : Om) (H' : Hp) : Prop where
  n : ω.μ.n ≤ ω'.μ.n
  m : ∀ a, a < ω.μ.n → ω'.m a = ω.m a
  h : ∀ p o, H p = some o → (∀ ps, o ≠ .tbl ps) → ω.off p → H' p = some o ∧ ω'.off p
  t : ∀ p, H' p = none → H p = none
/-- the same; what is among O may have changed -/
structure StpX (O : Av) (ω : Om) (H : Hp) (ω' : Om) (H' : Hp) : Prop where
  n : ω.μ.n ≤ ω'.μ.n
  m : ∀ a, a < ω.μ.n → ω'.m a = ω.m a
  h : ∀ p o, H p = some o → (∀ ps, o ≠ .tbl ps) → ω.off p → ¬ O p → H' p = some o ∧ ω'.off p
  t : ∀ p, H' p = none → H p = none
section
variable {F : Cf} {A A' : Av} {ω ω' ω'' : Om} {H H' H'' : Hp} {p : Addr} {v : Val} {vs : List Val} {u : V} {us ws : List V}
theorem Stp.refl : Stp ω H ω H := ⟨Nat.le_refl _, fun _ _ => rfl, fun _ _ h _ o => ⟨h, o⟩, fun _ h => h⟩
theorem upd_none {H : Hp} {p q : Addr} {o : HO} (h : upd H p o q = none) : H q = none := by
  by_cases e : q = p
  · subst e; rw [upd_same] at h; cases h
  · rwa [upd_ne e] at h
theorem StpX.refl {O : Av} : StpX O ω H ω H := ⟨Nat.le_refl _, fun _ _ => rfl, fun _ _ h _ o _ => ⟨h, o⟩, fun _ h => h⟩
theorem StpX.thn {O : Av} (a : StpX O ω H ω' H') (b : Stp ω' H' ω'' H'') : StpX O ω H ω'' H'' :=
  ⟨Nat.le_trans a.n b.n, fun c h => (b.m c (Nat.lt_of_lt_of_le h a.n)).trans (a.m c h), fun p o h t f no => let ⟨x, y⟩ := a.h p o h t f no; b.h p o x t y, fun p h => a.t p (b.t p h)⟩
theorem StpX.trans {O O' : Av} (a : StpX O ω H ω' H') (b : StpX O' ω' H' ω'' H'') (ho : ∀ p o, H p = some o → ¬ O p → ¬ O' p) : StpX O ω H ω'' H'' :=
  ⟨Nat.le_trans a.n b.n, fun c h => (b.m c (Nat.lt_of_lt_of_le h a.n)).trans (a.m c h), fun p o h t f no => let ⟨x, y⟩ := a.h p o h t f no; b.h p o x t y (ho p o h no), fun p h => a.t p (b.t p h)⟩
theorem Stp.trans (a : Stp ω H ω' H') (b : Stp ω' H' ω'' H'') : Stp ω H ω'' H'' :=
  ⟨Nat.le_trans a.n b.n, fun c h => (b.m c (Nat.lt_of_lt_of_le h a.n)).trans (a.m c h), fun p o h t f => let ⟨x, y⟩ := a.h p o h t f; b.h p o x t y, fun p h => a.t p (b.t p h)⟩
theorem ObR.obH {o : Ob} (h : ObR F A ω H p o) : ∃ x, H p = some x ∧ ObF x := by
  cases o with
  | lst vs => obtain ⟨ws, h1, _⟩ := h; exact ⟨_, h1, trivial⟩
  | dic kvs => obtain ⟨_, ws, h1, _⟩ := h; exact ⟨_, h1, trivial⟩
  | ins c fs => obtain ⟨dx, ws, h1, _⟩ := h; exact ⟨_, h1, trivial⟩
  | fdic kvs x => obtain ⟨_, h1, od, ws, rfl, _⟩ := h; exact ⟨_, h1, trivial⟩
theorem Rel.at_live (r : Rel F A ω H) {a : Nat} (h : ω.live a) : ∃ x, H (ω.m a) = some x ∧ ObF x := by
  cases e : ω.μ.o a with
  | none => exact absurd e h
  | some o => exact (r.ob a o e).2.2.obH
/-- what isn't of a changing kind is no changing object -/
theorem Rel.off_of (r : Rel F A ω H) : OffOf ω H := fun p x h n a l e => by
  obtain ⟨y, h1, h2⟩ := r.at_live l
  rw [e, h] at h1
  cases h1
  exact n h2
theorem Rel.off_none (r : Rel F A ω H) (h : H p = none) : ω.off p := fun a l e => by
  obtain ⟨y, h1, h2⟩ := r.at_live l
  rw [e, h] at h1
  cases h1
theorem Rel.avA (r : Rel F A ω H) (h : A p) : ω.off p := fun a l e => by
  cases q : ω.μ.o a with
  | none => exact absurd q l
  | some o => exact (r.ob a o q).2.1 (e ▸ h)
end
mutual
theorem RelV.step {F : Cf} {A : Av} {ω ω' : Om} {H H' : Hp} (r : OffOf ω H) (s : Stp ω H ω' H') : ∀ {v : Val} {u : V}, RelV F A ω H v u → RelV F A ω' H' v u
  | .non, _, h => by rw [RelV] at h ⊢; exact h
  | .bl _, _, h => by rw [RelV] at h ⊢; exact h
  | .int _, _, h => by rw [RelV] at h ⊢; exact h
  | .str _, _, h => by rw [RelV] at h ⊢; exact h
  | .tup vs, _, h => by
    rw [RelV] at h ⊢
    obtain ⟨p, ws, h1, h2, h3⟩ := h
    exact ⟨p, ws, h1, (s.h p _ h2 (fun _ z => by cases z) (r p _ h2 id)).1, RelVs.step r s h3⟩
  | .lst vs, _, h => by
    rw [RelV] at h ⊢
    obtain ⟨p, ws, h1, h2, h3, h4⟩ := h
    have q := s.h p _ h2 (fun _ z => by cases z) h3.2
    exact ⟨p, ws, h1, q.1, ⟨h3.1, q.2⟩, RelVs.step r s h4⟩
  | .scr ns, _, h => by
    rw [RelV] at h ⊢
    obtain ⟨p, h1, h2⟩ := h
    refine ⟨p, h1, ?_⟩
    rcases h2 with ⟨o, h2⟩ | h2
    · exact .inl ⟨o, (s.h p _ h2 (fun _ z => by cases z) (r p _ h2 id)).1⟩
    · exact .inr h2
  | .pmp kvs, _, h => by
    rw [RelV] at h ⊢
    obtain ⟨p, h1, h2, h3⟩ := h
    have q := s.h p _ h2 (fun _ z => by cases z) h3.2
    exact ⟨p, h1, q.1, ⟨h3.1, q.2⟩⟩
  | .ref a, _, h => by
    rw [RelV] at h ⊢
    exact ⟨Nat.lt_of_lt_of_le h.1 s.n, by rw [s.m a h.1]; exact h.2⟩
theorem RelVs.step {F : Cf} {A : Av} {ω ω' : Om} {H H' : Hp} (r : OffOf ω H) (s : Stp ω H ω' H') : ∀ {vs : List Val} {us : List V}, RelVs F A ω H vs us → RelVs F A ω' H' vs us
  | [], _, h => by rw [RelVs] at h ⊢; exact h
  | v :: vs, _, h => by
    rw [RelVs] at h ⊢
    obtain ⟨u, x, h1, h2, h3⟩ := h
    exact ⟨u, x, h1, RelV.step r s h2, RelVs.step r s h3⟩
end
theorem Rel.noA {F : Cf} {A : Av} {ω : Om} {H : Hp} {p : Addr} (r : Rel F A ω H) {x : HO} (h : H p = some x) (n : ¬ ObH x) (n' : ∀ l, x ≠ .dT l) : ¬ A p := fun z => by
  obtain ⟨y, h1, h2⟩ := r.av p z
  rw [h] at h1; cases h1
  rcases h2 with h2 | ⟨l, h2⟩
  · exact n h2
  · exact n' l h2
mutual
theorem RelV.stepX {F : Cf} {A : Av} {ω ω' : Om} {H H' : Hp} {O : Av} (r : OffOf ω H) (hn : ∀ p x, H p = some x → ¬ ObH x → (∀ l, x ≠ .dT l) → ¬ O p) (s : StpX O ω H ω' H') (hO : ∀ p, O p → A p) : ∀ {v : Val} {u : V}, RelV F A ω H v u → RelV F A ω' H' v u
  | .non, _, h => by rw [RelV] at h ⊢; exact h
  | .bl _, _, h => by rw [RelV] at h ⊢; exact h
  | .int _, _, h => by rw [RelV] at h ⊢; exact h
  | .str _, _, h => by rw [RelV] at h ⊢; exact h
  | .tup vs, _, h => by
    rw [RelV] at h ⊢
    obtain ⟨p, ws, h1, h2, h3⟩ := h
    exact ⟨p, ws, h1, (s.h p _ h2 (fun _ z => by cases z) (r p _ h2 id) (hn p _ h2 id (fun _ z => by cases z))).1, RelVs.stepX r hn s hO h3⟩
  | .lst vs, _, h => by
    rw [RelV] at h ⊢
    obtain ⟨p, ws, h1, h2, h3, h4⟩ := h
    have q := s.h p _ h2 (fun _ z => by cases z) h3.2 (fun z => h3.1 (hO p z))
    exact ⟨p, ws, h1, q.1, ⟨h3.1, q.2⟩, RelVs.stepX r hn s hO h4⟩
  | .scr ns, _, h => by
    rw [RelV] at h ⊢
    obtain ⟨p, h1, h2⟩ := h
    refine ⟨p, h1, ?_⟩
    rcases h2 with ⟨o, h2⟩ | h2
    · exact .inl ⟨o, (s.h p _ h2 (fun _ z => by cases z) (r p _ h2 id) (hn p _ h2 id (fun _ z => by cases z))).1⟩
    · exact .inr h2
  | .pmp kvs, _, h => by
    rw [RelV] at h ⊢
    obtain ⟨p, h1, h2, h3⟩ := h
    have q := s.h p _ h2 (fun _ z => by cases z) h3.2 (fun z => h3.1 (hO p z))
    exact ⟨p, h1, q.1, ⟨h3.1, q.2⟩⟩
  | .ref a, _, h => by
    rw [RelV] at h ⊢
    exact ⟨Nat.lt_of_lt_of_le h.1 s.n, by rw [s.m a h.1]; exact h.2⟩
theorem RelVs.stepX {F : Cf} {A : Av} {ω ω' : Om} {H H' : Hp} {O : Av} (r : OffOf ω H) (hn : ∀ p x, H p = some x → ¬ ObH x → (∀ l, x ≠ .dT l) → ¬ O p) (s : StpX O ω H ω' H') (hO : ∀ p, O p → A p) : ∀ {vs : List Val} {us : List V}, RelVs F A ω H vs us → RelVs F A ω' H' vs us
  | [], _, h => by rw [RelVs] at h ⊢; exact h
  | v :: vs, _, h => by
    rw [RelVs] at h ⊢
    obtain ⟨u, x, h1, h2, h3⟩ := h
    exact ⟨u, x, h1, RelV.stepX r hn s hO h2, RelVs.stepX r hn s hO h3⟩
end
mutual
theorem RelV.av {F : Cf} {A A' : Av} {ω : Om} {H : Hp} (s : ∀ p, A' p → A p ∨ H p = none) : ∀ {v : Val} {u : V}, RelV F A ω H v u → RelV F A' ω H v u
  | .non, _, h => by rw [RelV] at h ⊢; exact h
  | .bl _, _, h => by rw [RelV] at h ⊢; exact h
  | .int _, _, h => by rw [RelV] at h ⊢; exact h
  | .str _, _, h => by rw [RelV] at h ⊢; exact h
  | .tup vs, _, h => by
    rw [RelV] at h ⊢
    obtain ⟨p, ws, h1, h2, h3⟩ := h
    exact ⟨p, ws, h1, h2, RelVs.av s h3⟩
  | .lst vs, _, h => by
    rw [RelV] at h ⊢
    obtain ⟨p, ws, h1, h2, h3, h4⟩ := h
    refine ⟨p, ws, h1, h2, ⟨fun z => ?_, h3.2⟩, RelVs.av s h4⟩
    rcases s p z with z | z
    · exact h3.1 z
    · rw [z] at h2; cases h2
  | .scr ns, _, h => by rw [RelV] at h ⊢; exact h
  | .pmp kvs, _, h => by
    rw [RelV] at h ⊢
    obtain ⟨p, h1, h2, h3⟩ := h
    refine ⟨p, h1, h2, ⟨fun z => ?_, h3.2⟩⟩
    rcases s p z with z | z
    · exact h3.1 z
    · rw [z] at h2; cases h2
  | .ref a, _, h => by rw [RelV] at h ⊢; exact h
theorem RelVs.av {F : Cf} {A A' : Av} {ω : Om} {H : Hp} (s : ∀ p, A' p → A p ∨ H p = none) : ∀ {vs : List Val} {us : List V}, RelVs F A ω H vs us → RelVs F A' ω H vs us
  | [], _, h => by rw [RelVs] at h ⊢; exact h
  | v :: vs, _, h => by
    rw [RelVs] at h ⊢
    obtain ⟨u, x, h1, h2, h3⟩ := h
    exact ⟨u, x, h1, RelV.av s h2, RelVs.av s h3⟩
end
section
variable {F : Cf} {A A' : Av} {ω ω' ω'' : Om} {H H' H'' : Hp} {p : Addr} {v : Val} {vs : List Val} {u : V} {us ws : List V}
theorem rv_non : RelV F A ω H .non u ↔ u = .non := by rw [RelV]
theorem rv_bl {b : Bool} : RelV F A ω H (.bl b) u ↔ u = .bl b := by rw [RelV]
theorem rv_int {i : Int} : RelV F A ω H (.int i) u ↔ u = .int i := by rw [RelV]
theorem rv_str {l : List Nat} : RelV F A ω H (.str l) u ↔ u = .str (S l) ∧ SOk l := by rw [RelV]
theorem rv_tup : RelV F A ω H (.tup vs) u ↔ ∃ p ws, u = .ref p ∧ H p = some (.tup ws) ∧ RelVs F A ω H vs ws := by rw [RelV]
theorem rv_lst : RelV F A ω H (.lst vs) u ↔ ∃ p ws, u = .ref p ∧ H p = some (.lst ws) ∧ (¬ A p ∧ ω.off p) ∧ RelVs F A ω H vs ws := by rw [RelV]
theorem rv_scr {ns : List Int} : RelV F A ω H (.scr ns) u ↔ ∃ p, u = .ref p ∧ Scr F.K H p (ns.map V.int) := by rw [RelV]
theorem rv_pmp {kvs : List ((Int × Int) × Int)} : RelV F A ω H (.pmp kvs) u ↔ ∃ p, u = .ref p ∧ H p = some (.dT (kvs.map fun kv => ([.inl kv.1.1, .inl kv.1.2], .int kv.2))) ∧ (¬ A p ∧ ω.off p) := by rw [RelV]
theorem rv_ref {a : Nat} : RelV F A ω H (.ref a) u ↔ a < ω.μ.n ∧ u = .ref (ω.m a) := by rw [RelV]
theorem rvs_nil : RelVs F A ω H [] us ↔ us = [] := by rw [RelVs]
theorem rvs_cons : RelVs F A ω H (v :: vs) us ↔ ∃ u r, us = u :: r ∧ RelV F A ω H v u ∧ RelVs F A ω H vs r := by rw [RelVs]
theorem RelVs.len : ∀ {vs : List Val} {us : List V}, RelVs F A ω H vs us → us.length = vs.length
  | [], _, h => by rw [rvs_nil.mp h]; rfl
  | v :: vs, _, h => by
    obtain ⟨u, r, rfl, _, h3⟩ := rvs_cons.mp h
    show r.length + 1 = vs.length + 1
    rw [h3.len]
theorem RelVs.get : ∀ {vs : List Val} {us : List V} {i : Nat} {v : Val}, RelVs F A ω H vs us → vs[i]? = some v → ∃ u, us[i]? = some u ∧ RelV F A ω H v u
  | [], _, _, _, _, e => by simp at e
  | w :: vs, _, 0, _, h, e => by
    obtain ⟨u, r, rfl, h2, h3⟩ := rvs_cons.mp h
    have e : w = _ := Option.some.inj e
    subst e
    exact ⟨u, rfl, h2⟩
  | w :: vs, _, i + 1, v', h, e => by
    obtain ⟨u, r, rfl, h2, h3⟩ := rvs_cons.mp h
    exact h3.get (i := i) e
theorem RelVs.app : ∀ {vs vs' : List Val} {us us' : List V}, RelVs F A ω H vs us → RelVs F A ω H vs' us' → RelVs F A ω H (vs ++ vs') (us ++ us')
  | [], _, _, _, h, h' => by rw [rvs_nil.mp h]; exact h'
  | v :: vs, _, _, _, h, h' => by
    obtain ⟨u, r, rfl, h2, h3⟩ := rvs_cons.mp h
    exact rvs_cons.mpr ⟨u, _, rfl, h2, h3.app h'⟩
theorem RelVs.one (h : RelV F A ω H v u) : RelVs F A ω H [v] [u] := rvs_cons.mpr ⟨u, [], rfl, h, rvs_nil.mpr rfl⟩
theorem RelVs.cons (h : RelV F A ω H v u) (hs : RelVs F A ω H vs us) : RelVs F A ω H (v :: vs) (u :: us) := rvs_cons.mpr ⟨u, us, rfl, h, hs⟩
theorem RelVs.set : ∀ {vs : List Val} {us : List V} (i : Nat) {v : Val} {u : V}, RelVs F A ω H vs us → RelV F A ω H v u → RelVs F A ω H (vs.set i v) (us.set i u)
  | [], _, _, _, _, h, _ => by rw [rvs_nil.mp h]; exact rvs_nil.mpr rfl
  | w :: vs, _, 0, _, _, h, e => by
    obtain ⟨u, r, rfl, h2, h3⟩ := rvs_cons.mp h
    exact .cons e h3
  | w :: vs, _, i + 1, _, _, h, e => by
    obtain ⟨u, r, rfl, h2, h3⟩ := rvs_cons.mp h
    exact .cons h2 (h3.set i e)
theorem RelVs.drop : ∀ {vs : List Val} {us : List V} (n : Nat), RelVs F A ω H vs us → RelVs F A ω H (vs.drop n) (us.drop n)
  | vs, _, 0, h => h
  | [], _, n + 1, h => by rw [rvs_nil.mp h]; exact rvs_nil.mpr rfl
  | v :: vs, _, n + 1, h => by
    obtain ⟨u, r, rfl, h2, h3⟩ := rvs_cons.mp h
    exact h3.drop n
theorem RelVs.take : ∀ {vs : List Val} {us : List V} (n : Nat), RelVs F A ω H vs us → RelVs F A ω H (vs.take n) (us.take n)
  | vs, _, 0, h => rvs_nil.mpr rfl
  | [], _, n + 1, h => by rw [rvs_nil.mp h]; exact rvs_nil.mpr rfl
  | v :: vs, _, n + 1, h => by
    obtain ⟨u, r, rfl, h2, h3⟩ := rvs_cons.mp h
    exact .cons h2 (h3.take n)
theorem ObR.step {o : Ob} (r : OffOf ω H) (s : Stp ω H ω' H') (h : ObR F A ω H p o) (e : H' p = H p) : ObR F A ω' H' p o := by
  cases o with
  | lst vs => obtain ⟨ws, h1, h2⟩ := h; exact ⟨ws, e.trans h1, h2.step r s⟩
  | dic kvs => obtain ⟨n, ws, h1, h2⟩ := h; exact ⟨n, ws, e.trans h1, h2.step r s⟩
  | ins c fs => obtain ⟨dx, ws, h1, h2⟩ := h; exact ⟨dx, ws, e.trans h1, h2.step r s⟩
  | fdic kvs x => obtain ⟨n, h1, od, ws, h2, h3⟩ := h; exact ⟨n, e.trans h1, od, ws, h2, h3.step r s⟩
theorem ObR.av {o : Ob} (s : ∀ p, A' p → A p ∨ H p = none) (h : ObR F A ω H p o) : ObR F A' ω H p o := by
  cases o with
  | lst vs => obtain ⟨ws, h1, h2⟩ := h; exact ⟨ws, h1, h2.av s⟩
  | dic kvs => obtain ⟨n, ws, h1, h2⟩ := h; exact ⟨n, ws, h1, h2.av s⟩
  | ins c fs => obtain ⟨dx, ws, h1, h2⟩ := h; exact ⟨dx, ws, h1, h2.av s⟩
  | fdic kvs x => obtain ⟨n, h1, od, ws, h2, h3⟩ := h; exact ⟨n, h1, od, ws, h2, h3.av s⟩
theorem Rel.less (r : Rel F A ω H) (s : ∀ p, A' p → A p) : Rel F A' ω H := by
  refine ⟨fun a o e => ?_, r.inj, r.tabs, fun p hp => r.av p (s p hp)⟩
  obtain ⟨h1, h2, h3⟩ := r.ob a o e
  exact ⟨h1, fun z => h2 (s _ z), h3.av fun p hp => .inl (s p hp)⟩
theorem av_upd {x : HO} (r : Rel F A ω H) (hx : ObH x ∨ (∃ l, x = .dT l) ∨ ¬ A p) : ∀ q, A q → ∃ y, upd H p x q = some y ∧ (ObH y ∨ ∃ l, y = .dT l) := fun q hq => by
  obtain ⟨y, h1, h2⟩ := r.av q hq
  by_cases e : q = p
  · subst e
    rcases hx with hx | hx | hx
    · exact ⟨x, upd_same, .inl hx⟩
    · exact ⟨x, upd_same, .inr hx⟩
    · exact absurd hq hx
  · exact ⟨y, by rw [upd_ne e]; exact h1, h2⟩
theorem tabS_upd {H : Hp} {P : Addr} {q : Str} {p : Addr} {o : HO} (t : LamX.TabS H P q) (hp : H p = none ∨ ∃ x, H p = some x ∧ ObF x) : LamX.TabS (upd H p o) P q := by
  obtain ⟨ps, h1, h2, h3⟩ := t
  have ne : ∀ b y, H b = some y → ¬ ObF y → b ≠ p := fun b y h n z => by
    subst z
    rcases hp with hp | ⟨x, hp, hx⟩
    · rw [h] at hp; cases hp
    · rw [h] at hp; cases hp; exact n hx
  refine ⟨ps, by rw [upd_ne (ne _ _ h1 id)]; exact h1, h2, fun pos cv hc => ?_⟩
  obtain ⟨c, e1, e2⟩ := h3 pos cv hc
  exact ⟨c, e1, by rw [upd_ne (ne _ _ e2 id)]; exact e2⟩
theorem tabs_upd {T : List (Addr × Str)} {o : HO} (t : LamX.Tabs T H) (hp : H p = none ∨ ∃ x, H p = some x ∧ ObF x) : LamX.Tabs T (upd H p o) := fun q hq => tabS_upd (t q hq) hp
/-- a new thing that the small world doesn't track -/
theorem Stp.fresh {o : HO} (h : H p = none) : Stp ω H ω (upd H p o) := ⟨Nat.le_refl _, fun _ _ => rfl, fun b x e _ f => ⟨by rw [upd_ne (ne_of_none e h)]; exact e, f⟩, fun _ => upd_none⟩
theorem Rel.fresh {o : HO} (r : Rel F A ω H) (h : H p = none) : Rel F A ω (upd H p o) := by
  refine ⟨fun a x e => ?_, r.inj, tabs_upd r.tabs (.inl h), av_upd r (.inr (.inr fun z => by obtain ⟨y, h1, _⟩ := r.av p z; rw [h] at h1; cases h1))⟩
  obtain ⟨h1, h2, h3⟩ := r.ob a x e
  refine ⟨h1, h2, h3.step r.off_of (.fresh h) ?_⟩
  obtain ⟨y, hy, _⟩ := h3.obH
  rw [upd_ne (ne_of_none hy h)]
theorem Rel.notA (r : Rel F A ω H) (h : H p = none) : ¬ A p := fun z => by
  obtain ⟨x, hx, _⟩ := r.av p z
  rw [h] at hx; cases hx
/-- a new thing of one's own -/
theorem Rel.grow {o : HO} (r : Rel F A ω H) (h : H p = none) (ho : ObH o ∨ ∃ l, o = .dT l) : Rel F (fun q => A q ∨ q = p) ω (upd H p o) := by
  refine ⟨fun a x e => ?_, r.inj, tabs_upd r.tabs (.inl h), fun q hq => ?_⟩
  · obtain ⟨h1, h2, h3⟩ := r.ob a x e
    obtain ⟨y, hy, _⟩ := h3.obH
    refine ⟨h1, fun z => ?_, ((h3.av (A' := fun q => A q ∨ q = p) fun q hq => ?_).step r.off_of (.fresh h) ?_)⟩
    · rcases z with z | z
      · exact h2 z
      · rw [z, h] at hy; cases hy
    · rcases hq with hq | hq
      · exact .inl hq
      · exact .inr (by rw [hq]; exact h)
    · rw [upd_ne (ne_of_none hy h)]
  · rcases hq with hq | hq
    · exact av_upd r (.inr (.inr fun z => by obtain ⟨y, h1, _⟩ := r.av p z; rw [h] at h1; cases h1)) q hq
    · subst hq
      exact ⟨o, upd_same, ho⟩
theorem RelV.grow {o : HO} (r : Rel F A ω H) (h : H p = none) (hv : RelV F A ω H v u) : RelV F (fun q => A q ∨ q = p) ω (upd H p o) v u := by
  refine (hv.av (A' := fun q => A q ∨ q = p) fun q hq => ?_).step r.off_of (.fresh h)
  rcases hq with hq | hq
  · exact .inl hq
  · exact .inr (by rw [hq]; exact h)
theorem RelVs.grow {o : HO} (r : Rel F A ω H) (h : H p = none) (hv : RelVs F A ω H vs us) : RelVs F (fun q => A q ∨ q = p) ω (upd H p o) vs us := by
  refine (hv.av (A' := fun q => A q ∨ q = p) fun q hq => ?_).step r.off_of (.fresh h)
  rcases hq with hq | hq
  · exact .inl hq
  · exact .inr (by rw [hq]; exact h)
/-- a new object -/
def Om.new (ω : Om) (p : Addr) (o : Ob) : Om := ⟨fun b => if b = ω.μ.n then p else ω.m b, ω.μ.new o⟩
theorem Om.new_live {o : Ob} {a : Nat} (h : (ω.new p o).live a) : a = ω.μ.n ∨ (a ≠ ω.μ.n ∧ ω.live a) := by
  by_cases e : a = ω.μ.n
  · exact .inl e
  · refine .inr ⟨e, fun z => h ?_⟩
    show (if a = ω.μ.n then some o else ω.μ.o a) = none
    rw [if_neg e]; exact z
theorem Stp.new {o : Ob} {x : HO} (r : Rel F A ω H) (h : H p = none) : Stp ω H (ω.new p o) (upd H p x) := by
  refine ⟨Nat.le_succ _, fun a ha => ?_, fun b y e _ f => ⟨by rw [upd_ne (ne_of_none e h)]; exact e, fun a l => ?_⟩, fun _ => upd_none⟩
  · show (if a = ω.μ.n then p else ω.m a) = _
    rw [if_neg (Nat.ne_of_lt ha)]
  · show (if a = ω.μ.n then p else ω.m a) ≠ b
    rcases Om.new_live l with z | ⟨z, l⟩
    · rw [if_pos z]; exact (ne_of_none e h).symm
    · rw [if_neg z]; exact f a l
theorem Rel.new {o : Ob} {x : HO} (r : Rel F A ω H) (h : H p = none) (hx : ObR F A (ω.new p o) (upd H p x) p o) : Rel F A (ω.new p o) (upd H p x) := by
  have st : Stp ω H (ω.new p o) (upd H p x) := .new r h
  refine ⟨fun a y e => ?_, fun a b la lb e => ?_, tabs_upd r.tabs (.inl h), av_upd r (.inr (.inr fun z => by obtain ⟨y, h1, _⟩ := r.av p z; rw [h] at h1; cases h1))⟩
  · have e' : (if a = ω.μ.n then some o else ω.μ.o a) = some y := e
    by_cases z : a = ω.μ.n
    · subst z
      rw [if_pos rfl] at e'
      cases e'
      have em : (ω.new p o).m ω.μ.n = p := if_pos rfl
      rw [em]
      exact ⟨Nat.lt_succ_self _, r.notA h, hx⟩
    · rw [if_neg z] at e'
      obtain ⟨h1, h2, h3⟩ := r.ob a y e'
      have em : (ω.new p o).m a = ω.m a := if_neg z
      rw [em]
      refine ⟨Nat.lt_succ_of_lt h1, h2, h3.step r.off_of st ?_⟩
      obtain ⟨w, hw, _⟩ := h3.obH
      rw [upd_ne (ne_of_none hw h)]
  · have ne : ∀ c, ω.live c → ω.m c ≠ p := r.off_none h
    have ea : (if a = ω.μ.n then p else ω.m a) = (if b = ω.μ.n then p else ω.m b) := e
    rcases Om.new_live la with za | ⟨za, la⟩ <;> rcases Om.new_live lb with zb | ⟨zb, lb⟩
    · rw [za, zb]
    · rw [if_pos za, if_neg zb] at ea; exact absurd ea.symm (ne b lb)
    · rw [if_neg za, if_pos zb] at ea; exact absurd ea (ne a la)
    · rw [if_neg za, if_neg zb] at ea; exact r.inj a b la lb ea
/-- an object changed -/
def Om.put (ω : Om) (a : Nat) (o : Ob) : Om := ⟨ω.m, ω.μ.put a o⟩
theorem Om.put_live {o : Ob} {a b : Nat} (ha : ω.live a) (h : (ω.put a o).live b) : ω.live b := by
  by_cases e : b = a
  · rw [e]; exact ha
  · intro z
    refine h ?_
    show (if b = a then some o else ω.μ.o b) = none
    rw [if_neg e]; exact z
theorem Stp.put {o : Ob} {x : HO} {a : Nat} (ha : ω.live a) : Stp ω H (ω.put a o) (upd H (ω.m a) x) :=
  ⟨Nat.le_refl _, fun _ _ => rfl, fun b y e _ f => ⟨by rw [upd_ne (fun z => f a ha z.symm)]; exact e, fun c l => f c (Om.put_live ha l)⟩, fun _ => upd_none⟩
theorem Rel.put {o : Ob} {x : HO} {a : Nat} (r : Rel F A ω H) (ha : ω.live a) (hx : ObR F A (ω.put a o) (upd H (ω.m a) x) (ω.m a) o) : Rel F A (ω.put a o) (upd H (ω.m a) x) := by
  have st : Stp ω H (ω.put a o) (upd H (ω.m a) x) := .put ha
  refine ⟨fun b y e => ?_, fun b c lb lc e => r.inj b c (Om.put_live ha lb) (Om.put_live ha lc) e, tabs_upd r.tabs (.inr (r.at_live ha)), av_upd r (.inr (.inr fun z => r.avA z a ha rfl))⟩
  have e' : (if b = a then some o else ω.μ.o b) = some y := e
  by_cases z : b = a
  · subst z
    rw [if_pos rfl] at e'
    cases e'
    cases q : ω.μ.o b with
    | none => exact absurd q ha
    | some o' => exact ⟨(r.ob b o' q).1, (r.ob b o' q).2.1, hx⟩
  · rw [if_neg z] at e'
    obtain ⟨h1, h2, h3⟩ := r.ob b y e'
    refine ⟨h1, h2, h3.step r.off_of st ?_⟩
    have lb : ω.live b := fun q => by rw [q] at e'; cases e'
    exact upd_ne fun q => z (r.inj b a lb ha q)
/-- a thing of nobody (a def's own list) changed -/
theorem Rel.own {x : HO} (r : Rel F A ω H) (ap : A p) (hx : ∃ y, H p = some y ∧ (ObH y ∨ ∃ l, y = .dT l)) (ho : ObH x ∨ ∃ l, x = .dT l) (RV : ∀ {v u}, RelV F A ω H v u → RelV F A ω (upd H p x) v u) (RVs : ∀ {v u}, RelVs F A ω H v u → RelVs F A ω (upd H p x) v u) : Rel F A ω (upd H p x) := by
  refine ⟨fun a o e => ?_, r.inj, fun q hq => ?_, av_upd r (ho.imp_right .inl)⟩
  · obtain ⟨h1, h2, h3⟩ := r.ob a o e
    refine ⟨h1, h2, ?_⟩
    have ne : ω.m a ≠ p := fun z => h2 (z ▸ ap)
    cases o with
    | lst vs => obtain ⟨ws, h1, h2⟩ := h3; exact ⟨ws, by rw [upd_ne ne]; exact h1, RVs h2⟩
    | dic kvs => obtain ⟨n, ws, h1, h2⟩ := h3; exact ⟨n, ws, by rw [upd_ne ne]; exact h1, RVs h2⟩
    | ins c fs => obtain ⟨dx, ws, h1, h2⟩ := h3; exact ⟨dx, ws, by rw [upd_ne ne]; exact h1, RVs h2⟩
    | fdic kvs x => obtain ⟨n, h1, od, ws, h2, h4⟩ := h3; exact ⟨n, by rw [upd_ne ne]; exact h1, od, ws, h2, RVs h4⟩
  · obtain ⟨y, hy, hk⟩ := hx
    rcases hk with hk | ⟨l, rfl⟩
    · exact tabS_upd (r.tabs q hq) (.inr ⟨y, hy, hk.f⟩)
    · obtain ⟨ps, h1, h2, h3⟩ := r.tabs q hq
      have ne : ∀ b z, H b = some z → (∀ l, z ≠ .dT l) → b ≠ p := fun b z h n e => by
        subst e; rw [h] at hy; cases hy; exact n _ rfl
      refine ⟨ps, by rw [upd_ne (ne _ _ h1 (fun _ z => by cases z))]; exact h1, h2, fun pos cv hc => ?_⟩
      obtain ⟨c, e1, e2⟩ := h3 pos cv hc
      exact ⟨c, e1, by rw [upd_ne (ne _ _ e2 (fun _ z => by unfold LamX.CodeO at z; cases z))]; exact e2⟩
end
mutual
/-- nothing leans on what is avoided -/
theorem RelV.own {F : Cf} {A : Av} {ω : Om} {H : Hp} {p : Addr} {x : HO} (ap : A p) (hx : ∃ y, H p = some y ∧ (ObH y ∨ ∃ l, y = .dT l)) : ∀ {v : Val} {u : V}, RelV F A ω H v u → RelV F A ω (upd H p x) v u
  | .non, _, h => by rw [RelV] at h ⊢; exact h
  | .bl _, _, h => by rw [RelV] at h ⊢; exact h
  | .int _, _, h => by rw [RelV] at h ⊢; exact h
  | .str _, _, h => by rw [RelV] at h ⊢; exact h
  | .tup vs, _, h => by
    rw [RelV] at h ⊢
    obtain ⟨q, ws, h1, h2, h3⟩ := h
    refine ⟨q, ws, h1, ?_, RelVs.own ap hx h3⟩
    rw [upd_ne fun z => ?_]
    · exact h2
    · subst z
      obtain ⟨y, hy, hk⟩ := hx
      rw [h2] at hy; cases hy
      rcases hk with hk | ⟨l, hk⟩
      · exact hk
      · cases hk
  | .lst vs, _, h => by
    rw [RelV] at h ⊢
    obtain ⟨q, ws, h1, h2, h3, h4⟩ := h
    exact ⟨q, ws, h1, by rw [upd_ne (show q ≠ p from fun z => h3.1 (by rw [z]; exact ap))]; exact h2, h3, RelVs.own ap hx h4⟩
  | .scr ns, _, h => by
    rw [RelV] at h ⊢
    obtain ⟨q, h1, h2⟩ := h
    refine ⟨q, h1, h2.upd fun ob u z => ?_⟩
    obtain ⟨y, hy, hk⟩ := hx
    rw [z] at hy; cases hy
    rcases hk with hk | ⟨l, hk⟩
    · exact hk
    · cases hk
  | .pmp kvs, _, h => by
    rw [RelV] at h ⊢
    obtain ⟨q, h1, h2, h3⟩ := h
    exact ⟨q, h1, by rw [upd_ne (show q ≠ p from fun z => h3.1 (by rw [z]; exact ap))]; exact h2, h3⟩
  | .ref a, _, h => by rw [RelV] at h ⊢; exact h
theorem RelVs.own {F : Cf} {A : Av} {ω : Om} {H : Hp} {p : Addr} {x : HO} (ap : A p) (hx : ∃ y, H p = some y ∧ (ObH y ∨ ∃ l, y = .dT l)) : ∀ {vs : List Val} {us : List V}, RelVs F A ω H vs us → RelVs F A ω (upd H p x) vs us
  | [], _, h => by rw [RelVs] at h ⊢; exact h
  | v :: vs, _, h => by
    rw [RelVs] at h ⊢
    obtain ⟨u, y, h1, h2, h3⟩ := h
    exact ⟨u, y, h1, RelV.own ap hx h2, RelVs.own ap hx h3⟩
end
end MW

set_option Elab.async false
set_option linter.all false
set_option maxRecDepth 100000
namespace MW
open PySem PySem.Spec PyProof.Rows L2 Evl SX HW

/-! ### slots -/
inductive Slot where
  | no | val (v : Val) | own (vs : List Val) | ownP (kvs : List ((Int × Int) × Int))
def Slot.mine : Slot → Bool
  | .own _ => true
  | .ownP _ => true
  | _ => false
abbrev Lc := List Slot
def Mine (σ : Lc) (i : Nat) : Prop := ∃ s, σ[i]? = some s ∧ s.mine = true
def AO (A0 : Av) (σ : Lc) (σv : L2.St) : Av := fun p => A0 p ∨ ∃ i, Mine σ i ∧ σv[i]? = some (some (.ref p))
def SloR (F : Cf) (A : Av) (ω : Om) (H : Hp) : Slot → Option V → Prop
  | .no, _ => True
  | .val v, u => ∃ x, u = some x ∧ RelV F A ω H v x
  | .own vs, u => ∃ p ws, u = some (.ref p) ∧ H p = some (.lst ws) ∧ RelVs F A ω H vs ws
  | .ownP kvs, u => ∃ p, u = some (.ref p) ∧ H p = some (.dT (kvs.map fun kv => ([.inl kv.1.1, .inl kv.1.2], .int kv.2)))
structure At (F : Cf) (A0 : Av) (ω : Om) (H : Hp) (σ : Lc) (σv : L2.St) : Prop where
  rel : Rel F (AO A0 σ σv) ω H
  len : σ.length = σv.length
  sl : ∀ (i : Nat) (s : Slot), σ[i]? = some s → ∃ u, σv[i]? = some u ∧ SloR F (AO A0 σ σv) ω H s u
  na0 : ∀ (i : Nat) (p : Addr), Mine σ i → σv[i]? = some (some (.ref p)) → ¬ A0 p
  dis : ∀ (i j : Nat) (p : Addr), Mine σ i → Mine σ j → σv[i]? = some (some (.ref p)) → σv[j]? = some (some (.ref p)) → i = j
/-- where a frame, or a loop in it, was entered: what is avoided, what may change, the world -/
structure Fe where
  A0 : Av
  O0 : Av
  ω0 : Om
  H0 : Hp
/-- within a frame that was entered at e -/
structure AtF (F : Cf) (e : Fe) (ω : Om) (H : Hp) (σ : Lc) (σv : L2.St) : Prop extends At F e.A0 ω H σ σv where
  st : StpX e.O0 e.ω0 e.H0 ω H
  new : ∀ (i : Nat) (p : Addr), Mine σ i → σv[i]? = some (some (.ref p)) → e.H0 p = none ∨ e.O0 p
section
variable {F : Cf} {fe : Fe} {A A0 : Av} {ω ω' : Om} {H H' : Hp} {p : Addr} {v : Val} {vs : List Val} {u : V} {us ws : List V} {σ σ' : Lc} {σv σv' : L2.St} {i : Nat}
theorem SloR.step {s : Slot} {uo : Option V} (r : Rel F A ω H) (st : Stp ω H ω' H') (hm : s.mine = true → ∀ p, uo = some (.ref p) → A p) (h : SloR F A ω H s uo) : SloR F A ω' H' s uo := by
  cases s with
  | no => trivial
  | val v => obtain ⟨x, h1, h2⟩ := h; exact ⟨x, h1, h2.step r.off_of st⟩
  | own vs => obtain ⟨p, ws, h1, h2, h3⟩ := h; exact ⟨p, ws, h1, (st.h p _ h2 (fun _ z => by cases z) (r.avA (hm rfl p h1))).1, h3.step r.off_of st⟩
  | ownP kvs => obtain ⟨p, h1, h2⟩ := h; exact ⟨p, h1, (st.h p _ h2 (fun _ z => by cases z) (r.avA (hm rfl p h1))).1⟩
theorem At.step (a : At F A0 ω H σ σv) (st : Stp ω H ω' H') (r : Rel F (AO A0 σ σv) ω' H') : At F A0 ω' H' σ σv := by
  refine ⟨r, a.len, fun i s hs => ?_, a.na0, a.dis⟩
  obtain ⟨u, h1, h2⟩ := a.sl i s hs
  exact ⟨u, h1, h2.step a.rel st fun hm p e => .inr ⟨i, ⟨s, hs, hm⟩, by rw [h1, e]⟩⟩
theorem AtF.step (a : AtF F fe ω H σ σv) (st : Stp ω H ω' H') (r : At F fe.A0 ω' H' σ σv) : AtF F fe ω' H' σ σv := ⟨r, a.st.thn st, a.new⟩
theorem At.val (a : At F A0 ω H σ σv) (h : σ[i]? = some (.val v)) : ∃ u, σv[i]? = some (some u) ∧ RelV F (AO A0 σ σv) ω H v u := by
  obtain ⟨u, h1, x, h2, h3⟩ := a.sl i _ h
  exact ⟨x, by rw [h1, h2], h3⟩
theorem get_set {α : Type} {l : List α} {i j : Nat} {x y : α} (h : (l.set i x)[j]? = some y) : (j = i ∧ y = x ∧ i < l.length) ∨ (j ≠ i ∧ l[j]? = some y) := by
  by_cases e : j = i
  · subst e
    have hl : j < l.length := by
      have := (List.getElem?_eq_some_iff.mp h).1
      rwa [List.length_set] at this
    rw [List.getElem?_set_self hl] at h
    exact .inl ⟨rfl, (Option.some.inj h).symm, hl⟩
  · rw [List.getElem?_set_ne (fun z => e z.symm)] at h
    exact .inr ⟨e, h⟩
/-- slot i is set to what is nobody's own -/
theorem AO.set {s : Slot} {uo : Option V} (hs : s.mine = false) : ∀ p, AO A0 (σ.set i s) (σv.set i uo) p → AO A0 σ σv p := fun p h => by
  rcases h with h | ⟨j, ⟨t, h1, h2⟩, h3⟩
  · exact .inl h
  · rcases get_set h1 with ⟨_, rfl, _⟩ | ⟨ne, h1⟩
    · rw [hs] at h2; cases h2
    · rw [List.getElem?_set_ne (fun z => ne z.symm)] at h3
      exact .inr ⟨j, ⟨t, h1, h2⟩, h3⟩
theorem SloR.less {A' : Av} {s : Slot} {uo : Option V} (s' : ∀ p, A' p → A p) (h : SloR F A ω H s uo) : SloR F A' ω H s uo := by
  cases s with
  | no => trivial
  | val v => obtain ⟨x, h1, h2⟩ := h; exact ⟨x, h1, h2.av fun p z => .inl (s' p z)⟩
  | own vs => obtain ⟨p, ws, h1, h2, h3⟩ := h; exact ⟨p, ws, h1, h2, h3.av fun p z => .inl (s' p z)⟩
  | ownP kvs => exact h
theorem At.set {s : Slot} {uo : Option V} (a : At F A0 ω H σ σv) (hs : s.mine = false) (hr : SloR F (AO A0 σ σv) ω H s uo) : At F A0 ω H (σ.set i s) (σv.set i uo) := by
  have sub := AO.set (A0 := A0) (σ := σ) (σv := σv) (i := i) (uo := uo) hs
  have mine : ∀ {j q}, Mine (σ.set i s) j → (σv.set i uo)[j]? = some (some (.ref q)) → Mine σ j ∧ σv[j]? = some (some (.ref q)) := fun {j q} ⟨t, h1, h2⟩ h3 => by
    rcases get_set h1 with ⟨_, rfl, _⟩ | ⟨ne, h1⟩
    · rw [hs] at h2; cases h2
    · rw [List.getElem?_set_ne (fun z => ne z.symm)] at h3
      exact ⟨⟨t, h1, h2⟩, h3⟩
  refine ⟨a.rel.less sub, by rw [List.length_set, List.length_set]; exact a.len, fun j t ht => ?_, fun j q h1 h2 => ?_, fun j k q h1 h2 h3 h4 => ?_⟩
  · rcases get_set ht with ⟨rfl, rfl, hl⟩ | ⟨ne, ht⟩
    · exact ⟨uo, List.getElem?_set_self (by rw [← a.len]; exact hl), hr.less sub⟩
    · obtain ⟨u, h1, h2⟩ := a.sl j t ht
      exact ⟨u, by rw [List.getElem?_set_ne (fun z => ne z.symm)]; exact h1, h2.less sub⟩
  · obtain ⟨k1, k2⟩ := mine h1 h2
    exact a.na0 j q k1 k2
  · obtain ⟨k1, k2⟩ := mine h1 h3
    obtain ⟨l1, l2⟩ := mine h2 h4
    exact a.dis j k q k1 l1 k2 l2
theorem AtF.set {s : Slot} {uo : Option V} (a : AtF F fe ω H σ σv) (hs : s.mine = false) (hr : SloR F (AO fe.A0 σ σv) ω H s uo) : AtF F fe ω H (σ.set i s) (σv.set i uo) :=
  ⟨a.toAt.set hs hr, a.st, fun j q ⟨t, h1, h2⟩ h3 => by
    rcases get_set h1 with ⟨_, rfl, _⟩ | ⟨ne, h1⟩
    · rw [hs] at h2; cases h2
    · rw [List.getElem?_set_ne (fun z => ne z.symm)] at h3
      exact a.new j q ⟨t, h1, h2⟩ h3⟩
/-- slot i is set to a new thing of the def's own -/
theorem AtF.setOwn {s : Slot} {o : HO} (a : AtF F fe ω H σ σv) (h : H p = none) (h0 : fe.H0 p = none) (hs : s.mine = true) (ho : ObH o ∨ ∃ l, o = .dT l) (hr : SloR F (fun q => AO fe.A0 σ σv q ∨ q = p) ω (upd H p o) s (some (.ref p))) :
    AtF F fe ω (upd H p o) (σ.set i s) (σv.set i (some (.ref p))) := by
  have sub : ∀ q, AO fe.A0 (σ.set i s) (σv.set i (some (.ref p))) q → AO fe.A0 σ σv q ∨ q = p := fun q hq => by
    rcases hq with hq | ⟨j, ⟨t, h1, h2⟩, h3⟩
    · exact .inl (.inl hq)
    · rcases get_set h1 with ⟨rfl, rfl, hl⟩ | ⟨ne, h1⟩
      · rw [List.getElem?_set_self (by rw [← a.len]; exact hl)] at h3
        cases h3
        exact .inr rfl
      · rw [List.getElem?_set_ne (fun z => ne z.symm)] at h3
        exact .inl (.inr ⟨j, ⟨t, h1, h2⟩, h3⟩)
  have mine : ∀ {j q}, Mine (σ.set i s) j → (σv.set i (some (.ref p)))[j]? = some (some (.ref q)) → (j = i ∧ q = p) ∨ (j ≠ i ∧ Mine σ j ∧ σv[j]? = some (some (.ref q))) := fun {j q} ⟨t, h1, h2⟩ h3 => by
    rcases get_set h1 with ⟨rfl, rfl, hl⟩ | ⟨ne, h1⟩
    · rw [List.getElem?_set_self (by rw [← a.len]; exact hl)] at h3
      cases h3
      exact .inl ⟨rfl, rfl⟩
    · rw [List.getElem?_set_ne (fun z => ne z.symm)] at h3
      exact .inr ⟨ne, ⟨t, h1, h2⟩, h3⟩
  have nA : ¬ AO fe.A0 σ σv p := a.rel.notA h
  have g := a.rel.grow (o := o) h ho
  refine ⟨⟨g.less sub, by rw [List.length_set, List.length_set]; exact a.len, fun j t ht => ?_, fun j q h1 h2 => ?_, fun j k q h1 h2 h3 h4 => ?_⟩, a.st.thn (.fresh h), fun j q h1 h2 => ?_⟩
  · rcases get_set ht with ⟨rfl, rfl, hl⟩ | ⟨ne, ht⟩
    · exact ⟨_, List.getElem?_set_self (by rw [← a.len]; exact hl), hr.less sub⟩
    · obtain ⟨u, h1, h2⟩ := a.sl j t ht
      refine ⟨u, by rw [List.getElem?_set_ne (fun z => ne z.symm)]; exact h1, SloR.less sub ?_⟩
      cases t with
      | no => trivial
      | val v => obtain ⟨x, k1, k2⟩ := h2; exact ⟨x, k1, k2.grow a.rel h⟩
      | own vs => obtain ⟨q, ws, k1, k2, k3⟩ := h2; exact ⟨q, ws, k1, by rw [upd_ne (ne_of_none k2 h)]; exact k2, k3.grow a.rel h⟩
      | ownP kvs => obtain ⟨q, k1, k2⟩ := h2; exact ⟨q, k1, by rw [upd_ne (ne_of_none k2 h)]; exact k2⟩
  · rcases mine h1 h2 with ⟨rfl, rfl⟩ | ⟨_, k1, k2⟩
    · exact fun z => nA (.inl z)
    · exact a.na0 j q k1 k2
  · rcases mine h1 h3 with ⟨rfl, rfl⟩ | ⟨n1, k1, k2⟩ <;> rcases mine h2 h4 with ⟨e1, e2⟩ | ⟨n2, l1, l2⟩
    · exact e1.symm
    · exact absurd (.inr ⟨k, l1, l2⟩) nA
    · rw [e2] at k2; exact absurd (.inr ⟨j, k1, k2⟩) nA
    · exact a.dis j k q k1 l1 k2 l2
  · rcases mine h1 h2 with ⟨rfl, rfl⟩ | ⟨_, k1, k2⟩
    · exact .inl h0
    · exact a.new j q k1 k2
/-- an own thing is changed -/
theorem AtF.chg {s s' : Slot} {o : HO} (a : AtF F fe ω H σ σv) (hi : σ[i]? = some s) (hs : s.mine = true) (hp : σv[i]? = some (some (.ref p))) (hs' : s'.mine = true) (ho : ObH o ∨ ∃ l, o = .dT l) (hr : SloR F (AO fe.A0 σ σv) ω (upd H p o) s' (some (.ref p))) :
    AtF F fe ω (upd H p o) (σ.set i s') σv := by
  have ap : AO fe.A0 σ σv p := .inr ⟨i, ⟨s, hi, hs⟩, hp⟩
  have hx := a.rel.av p ap
  have il : i < σ.length := (List.getElem?_eq_some_iff.mp hi).1
  have mi : ∀ {j}, Mine (σ.set i s') j ↔ Mine σ j := fun {j} => by
    constructor
    · rintro ⟨t, h1, h2⟩
      rcases get_set h1 with ⟨rfl, rfl, hl⟩ | ⟨ne, h1⟩
      · exact ⟨s, hi, hs⟩
      · exact ⟨t, h1, h2⟩
    · rintro ⟨t, h1, h2⟩
      by_cases e : j = i
      · subst e; exact ⟨s', List.getElem?_set_self il, hs'⟩
      · exact ⟨t, by rw [List.getElem?_set_ne (fun z => e z.symm)]; exact h1, h2⟩
  have eA : AO fe.A0 (σ.set i s') σv = AO fe.A0 σ σv := by
    funext q
    refine propext ⟨fun h => ?_, fun h => ?_⟩
    · rcases h with h | ⟨j, h1, h2⟩
      · exact .inl h
      · exact .inr ⟨j, mi.mp h1, h2⟩
    · rcases h with h | ⟨j, h1, h2⟩
      · exact .inl h
      · exact .inr ⟨j, mi.mpr h1, h2⟩
  have r' : Rel F (AO fe.A0 σ σv) ω (upd H p o) := a.rel.own ap hx ho (fun h => h.own ap hx) fun h => h.own ap hx
  refine ⟨⟨by rw [eA]; exact r', by rw [List.length_set]; exact a.len, fun j t ht => ?_, fun j q h1 h2 => a.na0 j q (mi.mp h1) h2, fun j k q h1 h2 h3 h4 => a.dis j k q (mi.mp h1) (mi.mp h2) h3 h4⟩, ⟨a.st.n, a.st.m, fun q x e nt f no => ?_, fun q h => a.st.t q (upd_none h)⟩, fun j q h1 h2 => a.new j q (mi.mp h1) h2⟩
  · rw [eA]
    rcases get_set ht with ⟨rfl, rfl, hl⟩ | ⟨ne, ht⟩
    · exact ⟨_, hp, hr⟩
    · obtain ⟨u, h1, h2⟩ := a.sl j t ht
      refine ⟨u, h1, ?_⟩
      cases t with
      | no => trivial
      | val v => obtain ⟨x, k1, k2⟩ := h2; exact ⟨x, k1, k2.own ap hx⟩
      | own vs =>
        obtain ⟨q, ws, k1, k2, k3⟩ := h2
        refine ⟨q, ws, k1, ?_, k3.own ap hx⟩
        rw [upd_ne fun z => ?_]
        · exact k2
        · subst z
          exact ne (a.dis j i q ⟨_, ht, rfl⟩ ⟨s, hi, hs⟩ (by rw [h1, k1]) hp)
      | ownP kvs =>
        obtain ⟨q, k1, k2⟩ := h2
        refine ⟨q, k1, ?_⟩
        rw [upd_ne fun z => ?_]
        · exact k2
        · subst z
          exact ne (a.dis j i q ⟨_, ht, rfl⟩ ⟨s, hi, hs⟩ (by rw [h1, k1]) hp)
  · obtain ⟨k1, k2⟩ := a.st.h q x e nt f no
    refine ⟨?_, k2⟩
    rw [upd_ne fun z => ?_]
    · exact k1
    · subst z
      rcases a.new i q ⟨s, hi, hs⟩ hp with w | w
      · rw [w] at e; cases e
      · exact no w
/-- an own list becomes a list that isn't changed any more -/
theorem AtF.freeze (a : AtF F fe ω H σ σv) (hi : σ[i]? = some (.own vs)) : AtF F fe ω H (σ.set i (.val (.lst vs))) σv := by
  obtain ⟨uo, h1, p, ws, rfl, h3, h4⟩ := a.sl i _ hi
  have il : i < σ.length := (List.getElem?_eq_some_iff.mp hi).1
  have sub : ∀ q, AO fe.A0 (σ.set i (.val (.lst vs))) σv q → AO fe.A0 σ σv q ∧ q ≠ p := fun q h => by
    rcases h with h | ⟨j, ⟨t, k1, k2⟩, k3⟩
    · exact ⟨.inl h, fun z => a.na0 i p ⟨_, hi, rfl⟩ h1 (z ▸ h)⟩
    · rcases get_set k1 with ⟨rfl, rfl, hl⟩ | ⟨ne, k1⟩
      · cases k2
      · refine ⟨.inr ⟨j, ⟨t, k1, k2⟩, k3⟩, fun z => ?_⟩
        subst z
        exact ne (a.dis j i q ⟨t, k1, k2⟩ ⟨_, hi, rfl⟩ k3 h1)
  have ap : AO fe.A0 σ σv p := .inr ⟨i, ⟨_, hi, rfl⟩, h1⟩
  have mine : ∀ {j}, Mine (σ.set i (.val (.lst vs))) j → Mine σ j := fun {j} ⟨t, k1, k2⟩ => by
    rcases get_set k1 with ⟨rfl, rfl, hl⟩ | ⟨ne, k1⟩
    · cases k2
    · exact ⟨t, k1, k2⟩
  refine ⟨⟨a.rel.less fun q h => (sub q h).1, by rw [List.length_set]; exact a.len, fun j t ht => ?_, fun j q k1 k2 => a.na0 j q (mine k1) k2, fun j k q k1 k2 k3 k4 => a.dis j k q (mine k1) (mine k2) k3 k4⟩, a.st, fun j q k1 k2 => a.new j q (mine k1) k2⟩
  rcases get_set ht with ⟨rfl, rfl, hl⟩ | ⟨ne, ht⟩
  · exact ⟨_, h1, _, rfl, rv_lst.mpr ⟨p, ws, rfl, h3, ⟨fun z => (sub p z).2 rfl, a.rel.avA ap⟩, h4.av fun q z => .inl (sub q z).1⟩⟩
  · obtain ⟨u, k1, k2⟩ := a.sl j t ht
    exact ⟨u, k1, k2.less fun q z => (sub q z).1⟩
end
end MW

set_option Elab.async false
set_option linter.all false
set_option maxRecDepth 100000
namespace MW
open PySem PySem.Spec PyProof.Rows L2 Evl SX HW

abbrev QV := Val → Sto → Prop
abbrev QX := Exc → Sto → Prop
abbrev ME := Lc → Sto → QV → QX → Prop
abbrev MT := Lc → Sto → (Bool → Sto → Prop) → QX → Prop
abbrev MA := Lc → Sto → (List Val → Sto → Prop) → QX → Prop
abbrev FnM := List Val → Sto → QV → QX → Prop
def ExR (F : Cf) (H : Hp) (x : Exc) (cls : Value) (d : Option Addr) : Prop := cls = .ref (F.cA x.c) ∧ match x.f with
  | none => d = none
  | some (f, n) => ∃ dd, d = some dd ∧ H dd = some (.xd [(f.s, .int n)])
/-- what is wanted of an error -/
def KX (F : Cf) (W : WX) (A0 : Av) (ω : Om) (H : Hp) (σ : Lc) (σv : L2.St) (Em : QX) : Prop :=
  ∀ x ω' H' cls d, Em x ω'.μ → Stp ω H ω' H' → At F A0 ω' H' σ σv → ExR F H' x cls d → W cls d σv H'
def denE (F : Cf) (W : WX) (m : ME) : TE := fun σv H Q => ∃ A0 ω σ Qm Em, At F A0 ω H σ σv ∧ m σ ω.μ Qm Em ∧
  (∀ v ω' H' u, Qm v ω'.μ → Stp ω H ω' H' → At F A0 ω' H' σ σv → RelV F (AO A0 σ σv) ω' H' v u → Q u H') ∧ KX F W A0 ω H σ σv Em
def denT (F : Cf) (W : WX) (m : MT) : TT := fun σv H Q => ∃ A0 ω σ Qm Em, At F A0 ω H σ σv ∧ m σ ω.μ Qm Em ∧
  (∀ b ω' H', Qm b ω'.μ → Stp ω H ω' H' → At F A0 ω' H' σ σv → Q b H') ∧ KX F W A0 ω H σ σv Em
def denA (F : Cf) (W : WX) (m : MA) : TA := fun σv H Q => ∃ A0 ω σ Qm Em, At F A0 ω H σ σv ∧ m σ ω.μ Qm Em ∧
  (∀ vs ω' H' us, Qm vs ω'.μ → Stp ω H ω' H' → At F A0 ω' H' σ σv → RelVs F (AO A0 σ σv) ω' H' vs us → Q us H') ∧ KX F W A0 ω H σ σv Em
/-- a new list: its items, its place; it is nobody's yet -/
def denL (F : Cf) (W : WX) (m : MA) : TE := fun σv H Q => ∃ A0 ω σ Qm Em, At F A0 ω H σ σv ∧ m σ ω.μ Qm Em ∧
  (∀ vs ω' H' us p, Qm vs ω'.μ → Stp ω H ω' H' → At F A0 ω' H' σ σv → RelVs F (AO A0 σ σv) ω' H' vs us → H' p = none → Q (.ref p) (upd H' p (.lst us))) ∧ KX F W A0 ω H σ σv Em
abbrev IE (X : Cx) (F : Cf) (W : WX) (e : Expr) (m : ME) : Prop := PE X e (denE F W m)
abbrev IT (X : Cx) (F : Cf) (W : WX) (e : Expr) (m : MT) : Prop := PT X e (denT F W m)
abbrev IA (X : Cx) (F : Cf) (W : WX) (es : List Expr) (m : MA) : Prop := PA X es (denA F W m)
abbrev IL (X : Cx) (F : Cf) (W : WX) (e : Expr) (m : MA) : Prop := PE X e (denL F W m)
theorem _root_.L2.PE.imp {X : Cx} {e : Expr} {t t' : TE} (h : PE X e t) (i : ∀ σ H Q, t' σ H Q → t σ H Q) : PE X e t' := ⟨fun pins s σ H Q I q => h.run pins s σ H Q I (i σ H Q q)⟩
theorem _root_.L2.PT.imp {X : Cx} {e : Expr} {t t' : TT} (h : PT X e t) (i : ∀ σ H Q, t' σ H Q → t σ H Q) : PT X e t' := ⟨fun pins s σ H Q I q => h.run pins s σ H Q I (i σ H Q q)⟩
theorem _root_.L2.PW.imp {X : Cx} {e : Expr} {t t' : TT} (h : PW X e t) (i : ∀ σ H Q, t' σ H Q → t σ H Q) : PW X e t' := ⟨fun wh pins s σ H Q I q => h.run wh pins s σ H Q I (i σ H Q q)⟩
theorem _root_.L2.PA.imp {X : Cx} {e : List Expr} {t t' : TA} (h : PA X e t) (i : ∀ σ H Q, t' σ H Q → t σ H Q) : PA X e t' := ⟨fun pos pins s σ H Q I q => h.run pos pins s σ H Q I (i σ H Q q)⟩
theorem _root_.L2.PS.imp {X : Cx} {e : Stmt} {t t' : TS} (h : PS X e t) (i : ∀ D σ H, t' D σ H → t D σ H) : PS X e t' := ⟨fun pins s σ H Q I q => h.run pins s σ H Q I (i Q σ H q)⟩
theorem _root_.L2.PSs.imp {X : Cx} {e : List Stmt} {t t' : TS} (h : PSs X e t) (i : ∀ D σ H, t' D σ H → t D σ H) : PSs X e t' := ⟨fun pins s σ H Q I q => h.run pins s σ H Q I (i Q σ H q)⟩
section
variable {X : Cx} {F : Cf} {W : WX} {A A0 : Av} {ω ω' : Om} {H H' : Hp} {σ : Lc} {σv : L2.St} {Em : QX} {a b c e : Expr} {es : List Expr} {ma mb mc me : ME} {ta tb : MT} {mas : MA} {pos : Pos}
theorem KX.step (k : KX F W A0 ω H σ σv Em) (s : Stp ω H ω' H') : KX F W A0 ω' H' σ σv Em := fun x ω2 H2 cls d e s2 a r => k x ω2 H2 cls d e (s.trans s2) a r
theorem deE {Q : VK} {Qm : QV} (a0 : At F A0 ω H σ σv) (h : ma σ ω.μ Qm Em) (kx : KX F W A0 ω H σ σv Em) (k : ∀ v ω' H' u, Qm v ω'.μ → Stp ω H ω' H' → At F A0 ω' H' σ σv → RelV F (AO A0 σ σv) ω' H' v u → Q u H') : denE F W ma σv H Q := ⟨A0, ω, σ, Qm, Em, a0, h, k, kx⟩
theorem deT {Q : Bool → Hp → Prop} {Qm : Bool → Sto → Prop} (a0 : At F A0 ω H σ σv) (h : ta σ ω.μ Qm Em) (kx : KX F W A0 ω H σ σv Em) (k : ∀ b ω' H', Qm b ω'.μ → Stp ω H ω' H' → At F A0 ω' H' σ σv → Q b H') : denT F W ta σv H Q := ⟨A0, ω, σ, Qm, Em, a0, h, k, kx⟩
theorem deA {Q : List V → Hp → Prop} {Qm : List Val → Sto → Prop} (a0 : At F A0 ω H σ σv) (h : mas σ ω.μ Qm Em) (kx : KX F W A0 ω H σ σv Em) (k : ∀ vs ω' H' us, Qm vs ω'.μ → Stp ω H ω' H' → At F A0 ω' H' σ σv → RelVs F (AO A0 σ σv) ω' H' vs us → Q us H') : denA F W mas σv H Q := ⟨A0, ω, σ, Qm, Em, a0, h, k, kx⟩
theorem deL {Q : VK} {Qm : List Val → Sto → Prop} (a0 : At F A0 ω H σ σv) (h : mas σ ω.μ Qm Em) (kx : KX F W A0 ω H σ σv Em) (k : ∀ vs ω' H' us p, Qm vs ω'.μ → Stp ω H ω' H' → At F A0 ω' H' σ σv → RelVs F (AO A0 σ σv) ω' H' vs us → H' p = none → Q (.ref p) (upd H' p (.lst us))) : denL F W mas σv H Q := ⟨A0, ω, σ, Qm, Em, a0, h, k, kx⟩

/-! ### names, constants -/
def mVar (i : Nat) : ME := fun σ μ Q _ => match σ[i]? with
  | some (.val v) => Q v μ
  | _ => False
theorem ie_var {i : Nat} (h : PE X e (tVar i)) : IE X F W e (mVar i) := h.imp fun σv H Q ⟨A0, ω, σ, Qm, Em, a0, h, k, kx⟩ => by
  unfold mVar at h
  cases q : σ[i]? with
  | none => rw [q] at h; exact h.elim
  | some s =>
    rw [q] at h
    cases s with
    | val v =>
      obtain ⟨u, h1, h2⟩ := a0.val q
      exact ⟨u, h1, k v ω H u h .refl a0 h2⟩
    | no => exact h.elim
    | own _ => exact h.elim
    | ownP _ => exact h.elim
def mC (v : Val) : ME := fun _ μ Q _ => Q v μ
theorem ie_cst {v : Val} {u : V} (h : PE X e (tC u)) (hv : ∀ A ω H, RelV F A ω H v u) : IE X F W e (mC v) := h.imp fun σv H Q ⟨A0, ω, σ, Qm, Em, a0, h, k, kx⟩ => k v ω H u h .refl a0 (hv _ _ _)
theorem ie_int {i : Int} {j : Nat} : IE X F W (.Constant (.int i) j pos) (mC (.int i)) := ie_cst pe_int fun _ _ _ => rv_int.mpr rfl
theorem ie_bl {i : Bool} {j : Nat} : IE X F W (.Constant (.bool i) j pos) (mC (.bl i)) := ie_cst pe_bl fun _ _ _ => rv_bl.mpr rfl
theorem ie_non {j : Nat} : IE X F W (.Constant .none j pos) (mC .non) := ie_cst pe_non fun _ _ _ => rv_non.mpr rfl
theorem ie_str {x : Str} {l : List Nat} {j : Nat} (h : x.cps.toList = l) (hl : SOk l := by exact ⟨by decide, by decide⟩) : IE X F W (.Constant (.str x) j pos) (mC (.str l)) := ie_cst pe_str fun _ _ _ => rv_str.mpr ⟨by rw [← h, S_tl], hl⟩
/-- a number, a text of the module -/
theorem ie_globI {x : Str} {i : Int} {t : Tok} (hg : Gl X x) (hm : X.mg x = some (.int i t)) (hd : (x == ("__debug__" : Str)) = false := by decide) : IE X F W (.Name x pos) (mC (.int i)) := ie_cst (u := .int i) (pe_glob hg hm ⟨t, rfl⟩ hd) fun _ _ _ => rv_int.mpr rfl

/-! ### operators -/
abbrev O2 := Val → Val → Sto → QV → Prop
def OpS (F : Cf) (r : R2) (o : O2) : Prop := ∀ (A : Av) (ω : Om) (H : Hp) (x y : Val) (u w : V) (Qm : QV) (Q : VK), Rel F A ω H → RelV F A ω H x u → RelV F A ω H y w → o x y ω.μ Qm →
  (∀ v ω' H' u, Qm v ω'.μ → Stp ω H ω' H' → Rel F A ω' H' → RelV F A ω' H' v u → Q u H') → r u w H Q
def mOp (o : O2) (a b : ME) : ME := fun σ μ Q E => a σ μ (fun x μ1 => b σ μ1 (fun y μ2 => o x y μ2 Q) E) E
theorem two {r : R2} {o : O2} {Q : VK} (hs : OpS F r o) (h : denE F W (mOp o ma mb) σv H Q) : tOp r (denE F W ma) (denE F W mb) σv H Q := by
  obtain ⟨A0, ω, σ, Qm, Em, a0, h, k, kx⟩ := h
  exact deE a0 h kx fun x ω1 H1 u q1 s1 a1 r1 => deE a1 q1 (kx.step s1) fun y ω2 H2 w q2 s2 a2 r2 => hs _ ω2 H2 x y u w Qm Q a2.rel (r1.step a1.rel.off_of s2) r2 q2 fun v ω3 H3 z qv s3 r3 rv => k v ω3 H3 z qv (s1.trans (s2.trans s3)) (a2.step s3 r3) rv
theorem ie_op {op : Operator} {r : R2} {o : O2} (ho : OpR X (binaryOp op) r) (hs : OpS F r o) (ha : IE X F W a ma) (hb : IE X F W b mb) : IE X F W (.BinOp a op b pos) (mOp o ma mb) := (pe_op ho ha hb).imp fun _ _ _ h => two hs h
theorem ie_cmp {op : CmpOp} {r : R2} {o : O2} (ho : OpR X (compareOp op) r) (hs : OpS F r o) (ha : IE X F W a ma) (hb : IE X F W b mb) (hm : behindInMarks op b = false) : IE X F W (.Compare a [op] [b] pos) (mOp o ma mb) := (pe_cmpR ho ha hb hm).imp fun _ _ _ h => two hs h
def mB (m : ME) : MT := fun σ μ Q E => m σ μ (fun v μ1 => ∃ b, v = .bl b ∧ Q b μ1) E
theorem it_cmp {op : CmpOp} {r : R2} {o : O2} (ho : OpR X (compareOp op) r) (hs : OpS F r o) (ha : IE X F W a ma) (hb : IE X F W b mb) (hm : behindInMarks op b = false) : IT X F W (.Compare a [op] [b] pos) (mB (mOp o ma mb)) := (pt_cmpR ho ha hb hm).imp fun σv H Q ⟨A0, ω, σ, Qm, Em, a0, h, k, kx⟩ => by
  refine two hs ⟨A0, ω, σ, _, Em, a0, h, fun v ω' H' u q s a1 r => ?_, kx⟩
  obtain ⟨b, rfl, q⟩ := q
  exact ⟨b, rv_bl.mp r, k b ω' H' q s a1⟩
/-- a < b < c -/
def mCh (o o' : O2) (a b c : ME) : ME := fun σ μ Q E => a σ μ (fun x μ1 => b σ μ1 (fun y μ2 => o x y μ2 fun z μ3 => ∃ k, z = .bl k ∧ if k = true then c σ μ3 (fun w μ4 => o' y w μ4 Q) E else Q (.bl false) μ3) E) E
theorem ch {r r' : R2} {o o' : O2} {Q : VK} (hs : OpS F r o) (hs' : OpS F r' o') (h : denE F W (mCh o o' ma mb mc) σv H Q) : tChain r r' (denE F W ma) (denE F W mb) (denE F W mc) σv H Q := by
  obtain ⟨A0, ω, σ, Qm, Em, a0, h, k, kx⟩ := h
  refine deE a0 h kx fun x ω1 H1 u q1 s1 a1 r1 => deE a1 q1 (kx.step s1) fun y ω2 H2 w q2 s2 a2 r2 => hs _ ω2 H2 x y u w _ _ a2.rel (r1.step a1.rel.off_of s2) r2 q2 fun v ω3 H3 z qv s3 r3 rv => ?_
  obtain ⟨kk, rfl, qv⟩ := qv
  refine ⟨kk, rv_bl.mp rv, ?_⟩
  have a3 := a2.step s3 r3
  have s123 := s1.trans (s2.trans s3)
  cases kk with
  | true => exact iteT (deE a3 qv (kx.step s123) fun w' ω4 H4 u4 q4 s4 a4 r4 => hs' _ ω4 H4 y w' w u4 Qm Q a4.rel ((r2.step a2.rel.off_of s3).step r3.off_of s4) r4 q4 fun v ω5 H5 z5 qv s5 r5 rv5 => k v ω5 H5 z5 qv (s123.trans (s4.trans s5)) (a4.step s5 r5) rv5)
  | false => exact iteF (k _ ω3 H3 _ qv s123 a3 (rv_bl.mpr rfl))
theorem ie_ch {op op' : CmpOp} {r r' : R2} {o o' : O2} (ho : OpR X (compareOp op) r) (hs : OpS F r o) (ho' : OpR X (compareOp op') r') (hs' : OpS F r' o') (ha : IE X F W a ma) (hb : IE X F W b mb) (hc : IE X F W c mc) (hm : lastMarks [op, op'] [b, c] = false := by rfl) : IE X F W (.Compare a [op, op'] [b, c] pos) (mCh o o' ma mb mc) := (pe_chain ho ho' ha hb hc hm).imp fun _ _ _ h => ch hs hs' h
theorem it_ch {op op' : CmpOp} {r r' : R2} {o o' : O2} (ho : OpR X (compareOp op) r) (hs : OpS F r o) (ho' : OpR X (compareOp op') r') (hs' : OpS F r' o') (ha : IE X F W a ma) (hb : IE X F W b mb) (hc : IE X F W c mc) (hm : lastMarks [op, op'] [b, c] = false := by rfl) : IT X F W (.Compare a [op, op'] [b, c] pos) (mB (mCh o o' ma mb mc)) := (pt_chain ho ho' ha hb hc hm).imp fun σv H Q ⟨A0, ω, σ, Qm, Em, a0, h, k, kx⟩ => by
  refine ch hs hs' ⟨A0, ω, σ, _, Em, a0, h, fun v ω' H' u q s a1 r => ?_, kx⟩
  obtain ⟨b, rfl, q⟩ := q
  exact ⟨b, rv_bl.mp r, k b ω' H' q s a1⟩
def mUn (o : Val → Sto → QV → Prop) (a : ME) : ME := fun σ μ Q E => a σ μ (fun x μ1 => o x μ1 Q) E
def oNeg : Val → Sto → QV → Prop := fun x μ Q => match x with
  | .int i => Q (.int (-i)) μ
  | _ => False
theorem ie_neg (ha : IE X F W a ma) : IE X F W (.UnaryOp .USub a pos) (mUn oNeg ma) := (pe_un un_neg ha).imp fun σv H Q ⟨A0, ω, σ, Qm, Em, a0, h, k, kx⟩ => deE a0 h kx fun x ω1 H1 u q1 s1 a1 r1 => by
  cases x <;> first | exact False.elim q1 | skip
  exact ⟨_, rv_int.mp r1, k _ ω1 H1 _ q1 s1 a1 (rv_int.mpr rfl)⟩

/-! ### tests -/
theorem it_val (h : IE X F W e me) (he : ∀ whole, isTrue e X.env whole = (do let v ← whole; standAt e.pos; holding [v] (truthy v)) := by intro _; rfl) : IT X F W e (mB me) := (pt_val h he).imp fun σv H Q ⟨A0, ω, σ, Qm, Em, a0, h, k, kx⟩ => deE a0 h kx fun x ω1 H1 u q1 s1 a1 r1 => by
  obtain ⟨b, rfl, q⟩ := q1
  exact ⟨b, rv_bl.mp r1, k b ω1 H1 q s1 a1⟩
def mNotT (t : MT) : MT := fun σ μ Q E => t σ μ (fun b μ1 => Q (!b) μ1) E
theorem it_not (h : IT X F W a ta) : IT X F W (.UnaryOp .Not a pos) (mNotT ta) := (pt_not h).imp fun σv H Q ⟨A0, ω, σ, Qm, Em, a0, h, k, kx⟩ => deT a0 h kx fun b ω1 H1 q1 s1 a1 => k _ ω1 H1 q1 s1 a1
def mAndT (t u : MT) : MT := fun σ μ Q E => t σ μ (fun b μ1 => if b = true then u σ μ1 Q E else Q false μ1) E
def mOrT (t u : MT) : MT := fun σ μ Q E => t σ μ (fun b μ1 => if b = true then Q true μ1 else u σ μ1 Q E) E
abbrev IW (X : Cx) (F : Cf) (W : WX) (e : Expr) (m : MT) : Prop := PW X e (denT F W m)
theorem iw_and1 (h : IT X F W a ta) : IW X F W (.BoolOp .And [a] pos) ta := pw_and1 h
theorem iw_or1 (h : IT X F W a ta) : IW X F W (.BoolOp .Or [a] pos) ta := pw_or1 h
theorem iw_and (h : IT X F W a ta) (hr : IW X F W (.BoolOp .And (b :: es) pos) tb) : IW X F W (.BoolOp .And (a :: b :: es) pos) (mAndT ta tb) := (pw_and h hr).imp fun σv H Q ⟨A0, ω, σ, Qm, Em, a0, h, k, kx⟩ => deT a0 h kx fun b ω1 H1 q1 s1 a1 => by
  cases b with
  | true => exact iteT (deT a1 q1 (kx.step s1) fun b ω2 H2 q2 s2 a2 => k b ω2 H2 q2 (s1.trans s2) a2)
  | false => exact iteF (k false ω1 H1 q1 s1 a1)
theorem iw_or (h : IT X F W a ta) (hr : IW X F W (.BoolOp .Or (b :: es) pos) tb) : IW X F W (.BoolOp .Or (a :: b :: es) pos) (mOrT ta tb) := (pw_or h hr).imp fun σv H Q ⟨A0, ω, σ, Qm, Em, a0, h, k, kx⟩ => deT a0 h kx fun b ω1 H1 q1 s1 a1 => by
  cases b with
  | true => exact iteT (k true ω1 H1 q1 s1 a1)
  | false => exact iteF (deT a1 q1 (kx.step s1) fun b ω2 H2 q2 s2 a2 => k b ω2 H2 q2 (s1.trans s2) a2)
theorem it_w (h : IW X F W e ta) : IT X F W e ta := h.pt
/-- and, or, not as values: all but the last True or False -/
def mAnd (a b : ME) : ME := fun σ μ Q E => a σ μ (fun v μ1 => ∃ k, v = .bl k ∧ if k = true then b σ μ1 Q E else Q (.bl false) μ1) E
def mOr (a b : ME) : ME := fun σ μ Q E => a σ μ (fun v μ1 => ∃ k, v = .bl k ∧ if k = true then Q (.bl true) μ1 else b σ μ1 Q E) E
def mNot (a : ME) : ME := fun σ μ Q E => a σ μ (fun v μ1 => ∃ k, v = .bl k ∧ Q (.bl (!k)) μ1) E
theorem ie_one {op : BoolOp} (h : IE X F W a ma) : IE X F W (.BoolOp op [a] pos) ma := pe_one h
theorem ie_and (h : IE X F W a ma) (hr : IE X F W (.BoolOp .And (b :: es) pos) mb) : IE X F W (.BoolOp .And (a :: b :: es) pos) (mAnd ma mb) := (pe_and h hr).imp fun σv H Q ⟨A0, ω, σ, Qm, Em, a0, h, k, kx⟩ => deE a0 h kx fun x ω1 H1 u q1 s1 a1 r1 => by
  obtain ⟨b, rfl, q⟩ := q1
  refine ⟨b, rv_bl.mp r1, ?_⟩
  cases b with
  | true => exact iteT (deE a1 q (kx.step s1) fun v ω2 H2 u q2 s2 a2 r2 => k v ω2 H2 u q2 (s1.trans s2) a2 r2)
  | false => exact iteF (k _ ω1 H1 _ q s1 a1 (rv_bl.mpr rfl))
def mIfE (t : MT) (a b : ME) : ME := fun σ μ Q E => t σ μ (fun c μ1 => if c = true then a σ μ1 Q E else b σ μ1 Q E) E
theorem ie_if (hc : IT X F W c ta) (ha : IE X F W a ma) (hb : IE X F W b mb) : IE X F W (.IfExp c a b pos) (mIfE ta ma mb) := (pe_ifExp hc ha hb).imp fun σv H Q ⟨A0, ω, σ, Qm, Em, a0, h, k, kx⟩ => deT a0 h kx fun c ω1 H1 q1 s1 a1 => by
  cases c with
  | true => exact iteT (deE a1 q1 (kx.step s1) fun v ω2 H2 u q2 s2 a2 r2 => k v ω2 H2 u q2 (s1.trans s2) a2 r2)
  | false => exact iteF (deE a1 q1 (kx.step s1) fun v ω2 H2 u q2 s2 a2 r2 => k v ω2 H2 u q2 (s1.trans s2) a2 r2)

/-! ### arguments, tuples, lists -/
def aNil : MA := fun _ μ Q _ => Q [] μ
def aCons (a : ME) (r : MA) : MA := fun σ μ Q E => a σ μ (fun v μ1 => r σ μ1 (fun vs μ2 => Q (v :: vs) μ2) E) E
theorem ia_nil : IA X F W [] aNil := pa_nil.imp fun σv H Q ⟨A0, ω, σ, Qm, Em, a0, h, k, kx⟩ => k [] ω H [] h .refl a0 (rvs_nil.mpr rfl)
theorem ia_cons (ha : IE X F W e me) (hr : IA X F W es mas) (hs : starEach (e :: es) X.env = (false, eval e X.env) :: starEach es X.env := by rfl) : IA X F W (e :: es) (aCons me mas) := (pa_cons ha hr hs).imp fun σv H Q ⟨A0, ω, σ, Qm, Em, a0, h, k, kx⟩ =>
  deE a0 h kx fun x ω1 H1 u q1 s1 a1 r1 => deA a1 q1 (kx.step s1) fun vs ω2 H2 us q2 s2 a2 r2 => k _ ω2 H2 _ q2 (s1.trans s2) a2 (.cons (r1.step a1.rel.off_of s2) r2)
def lim : Nat := 1000000
theorem lim_le {n : Nat} (h : n ≤ lim) : n ≤ sizeLine := Nat.le_trans h (by decide)
theorem lim_lt {n : Nat} (h : n < lim) : n < sizeLine := Nat.lt_of_lt_of_le h (by decide)
def mTup (m : MA) : ME := fun σ μ Q E => m σ μ (fun vs μ1 => vs.length ≤ lim ∧ Q (.tup vs) μ1) E
def lDsp (m : MA) : MA := fun σ μ Q E => m σ μ (fun vs μ1 => vs.length ≤ lim ∧ Q vs μ1) E
theorem ie_tup {x1 : Nat} (h : IA X F W es mas) : IE X F W (.Tuple es x1 pos) (mTup mas) := (pe_tup h).imp fun σv H Q ⟨A0, ω, σ, Qm, Em, a0, h, k, kx⟩ => deA a0 h kx fun vs ω1 H1 us q1 s1 a1 r1 =>
  ⟨by rw [r1.len]; exact lim_le q1.1, fun p hp => k _ ω1 _ _ q1.2 (s1.trans (.fresh hp)) (a1.step (.fresh hp) (a1.rel.fresh hp)) (rv_tup.mpr ⟨p, us, rfl, upd_same, r1.step a1.rel.off_of (.fresh hp)⟩)⟩
theorem il_lst (h : IA X F W es mas) : IL X F W (.List es pos) (lDsp mas) := (pe_lst h).imp fun σv H Q ⟨A0, ω, σ, Qm, Em, a0, h, k, kx⟩ => deA a0 h kx fun vs ω1 H1 us q1 s1 a1 r1 =>
  ⟨by rw [r1.len]; exact lim_le q1.1, fun p hp => k _ ω1 H1 us p q1.2 s1 a1 r1 hp⟩
/-- a list that isn't changed any more; a list that may be changed -/
def mFrz (m : MA) : ME := fun σ μ Q E => m σ μ (fun vs μ1 => Q (.lst vs) μ1) E
def mNew (m : MA) : ME := fun σ μ Q E => m σ μ (fun vs μ1 => Q (.ref μ1.n) (μ1.new (.lst vs))) E
theorem frz_imp {Q : VK} (hd : denE F W (mFrz mas) σv H Q) : denL F W mas σv H Q := by
  obtain ⟨A0, ω, σ, Qm, Em, a0, h, k, kx⟩ := hd
  exact deL a0 h kx fun vs ω1 H1 us p q1 s1 a1 r1 hp =>
  k _ ω1 _ _ q1 (s1.trans (.fresh hp)) (a1.step (.fresh hp) (a1.rel.fresh hp)) (rv_lst.mpr ⟨p, us, rfl, upd_same, ⟨a1.rel.notA hp, a1.rel.off_none hp⟩, r1.step a1.rel.off_of (.fresh hp)⟩)
theorem ie_frz (h : IL X F W e mas) : IE X F W e (mFrz mas) := h.imp fun _ _ _ q => frz_imp q
theorem new_imp {Q : VK} (hd : denE F W (mNew mas) σv H Q) : denL F W mas σv H Q := by
  obtain ⟨A0, ω, σ, Qm, Em, a0, h, k, kx⟩ := hd
  refine deL a0 h kx fun vs ω1 H1 us p q1 s1 a1 r1 hp => ?_
  have st : Stp ω1 H1 (ω1.new p (.lst vs)) (upd H1 p (.lst us)) := .new a1.rel hp
  exact k _ (ω1.new p (.lst vs)) _ _ q1 (s1.trans st) (a1.step st (a1.rel.new hp ⟨us, upd_same, r1.step a1.rel.off_of st⟩)) (rv_ref.mpr ⟨Nat.lt_succ_self _, by show _ = V.ref (if _ then _ else _); rw [if_pos rfl]⟩)
theorem ie_new (h : IL X F W e mas) : IE X F W e (mNew mas) := h.imp fun _ _ _ q => new_imp q
end
end MW

set_option Elab.async false
set_option linter.all false
set_option maxRecDepth 100000
namespace MW
open PySem PySem.Spec PyProof.Rows L2 Evl SX HW
section
variable {X : Cx} {F : Cf} {A : Av} {ω : Om} {H : Hp} {v : Val} {u : V} {vs : List Val} {l l' : List Nat}
/-! ### views of values -/
/-- as a list -/
def seqL (μ : Sto) : Val → Option (List Val)
  | .lst vs => some vs
  | .ref a => match μ.o a with
    | some (.lst vs) => some vs
    | _ => none
  | _ => none
theorem seqL_rel (r : Rel F A ω H) (h : RelV F A ω H v u) (e : seqL ω.μ v = some vs) : ∃ p ws, u = .ref p ∧ H p = some (.lst ws) ∧ RelVs F A ω H vs ws := by
  cases v with
  | lst xs =>
    cases e
    obtain ⟨p, ws, h1, h2, _, h3⟩ := rv_lst.mp h
    exact ⟨p, ws, h1, h2, h3⟩
  | ref a =>
    obtain ⟨h1, rfl⟩ := rv_ref.mp h
    simp only [seqL] at e
    cases q : ω.μ.o a with
    | none => rw [q] at e; cases e
    | some o =>
      rw [q] at e
      cases o with
      | lst xs =>
        cases e
        obtain ⟨ws, k1, k2⟩ := (r.ob a _ q).2.2
        exact ⟨_, ws, rfl, k1, k2⟩
      | dic _ => cases e
      | ins _ _ => cases e
      | fdic _ _ => cases e
  | non => cases e
  | bl _ => cases e
  | int _ => cases e
  | str _ => cases e
  | tup _ => cases e
  | scr _ => cases e
  | pmp _ => cases e
/-- as a dict -/
def seqD (μ : Sto) : Val → Option (Nat × List (Ky × Val))
  | .ref a => match μ.o a with
    | some (.dic kvs) => some (a, kvs)
    | _ => none
  | _ => none
theorem seqD_is {a : Nat} {kvs : List (Ky × Val)} {μ : Sto} (e : seqD μ v = some (a, kvs)) : v = .ref a ∧ μ.o a = some (.dic kvs) := by
  cases v with
  | ref b =>
    simp only [seqD] at e
    cases q : μ.o b with
    | none => rw [q] at e; cases e
    | some o =>
      rw [q] at e
      cases o with
      | dic xs => cases e; exact ⟨rfl, q⟩
      | lst _ => cases e
      | ins _ _ => cases e
      | fdic _ _ => cases e
  | non => cases e
  | bl _ => cases e
  | int _ => cases e
  | str _ => cases e
  | tup _ => cases e
  | lst _ => cases e
  | scr _ => cases e
  | pmp _ => cases e
/-- as an instance -/
def seqI (μ : Sto) : Val → Option (Nat × Cl × List (Fd × Val))
  | .ref a => match μ.o a with
    | some (.ins c fs) => some (a, c, fs)
    | _ => none
  | _ => none
theorem seqI_is {a : Nat} {c : Cl} {fs : List (Fd × Val)} {μ : Sto} (e : seqI μ v = some (a, c, fs)) : v = .ref a ∧ μ.o a = some (.ins c fs) := by
  cases v with
  | ref b =>
    simp only [seqI] at e
    cases q : μ.o b with
    | none => rw [q] at e; cases e
    | some o =>
      rw [q] at e
      cases o with
      | ins c fs => cases e; exact ⟨rfl, q⟩
      | lst _ => cases e
      | dic _ => cases e
      | fdic _ _ => cases e
  | non => cases e
  | bl _ => cases e
  | int _ => cases e
  | str _ => cases e
  | tup _ => cases e
  | lst _ => cases e
  | scr _ => cases e
  | pmp _ => cases e

/-! ### texts -/
theorem SOk.app (h : SOk l) (h' : SOk l') (hl : l.length + l'.length ≤ strLim) : SOk (l ++ l') := ⟨by rw [List.length_append]; exact hl, by rw [List.all_append, h.2, h'.2]; rfl⟩
theorem SOk.sub (h : SOk l) (hl : l'.length ≤ l.length) (hs : ∀ c ∈ l', c ∈ l) : SOk l' := ⟨Nat.le_trans hl h.1, List.all_eq_true.mpr fun c hc => List.all_eq_true.mp h.2 c (hs c hc)⟩
theorem SOk.take (h : SOk l) (n : Nat) : SOk (l.take n) := h.sub (by rw [List.length_take]; omega) fun c hc => List.mem_of_mem_take hc
theorem SOk.drop (h : SOk l) (n : Nat) : SOk (l.drop n) := h.sub (by rw [List.length_drop]; omega) fun c hc => List.mem_of_mem_drop hc
theorem SOk.one (h : SOk l) {c : Nat} (hc : c ∈ l) : SOk [c] := ⟨(by decide : 1 ≤ strLim), List.all_eq_true.mpr fun d hd => by rw [List.mem_singleton.mp hd]; exact List.all_eq_true.mp h.2 c hc⟩
theorem SOk.le (h : SOk l) : l.length ≤ sizeLine := Nat.le_trans h.1 (by decide)
theorem SOk.lay (h : SOk l) : PyData.strOk (S l) = true := by
  unfold PyData.strOk
  rw [← Array.all_toList]
  exact h.2
theorem S_app (a b : List Nat) : S a ++ S b = S (a ++ b) := by
  show (⟨_⟩ : Str) = ⟨_⟩
  congr 1
  exact (List.append_toArray a b)

/-! ### data, for == -/
mutual
def deep (μ : Sto) : Nat → Val → Option PyData
  | _, .non => some .none
  | _, .bl b => some (.bool b)
  | _, .int i => some (.int i)
  | _, .str l => some (.str (S l))
  | 0, _ => none
  | n + 1, .tup vs => (deeps μ n vs).map .tuple
  | n + 1, .lst vs => (deeps μ n vs).map .list
  | n + 1, .ref a => match μ.o a with
    | some (.lst vs) => (deeps μ n vs).map .list
    | _ => none
  | _, .scr _ => none
  | _, .pmp _ => none
def deeps (μ : Sto) : Nat → List Val → Option (List PyData)
  | _, [] => some []
  | n, v :: vs => match deep μ n v with
    | none => none
    | some d => match deeps μ n vs with
      | none => none
      | some ds => some (d :: ds)
end
mutual
theorem deep_rel {F : Cf} {A : Av} {ω : Om} {H : Hp} (r : Rel F A ω H) : ∀ {n : Nat} {v : Val} {u : V} {d : PyData}, RelV F A ω H v u → deep ω.μ n v = some d → Dp F.K H u d ∧ d.canLay0 = true ∧ d.depth ≤ n
  | n, .non, u, d, h, e => by
    rw [deep.eq_def] at e
    cases e
    rw [rv_non.mp h]
    exact ⟨.non, rfl, Nat.zero_le _⟩
  | n, .bl b, u, d, h, e => by
    rw [deep.eq_def] at e
    cases e
    rw [rv_bl.mp h]
    exact ⟨.bl b, rfl, Nat.zero_le _⟩
  | n, .int b, u, d, h, e => by
    rw [deep.eq_def] at e
    cases e
    rw [rv_int.mp h]
    exact ⟨.int b, rfl, Nat.zero_le _⟩
  | n, .str b, u, d, h, e => by
    rw [deep.eq_def] at e
    cases e
    rw [(rv_str.mp h).1]
    exact ⟨.str _, (rv_str.mp h).2.lay, Nat.zero_le _⟩
  | 0, .tup vs, u, d, h, e => by rw [deep.eq_def] at e; cases e
  | 0, .lst vs, u, d, h, e => by rw [deep.eq_def] at e; cases e
  | 0, .ref a, u, d, h, e => by rw [deep.eq_def] at e; cases e
  | n, .scr ns, u, d, h, e => by cases n <;> (rw [deep.eq_def] at e; cases e)
  | n, .pmp ns, u, d, h, e => by cases n <;> (rw [deep.eq_def] at e; cases e)
  | n + 1, .tup vs, u, d, h, e => by
    rw [deep.eq_def] at e
    obtain ⟨ds, e1, rfl⟩ := Option.map_eq_some_iff.mp e
    obtain ⟨p, ws, rfl, h2, h3⟩ := rv_tup.mp h
    obtain ⟨k1, k2, k3⟩ := deeps_rel r h3 e1
    exact ⟨.tup (st_of h2) k1, k2, Nat.succ_le_succ k3⟩
  | n + 1, .lst vs, u, d, h, e => by
    rw [deep.eq_def] at e
    obtain ⟨ds, e1, rfl⟩ := Option.map_eq_some_iff.mp e
    obtain ⟨p, ws, rfl, h2, _, h3⟩ := rv_lst.mp h
    obtain ⟨k1, k2, k3⟩ := deeps_rel r h3 e1
    exact ⟨.lst (sq_of h2) k1, k2, Nat.succ_le_succ k3⟩
  | n + 1, .ref a, u, d, h, e => by
    obtain ⟨h1, rfl⟩ := rv_ref.mp h
    rw [deep.eq_def] at e
    cases q : ω.μ.o a with
    | none => simp only [q] at e; cases e
    | some o =>
      simp only [q] at e
      cases o with
      | lst vs =>
        obtain ⟨ds, e1, rfl⟩ := Option.map_eq_some_iff.mp e
        obtain ⟨ws, h2, h3⟩ := (r.ob a _ q).2.2
        obtain ⟨k1, k2, k3⟩ := deeps_rel r h3 e1
        exact ⟨.lst (sq_of h2) k1, k2, Nat.succ_le_succ k3⟩
      | dic _ => cases e
      | ins _ _ => cases e
      | fdic _ _ => cases e
theorem deeps_rel {F : Cf} {A : Av} {ω : Om} {H : Hp} (r : Rel F A ω H) : ∀ {n : Nat} {vs : List Val} {us : List V} {ds : List PyData}, RelVs F A ω H vs us → deeps ω.μ n vs = some ds → DpAll F.K H us ds ∧ PyData.canLayAll0 ds = true ∧ PyData.depthAll ds ≤ n
  | n, [], us, ds, h, e => by
    rw [deeps.eq_def] at e
    cases e
    rw [rvs_nil.mp h]
    exact ⟨.nil, rfl, Nat.zero_le _⟩
  | n, v :: vs, us, ds, h, e => by
    rw [deeps.eq_def] at e
    obtain ⟨u, rs, rfl, h2, h3⟩ := rvs_cons.mp h
    cases e1 : deep ω.μ n v with
    | none => simp only [e1] at e; cases e
    | some d =>
      cases e2 : deeps ω.μ n vs with
      | none => simp only [e1, e2] at e; cases e
      | some ds' =>
        simp only [e1, e2] at e
        cases e
        obtain ⟨k1, k2, k3⟩ := deep_rel r h2 e1
        obtain ⟨l1, l2, l3⟩ := deeps_rel r h3 e2
        exact ⟨.cons k1 l1, by rw [PyData.canLayAll0, k2, l2]; rfl, by rw [PyData.depthAll]; exact Nat.max_le.mpr ⟨k3, l3⟩⟩
end
theorem shaped_of {d : PyData} {n : Nat} (h : d.canLay0 = true) (hd : d.depth ≤ n) (hn : n ≤ 64) : SeqAt.shaped d = true := by
  unfold SeqAt.shaped
  rw [h, decide_eq_true (Nat.le_trans hd hn)]
  rfl
end
section
variable {X : Cx} {F : Cf} {r r' : R2} {o o' : O2} {f : Value → Value → Sem Value}
/-! ### operators -/
theorem OpR.or (h : OpR X f r) (h' : OpR X f r') : OpR X f (fun x y H Q => r x y H Q ∨ r' x y H Q) := fun pins s σ H x y v u Q I rx ry q => by
  rcases q with q | q
  · exact h pins s σ H x y v u Q I rx ry q
  · exact h' pins s σ H x y v u Q I rx ry q
def oInt (g : Int → Int → Val) (C : Int → Int → Prop) : O2 := fun x y μ Q => match x, y with
  | .int i, .int j => C i j ∧ Q (g i j) μ
  | _, _ => False
theorem oInt_is {g : Int → Int → Val} {C : Int → Int → Prop} {x y : Val} {μ : Sto} {Q : QV} (h : oInt g C x y μ Q) : ∃ i j, x = .int i ∧ y = .int j ∧ C i j ∧ Q (g i j) μ := by
  unfold oInt at h
  split at h
  · exact ⟨_, _, rfl, rfl, h⟩
  · exact h.elim
theorem os_int {g : Int → Int → Val} {gv : Int → Int → V} {C : Int → Int → Prop} (hg : ∀ A ω H i j, RelV F A ω H (g i j) (gv i j)) : OpS F (rI C gv) (oInt g C) := fun A ω H x y u w Qm Q r rx ry h k => by
  obtain ⟨i, j, rfl, rfl, hc, q⟩ := oInt_is h
  exact ⟨i, j, rv_int.mp rx, rv_int.mp ry, hc, k _ ω H _ q .refl r (hg _ _ _ i j)⟩
theorem os_int0 {g : Int → Int → Val} {gv : Int → Int → V} (hg : ∀ A ω H i j, RelV F A ω H (g i j) (gv i j)) : OpS F (rI0 gv) (oInt g fun _ _ => True) := fun A ω H x y u w Qm Q r rx ry h k => by
  obtain ⟨i, j, rfl, rfl, hc, q⟩ := oInt_is h
  exact ⟨i, j, rv_int.mp rx, rv_int.mp ry, k _ ω H _ q .refl r (hg _ _ _ i j)⟩
def oSub : O2 := oInt (fun i j => .int (i - j)) fun _ _ => True
def oMod : O2 := oInt (fun i j => .int (i.fmod j)) fun _ j => j ≠ 0
def oDiv : O2 := oInt (fun i j => .int (i / j)) CDivW
def oPow : O2 := oInt (fun i j => .int (i ^ j.toNat)) CPow
theorem os_sub : OpS F (rI0 fun i j => .int (i - j)) oSub := os_int0 fun _ _ _ _ _ => rv_int.mpr rfl
theorem os_mod : OpS F (rI (fun _ j => j ≠ 0) fun i j => .int (i.fmod j)) oMod := os_int fun _ _ _ _ _ => rv_int.mpr rfl
theorem os_div : OpS F (rI CDivW fun i j => .int (i / j)) oDiv := os_int fun _ _ _ _ _ => rv_int.mpr rfl
theorem os_pow : OpS F (rI CPow fun i j => .int (i ^ j.toNat)) oPow := os_int fun _ _ _ _ _ => rv_int.mpr rfl
/-- + of numbers, texts; of lists: lAdd -/
def oAdd : O2 := fun x y μ Q => match x, y with
  | .int i, .int j => Q (.int (i + j)) μ
  | .str a, .str b => a.length + b.length ≤ strLim ∧ Q (.str (a ++ b)) μ
  | _, _ => False
def rAddA : R2 := fun x y H Q => rI0 (fun i j => .int (i + j)) x y H Q ∨ ∃ i j, x = .str i ∧ y = .str j ∧ i.length + j.length ≤ sizeLine ∧ Q (.str (i ++ j)) H
theorem op_addA : OpR X (binaryOp .Add) rAddA := OpR.or op_add op_add_str
theorem os_add : OpS F rAddA oAdd := fun A ω H x y u w Qm Q r rx ry h k => by
  unfold oAdd at h
  split at h
  · exact .inl ⟨_, _, rv_int.mp rx, rv_int.mp ry, k _ ω H _ h .refl r (rv_int.mpr rfl)⟩
  · rename_i a b
    obtain ⟨rfl, k1⟩ := rv_str.mp rx
    obtain ⟨rfl, k2⟩ := rv_str.mp ry
    refine .inr ⟨_, _, rfl, rfl, by rw [S_len, S_len]; exact Nat.le_trans h.1 (by decide), ?_⟩
    rw [S_app]
    exact k _ ω H _ h.2 .refl r (rv_str.mpr ⟨rfl, k1.app k2 h.1⟩)
  · exact h.elim
/-- * of numbers, of a text and a number -/
def oMul : O2 := fun x y μ Q => match x, y with
  | .int i, .int j => CMul i j ∧ Q (.int (i * j)) μ
  | .str a, .int n => (0 ≤ n ∧ n ≤ 1000 ∧ a.length ≤ 1000) ∧ Q (.str (List.replicate n.toNat a).flatten) μ
  | _, _ => False
def rMulA : R2 := fun x y H Q => rI CMul (fun i j => .int (i * j)) x y H Q ∨ rMulS x y H Q
theorem op_mulA : OpR X (binaryOp .Mult) rMulA := OpR.or op_mul op_mulS
def oLt : O2 := fun x y μ Q => match x, y with
  | .int i, .int j => Q (.bl (decide (i < j))) μ
  | .str a, .str b => Q (.bl (decide (a < b))) μ
  | _, _ => False
def oLe : O2 := fun x y μ Q => match x, y with
  | .int i, .int j => Q (.bl (decide (i ≤ j))) μ
  | .str a, .str b => Q (.bl (!decide (b < a))) μ
  | _, _ => False
def oGt : O2 := fun x y μ Q => match x, y with
  | .int i, .int j => Q (.bl (decide (j < i))) μ
  | .str a, .str b => Q (.bl (decide (b < a))) μ
  | _, _ => False
def oGe : O2 := fun x y μ Q => match x, y with
  | .int i, .int j => Q (.bl (decide (j ≤ i))) μ
  | .str a, .str b => Q (.bl (!decide (a < b))) μ
  | _, _ => False
theorem os_cmp {g : Int → Int → Bool} {gs : List Nat → List Nat → Bool} {o : O2} (hi : ∀ i j μ Q, o (.int i) (.int j) μ Q → Q (.bl (g i j)) μ) (hs : ∀ a b μ Q, o (.str a) (.str b) μ Q → Q (.bl (gs a b)) μ)
    (ho : ∀ x y μ Q, o x y μ Q → (∃ i j, x = .int i ∧ y = .int j) ∨ ∃ a b, x = .str a ∧ y = .str b) :
    OpS F (fun x y H Q => rI0 (fun i j => .bl (g i j)) x y H Q ∨ ∃ i j : Str, x = .str i ∧ y = .str j ∧ Q (.bl (gs i.cps.toList j.cps.toList)) H) o := fun A ω H x y u w Qm Q r rx ry h k => by
  rcases ho x y _ _ h with ⟨i, j, rfl, rfl⟩ | ⟨a, b, rfl, rfl⟩
  · exact .inl ⟨_, _, rv_int.mp rx, rv_int.mp ry, k _ ω H _ (hi _ _ _ _ h) .refl r (rv_bl.mpr rfl)⟩
  · exact .inr ⟨_, _, (rv_str.mp rx).1, (rv_str.mp ry).1, k _ ω H _ (hs _ _ _ _ h) .refl r (rv_bl.mpr rfl)⟩
theorem op_ltA : OpR X (compareOp .Lt) (fun x y H Q => rI0 (fun i j => .bl (decide (i < j))) x y H Q ∨ ∃ i j : Str, x = .str i ∧ y = .str j ∧ Q (.bl (decide (i.cps.toList < j.cps.toList))) H) := OpR.or op_lt op_lt_str
theorem op_leA : OpR X (compareOp .LtE) (fun x y H Q => rI0 (fun i j => .bl (decide (i ≤ j))) x y H Q ∨ ∃ i j : Str, x = .str i ∧ y = .str j ∧ Q (.bl (!decide (j.cps.toList < i.cps.toList))) H) := OpR.or op_le op_le_str
theorem op_gtA : OpR X (compareOp .Gt) (fun x y H Q => rI0 (fun i j => .bl (decide (j < i))) x y H Q ∨ ∃ i j : Str, x = .str i ∧ y = .str j ∧ Q (.bl (decide (j.cps.toList < i.cps.toList))) H) := OpR.or op_gt op_gt_str
theorem op_geA : OpR X (compareOp .GtE) (fun x y H Q => rI0 (fun i j => .bl (decide (j ≤ i))) x y H Q ∨ ∃ i j : Str, x = .str i ∧ y = .str j ∧ Q (.bl (!decide (i.cps.toList < j.cps.toList))) H) := OpR.or op_ge op_ge_str
theorem os_lt : OpS F (fun x y H Q => rI0 (fun i j => .bl (decide (i < j))) x y H Q ∨ ∃ i j : Str, x = .str i ∧ y = .str j ∧ Q (.bl (decide (i.cps.toList < j.cps.toList))) H) oLt := os_cmp (g := fun i j => decide (i < j)) (gs := fun i j => decide (i < j)) (fun _ _ _ _ h => h) (fun _ _ _ _ h => h) fun x y μ Q h => by
  unfold oLt at h
  split at h
  · exact .inl ⟨_, _, rfl, rfl⟩
  · exact .inr ⟨_, _, rfl, rfl⟩
  · exact h.elim
theorem os_le : OpS F (fun x y H Q => rI0 (fun i j => .bl (decide (i ≤ j))) x y H Q ∨ ∃ i j : Str, x = .str i ∧ y = .str j ∧ Q (.bl (!decide (j.cps.toList < i.cps.toList))) H) oLe := os_cmp (g := fun i j => decide (i ≤ j)) (gs := fun i j => !decide (j < i)) (fun _ _ _ _ h => h) (fun _ _ _ _ h => h) fun x y μ Q h => by
  unfold oLe at h
  split at h
  · exact .inl ⟨_, _, rfl, rfl⟩
  · exact .inr ⟨_, _, rfl, rfl⟩
  · exact h.elim
theorem os_gt : OpS F (fun x y H Q => rI0 (fun i j => .bl (decide (j < i))) x y H Q ∨ ∃ i j : Str, x = .str i ∧ y = .str j ∧ Q (.bl (decide (j.cps.toList < i.cps.toList))) H) oGt := os_cmp (g := fun i j => decide (j < i)) (gs := fun i j => decide (j < i)) (fun _ _ _ _ h => h) (fun _ _ _ _ h => h) fun x y μ Q h => by
  unfold oGt at h
  split at h
  · exact .inl ⟨_, _, rfl, rfl⟩
  · exact .inr ⟨_, _, rfl, rfl⟩
  · exact h.elim
theorem os_ge : OpS F (fun x y H Q => rI0 (fun i j => .bl (decide (j ≤ i))) x y H Q ∨ ∃ i j : Str, x = .str i ∧ y = .str j ∧ Q (.bl (!decide (i.cps.toList < j.cps.toList))) H) oGe := os_cmp (g := fun i j => decide (j ≤ i)) (gs := fun i j => !decide (i < j)) (fun _ _ _ _ h => h) (fun _ _ _ _ h => h) fun x y μ Q h => by
  unfold oGe at h
  split at h
  · exact .inl ⟨_, _, rfl, rfl⟩
  · exact .inr ⟨_, _, rfl, rfl⟩
  · exact h.elim
/-- == -/
def oEq : O2 := fun x y μ Q => ∃ d e, deep μ 60 x = some d ∧ deep μ 60 y = some e ∧ Q (.bl (PyData.eqv d e)) μ
def oNe : O2 := fun x y μ Q => ∃ d e, deep μ 60 x = some d ∧ deep μ 60 y = some e ∧ Q (.bl (!PyData.eqv d e)) μ
theorem os_eq : OpS F (rEqD F.K) oEq := fun A ω H x y u w Qm Q r rx ry h k => by
  obtain ⟨d, e, h1, h2, q⟩ := h
  obtain ⟨k1, k2, k3⟩ := deep_rel r rx h1
  obtain ⟨l1, l2, l3⟩ := deep_rel r ry h2
  exact ⟨d, e, k1, l1, shaped_of k2 k3 (by decide), shaped_of l2 l3 (by decide), k _ ω H _ q .refl r (rv_bl.mpr rfl)⟩
theorem os_ne : OpS F (rNeD F.K) oNe := fun A ω H x y u w Qm Q r rx ry h k => by
  obtain ⟨d, e, h1, h2, q⟩ := h
  obtain ⟨k1, k2, k3⟩ := deep_rel r rx h1
  obtain ⟨l1, l2, l3⟩ := deep_rel r ry h2
  exact ⟨d, e, k1, l1, shaped_of k2 k3 (by decide), shaped_of l2 l3 (by decide), k _ ω H _ q .refl r (rv_bl.mpr rfl)⟩
/-- is None -/
def isNon : Val → Bool
  | .non => true
  | _ => false
def oIsN : O2 := fun x y μ Q => y = .non ∧ Q (.bl (isNon x)) μ
def oNotN : O2 := fun x y μ Q => y = .non ∧ Q (.bl (!isNon x)) μ
theorem isNon_rel {A : Av} {ω : Om} {H : Hp} {x : Val} {u : V} (h : RelV F A ω H x u) : decide (u = .non) = isNon x := by
  cases x with
  | non => rw [rv_non.mp h]; rfl
  | bl _ => rw [rv_bl.mp h]; rfl
  | int _ => rw [rv_int.mp h]; rfl
  | str _ => rw [(rv_str.mp h).1]; rfl
  | tup _ => obtain ⟨p, _, rfl, _⟩ := rv_tup.mp h; rfl
  | lst _ => obtain ⟨p, _, rfl, _⟩ := rv_lst.mp h; rfl
  | scr _ => obtain ⟨p, rfl, _⟩ := rv_scr.mp h; rfl
  | pmp _ => obtain ⟨p, rfl, _⟩ := rv_pmp.mp h; rfl
  | ref _ => obtain ⟨_, rfl⟩ := rv_ref.mp h; rfl
theorem os_isN : OpS F (fun x y H Q => y = .non ∧ Q (.bl (decide (x = .non))) H) oIsN := fun A ω H x y u w Qm Q r rx ry h k => by
  obtain ⟨rfl, q⟩ := h
  exact ⟨rv_non.mp ry, by rw [isNon_rel rx]; exact k _ ω H _ q .refl r (rv_bl.mpr rfl)⟩
end
end MW

set_option Elab.async false
set_option linter.all false
set_option maxRecDepth 100000
namespace MW
open PySem PySem.Spec PyProof.Rows L2 Evl SX HW
section
variable {X : Cx} {F : Cf} {A : Av} {ω : Om} {H : Hp} {W : WX}
theorem fold_rep {α : Type} (x : Array α) : ∀ (k : Nat) (acc : Array α), ((List.replicate k x).foldl (· ++ ·) acc).toList = acc.toList ++ (List.replicate k x.toList).flatten
  | 0, acc => by simp
  | k + 1, acc => by
    rw [List.replicate_succ, List.foldl_cons, fold_rep x k (acc ++ x), Array.toList_append, List.replicate_succ, List.flatten_cons, List.append_assoc]
theorem mul_G {l : List Nat} {n : Int} (h1 : 0 ≤ n) (h2 : n ≤ 1000) (hl : l.length ≤ 1000) : MulOk (S l) n ∧ Txt.mul (S l) n = S (List.replicate n.toNat l).flatten := by
  refine ⟨⟨?_, fun _ _ => ?_, fun _ _ => ?_⟩, ?_⟩
  · rw [decide_eq_false (by omega), decide_eq_false (by omega)]; rfl
  · rw [S_len]
    by_cases h0 : n = 0
    · omega
    have : (9223372036854775 : Int) ≤ (2 ^ 63 - 1) / n := by
      rw [Int.le_ediv_iff_mul_le (by omega)]
      omega
    omega
  · refine decide_eq_false fun z => ?_
    have h3 : l.length * n.toNat ≤ 1000 * 1000 := Nat.mul_le_mul hl (by omega)
    rw [S_len] at z
    have h4 : 1000 * 1000 ≤ sizeLine := by decide
    omega
  · unfold Txt.mul
    by_cases h0 : n = 0
    · subst h0
      rw [if_pos (by decide)]
      rfl
    rw [if_neg (by omega)]
    by_cases hc : (n == 1 || (S l).length == 0) = true
    · rw [if_pos hc]
      rw [Bool.or_eq_true] at hc
      rcases hc with hc | hc
      · have : n = 1 := eq_of_beq hc
        subst this
        simp
      · have : l = [] := by
          have h := eq_of_beq hc
          rw [S_len] at h
          exact List.length_eq_zero_iff.mp h
        subst this
        simp
    · rw [if_neg hc]
      refine TL.ext_tl ?_
      show ((List.replicate n.toNat l.toArray).foldl (· ++ ·) #[]).toList = _
      rw [fold_rep]
      simp
theorem os_mul : OpS F rMulA oMul := fun A ω H x y u w Qm Q r rx ry h k => by
  unfold oMul at h
  split at h
  · exact .inl ⟨_, _, rv_int.mp rx, rv_int.mp ry, h.1, k _ ω H _ h.2 .refl r (rv_int.mpr rfl)⟩
  · rename_i a n
    obtain ⟨rfl, k1⟩ := rv_str.mp rx
    obtain ⟨⟨h1, h2, h3⟩, h4⟩ := h
    obtain ⟨m1, m2⟩ := mul_G (l := a) h1 h2 h3
    refine .inr ⟨_, _, rfl, rv_int.mp ry, m1, ?_⟩
    rw [m2]
    refine k _ ω H _ h4 .refl r (rv_str.mpr ⟨rfl, ?_, ?_⟩)
    · rw [List.length_flatten, List.map_replicate, List.sum_replicate_nat]
      have : n.toNat * a.length ≤ 1000 * 1000 := Nat.mul_le_mul (by omega) h3
      exact this
    · refine List.all_eq_true.mpr fun c hc => ?_
      obtain ⟨l, h5, h6⟩ := List.mem_flatten.mp hc
      rw [List.eq_of_mem_replicate h5] at h6
      exact List.all_eq_true.mp k1.2 c h6
  · exact h.elim
/-! ### flat values, in -/
def flatSc : Val → Bool
  | .non => true | .bl _ => true | .int _ => true | .str _ => true | _ => false
def eqSc : Val → Val → Bool
  | .non, .non => true
  | .bl a, .bl b => a == b
  | .bl a, .int b => (if a then 1 else 0) == b
  | .int a, .bl b => a == (if b then 1 else 0)
  | .int a, .int b => a == b
  | .str a, .str b => a == b
  | _, _ => false
theorem S_beq (a b : List Nat) : (S a == S b) = (a == b) := by
  by_cases h : a = b
  · subst h; simp
  · have : S a ≠ S b := fun z => h (by have := congrArg (fun s : Str => s.cps.toList) z; simpa using this)
    rw [beq_eq_false_iff_ne.mpr this, beq_eq_false_iff_ne.mpr h]
theorem flat_rel {v : Val} {u : V} (h : RelV F A ω H v u) (f : flatSc v = true) : flatV u = true := by
  cases v <;> first | (cases f; done) | skip
  · rw [rv_non.mp h]; rfl
  · rw [rv_bl.mp h]; rfl
  · rw [rv_int.mp h]; rfl
  · rw [(rv_str.mp h).1]; rfl
theorem eqSc_rel {v v' : Val} {u u' : V} (h : RelV F A ω H v u) (h' : RelV F A ω H v' u') (f : flatSc v = true) (f' : flatSc v' = true) : eqV u u' = eqSc v v' := by
  cases v <;> first | (cases f; done) | skip
  all_goals cases v' <;> first | (cases f'; done) | skip
  all_goals first | rw [rv_non.mp h] | rw [rv_bl.mp h] | rw [rv_int.mp h] | rw [(rv_str.mp h).1]
  all_goals first | rw [rv_non.mp h'] | rw [rv_bl.mp h'] | rw [rv_int.mp h'] | rw [(rv_str.mp h').1]
  all_goals first | rfl | exact S_beq _ _
def inSc (x : Val) (ws : List Val) : Bool := ws.any fun y => eqSc y x
theorem inSc_rel {x : Val} {u : V} (h : RelV F A ω H x u) (f : flatSc x = true) : ∀ {ws : List Val} {us : List V}, RelVs F A ω H ws us → ws.all flatSc = true → inV u us = inSc x ws ∧ us.all flatV = true
  | [], _, hs, _ => by rw [rvs_nil.mp hs]; exact ⟨rfl, rfl⟩
  | w :: ws, _, hs, fs => by
    obtain ⟨z, r, rfl, h2, h3⟩ := rvs_cons.mp hs
    rw [List.all_cons, Bool.and_eq_true] at fs
    obtain ⟨k1, k2⟩ := inSc_rel h f h3 fs.2
    constructor
    · show (eqV z u || inV u r) = (eqSc w x || inSc x ws)
      rw [k1, eqSc_rel h2 h fs.1 f]
    · rw [List.all_cons, flat_rel h2 fs.1, k2]; rfl
/-- as a list or a tuple -/
def seqA (μ : Sto) : Val → Option (List Val)
  | .tup vs => some vs
  | v => seqL μ v
theorem seqA_rel {v : Val} {u : V} {vs : List Val} (r : Rel F A ω H) (h : RelV F A ω H v u) (e : seqA ω.μ v = some vs) : ∃ p ws, u = .ref p ∧ (SqL F.K H p ws ∨ SqT F.K H p ws) ∧ RelVs F A ω H vs ws := by
  cases v with
  | tup xs =>
    cases e
    obtain ⟨p, ws, h1, h2, h3⟩ := rv_tup.mp h
    exact ⟨p, ws, h1, .inr (st_of h2), h3⟩
  | _ =>
    obtain ⟨p, ws, h1, h2, h3⟩ := seqL_rel r h e
    exact ⟨p, ws, h1, .inl (sq_of h2), h3⟩
def subB (a b : List Nat) : Bool := !(Builtin.Str.occurrences (S b) (S a) 0 (S b).length 1).isEmpty
def oIn (neg : Bool) : O2 := fun x y μ Q => match x, y with
  | .str a, .str b => Q (.bl (if neg then !subB a b else subB a b)) μ
  | x, y => ∃ ws, seqA μ y = some ws ∧ flatSc x = true ∧ ws.all flatSc = true ∧ Q (.bl (if neg then !inSc x ws else inSc x ws)) μ
def rInA (K : PySem.W.Frag) (neg : Bool) : R2 := fun x y H Q => rIn K neg x y H Q ∨ ∃ i j, x = .str i ∧ y = .str j ∧ Q (.bl (if neg then !(!(Builtin.Str.occurrences j i 0 j.length 1).isEmpty) else !(Builtin.Str.occurrences j i 0 j.length 1).isEmpty)) H
theorem op_inA : OpR X (compareOp .In) (rInA X.K false) := OpR.or op_in_seq op_in_str
theorem op_notInA : OpR X (compareOp .NotIn) (rInA X.K true) := OpR.or op_notIn_seq op_notin_str
theorem os_in {neg : Bool} : OpS F (rInA F.K neg) (oIn neg) := fun A ω H x y u w Qm Q r rx ry h k => by
  have gen : (∃ ws, seqA ω.μ y = some ws ∧ flatSc x = true ∧ ws.all flatSc = true ∧ Qm (.bl (if neg then !inSc x ws else inSc x ws)) ω.μ) → rInA F.K neg u w H Q := fun ⟨ws, h1, h2, h3, h4⟩ => by
    obtain ⟨p, us, rfl, k2, k3⟩ := seqA_rel r ry h1
    obtain ⟨l1, l2⟩ := inSc_rel rx h2 k3 h3
    exact .inl ⟨p, us, rfl, k2, flat_rel rx h2, l2, by rw [l1]; exact k _ ω H _ h4 .refl r (rv_bl.mpr rfl)⟩
  unfold oIn at h
  split at h
  · rename_i a b
    exact .inr ⟨_, _, (rv_str.mp rx).1, (rv_str.mp ry).1, k _ ω H _ h .refl r (rv_bl.mpr rfl)⟩
  · exact gen h
end
end MW

set_option Elab.async false
set_option linter.all false
set_option maxRecDepth 100000
namespace MW
open PySem PySem.Spec PyProof.Rows L2 Evl SX HW
section
variable {X : Cx} {F : Cf} {A A0 : Av} {ω ω' : Om} {H H' : Hp} {W : WX} {a b c e o : Expr} {es : List Expr} {ma mb mc me mo : ME} {mas mbs : MA} {pos p p2 apos cpos : Pos} {v : Val} {u : V} {vs : List Val} {us : List V}
/-! ### subscripts -/
theorem RelVs.atI {i : Int} (h : RelVs F A ω H vs us) (e : atI vs i = some v) : ∃ u, atI us i = some u ∧ RelV F A ω H v u := by
  unfold L2.atI at e ⊢
  rw [h.len]
  cases q : ixN vs.length i with
  | none => rw [q] at e; cases e
  | some j => rw [q] at e; exact h.get e
def oIx : O2 := fun x y μ Q => match y with
  | .int i => match x with
    | .tup vs => match atI vs i with
      | some v => Q v μ
      | none => False
    | .str l => match atI l i with
      | some c => Q (.str [c]) μ
      | none => False
    | .scr ns => match atI ns i with
      | some n => Q (.int n) μ
      | none => False
    | x => match seqL μ x with
      | some vs => match atI vs i with
        | some v => Q v μ
        | none => False
      | none => False
  | _ => False
theorem atI_mem {α : Type} {l : List α} {i : Int} {x : α} (h : atI l i = some x) : x ∈ l := by
  unfold L2.atI at h
  cases q : ixN l.length i with
  | none => rw [q] at h; cases h
  | some j => rw [q] at h; exact List.mem_of_getElem? h
theorem atI_map {α β : Type} {l : List α} {i : Int} {x : α} (f : α → β) (h : atI l i = some x) : atI (l.map f) i = some (f x) := by
  unfold L2.atI at h ⊢
  rw [List.length_map]
  cases q : ixN l.length i with
  | none => rw [q] at h; cases h
  | some j =>
    rw [q] at h
    show (l.map f)[j]? = _
    rw [List.getElem?_map, show l[j]? = some x from h]
    rfl
theorem os_ix : OpS F (rIx F.K) oIx := fun A ω H x y u w Qm Q r rx ry h k => by
  have lst : ∀ {i : Int} {vs}, w = .int i → seqL ω.μ x = some vs → (match atI vs i with | some v => Qm v ω.μ | none => False) → rIx F.K u w H Q := fun {i vs} hw hs hm => by
    obtain ⟨p, ws, rfl, h2, h3⟩ := seqL_rel r rx hs
    cases q : atI vs i with
    | none => rw [q] at hm; exact hm.elim
    | some v =>
      rw [q] at hm
      obtain ⟨z, l1, l2⟩ := h3.atI q
      exact .inl ⟨p, ws, i, z, rfl, hw, sq_of h2, l1, k _ ω H _ hm .refl r l2⟩
  unfold oIx at h
  split at h
  rotate_left
  · exact h.elim
  rename_i i
  have hw := rv_int.mp ry
  split at h
  · rename_i vs
    obtain ⟨p, ws, rfl, h2, h3⟩ := rv_tup.mp rx
    split at h
    · rename_i v q
      obtain ⟨z, l1, l2⟩ := h3.atI q
      exact .inr (.inl ⟨p, ws, i, z, rfl, hw, st_of h2, l1, k _ ω H _ h .refl r l2⟩)
    · exact h.elim
  · rename_i l
    obtain ⟨rfl, h2⟩ := rv_str.mp rx
    split at h
    · rename_i c q
      exact .inr (.inr ⟨_, i, c, rfl, hw, by rw [S_len]; exact h2.le, q, k _ ω H _ h .refl r (rv_str.mpr ⟨rfl, h2.one (atI_mem q)⟩)⟩)
    · exact h.elim
  · rename_i ns
    obtain ⟨p, rfl, h2⟩ := rv_scr.mp rx
    split at h
    · rename_i n q
      exact .inl ⟨p, _, i, .int n, rfl, hw, h2.sq, atI_map V.int q, k _ ω H _ h .refl r (rv_int.mpr rfl)⟩
    · exact h.elim
  · split at h
    · rename_i vs hq
      exact lst hw hq h
    · exact h.elim
theorem ie_ix (ha : IE X F W a ma) (hb : IE X F W b mb) (hK : X.K = F.K) (hs : PlainIx b) : IE X F W (.Subscript a b pos) (mOp oIx ma mb) := (pe_ix ix_seq ha hb hs).imp fun _ _ _ h => two (by rw [hK]; exact os_ix) h
/-! ### slices -/
def cut {α : Type} (xs : List α) (lo hi : Option Int) : List α := (xs.drop (HT.sIx xs.length 0 lo)).take (HT.sIx xs.length xs.length hi - HT.sIx xs.length 0 lo)
theorem RelVs.cut {lo hi : Option Int} (h : RelVs F A ω H vs us) : RelVs F A ω H (MW.cut vs lo hi) (cutV us lo hi) := by
  unfold MW.cut cutV
  rw [h.len]
  exact (h.drop _).take _
theorem cutS_S (l : List Nat) (lo hi : Option Int) : cutS (S l) lo hi = S (MW.cut l lo hi) := by
  unfold cutS MW.cut
  rw [S_len]
theorem SOk.cut {l : List Nat} (h : SOk l) {lo hi : Option Int} : SOk (MW.cut l lo hi) := (h.drop _).take _
def oSl : Val → Option Int → Option Int → Sto → QV → Prop := fun x lo hi μ Q => match x with
  | .str l => Q (.str (MW.cut l lo hi)) μ
  | .tup vs => ¬ (HT.sIx vs.length 0 lo = 0 ∧ HT.sIx vs.length vs.length hi = vs.length) ∧ Q (.tup (MW.cut vs lo hi)) μ
  | _ => False
def lSl : Val → Option Int → Option Int → Sto → (List Val → Sto → Prop) → Prop := fun x lo hi μ Q => match seqL μ x with
  | some vs => Q (MW.cut vs lo hi) μ
  | none => False
abbrev MO := Lc → Sto → (Option Int → Sto → Prop) → QX → Prop
def pNone : MO := fun _ μ Q _ => Q none μ
def pSome (m : ME) : MO := fun σ μ Q E => m σ μ (fun v μ1 => match v with
  | .int i => Q (some i) μ1
  | _ => False) E
def denO (F : Cf) (W : WX) (m : MO) : TO := fun σv H Q => ∃ A0 ω σ Qm Em, At F A0 ω H σ σv ∧ m σ ω.μ Qm Em ∧ (∀ b ω' H', Qm b ω'.μ → Stp ω H ω' H' → At F A0 ω' H' σ σv → Q b H') ∧ KX F W A0 ω H σ σv Em
abbrev IO (X : Cx) (F : Cf) (W : WX) (e : Option Expr) (m : MO) : Prop := PO X e (denO F W m)
theorem _root_.L2.PO.imp {X : Cx} {e : Option Expr} {t t' : TO} (h : PO X e t) (i : ∀ σ H Q, t' σ H Q → t σ H Q) : PO X e t' := ⟨fun pins s σ H Q I q => h.run pins s σ H Q I (i σ H Q q)⟩
theorem io_none : IO X F W none pNone := po_none.imp fun σv H Q ⟨A0, ω, σ, Qm, Em, a0, h, k, kx⟩ => k none ω H h .refl a0
theorem io_some (h : IE X F W e me) : IO X F W (some e) (pSome me) := (po_some h).imp fun σv H Q ⟨A0, ω, σ, Qm, Em, a0, h, k, kx⟩ => deE a0 h kx fun x ω1 H1 u q1 s1 a1 r1 => by
  cases x <;> first | exact False.elim q1 | skip
  exact ⟨_, rv_int.mp r1, k _ ω1 H1 q1 s1 a1⟩
def mSl (m : ME) (lo hi : MO) : ME := fun σ μ Q E => m σ μ (fun x μ1 => lo σ μ1 (fun i μ2 => hi σ μ2 (fun j μ3 => oSl x i j μ3 Q) E) E) E
def lSlc (m : ME) (lo hi : MO) : MA := fun σ μ Q E => m σ μ (fun x μ1 => lo σ μ1 (fun i μ2 => hi σ μ2 (fun j μ3 => lSl x i j μ3 Q) E) E) E
theorem ie_sl {lo hi : Option Expr} {ml mh : MO} (ha : IE X F W e me) (hl : IO X F W lo ml) (hh : IO X F W hi mh) (hK : X.K = F.K) : IE X F W (.Subscript e (.Slice lo hi none p2) pos) (mSl me ml mh) :=
  (pe_slice (SlR.or sl_str sl_tup) ha hl hh).imp fun σv H Q ⟨A0, ω, σ, Qm, Em, a0, h, k, kx⟩ => deE a0 h kx fun x ω1 H1 u q1 s1 a1 r1 =>
    ⟨A0, ω1, σ, _, Em, a1, q1, fun i ω2 H2 q2 s2 a2 => ⟨A0, ω2, σ, _, Em, a2, q2, fun j ω3 H3 q3 s3 a3 => by
      have r3 := (r1.step a1.rel.off_of s2).step a2.rel.off_of s3
      have s13 := s1.trans (s2.trans s3)
      unfold oSl at q3
      split at q3
      · obtain ⟨rfl, k1⟩ := rv_str.mp r3
        exact .inl ⟨_, rfl, by rw [S_len]; exact k1.le, by rw [cutS_S]; exact k _ ω3 H3 _ q3 s13 a3 (rv_str.mpr ⟨rfl, k1.cut⟩)⟩
      · obtain ⟨p, ws, rfl, h2, h3⟩ := rv_tup.mp r3
        rw [hK]
        exact .inr ⟨p, ws, rfl, st_of h2, by rw [h3.len]; exact q3.1, fun l hl => k _ ω3 _ _ q3.2 (s13.trans (.fresh hl)) (a3.step (.fresh hl) (a3.rel.fresh hl)) (rv_tup.mpr ⟨l, _, rfl, upd_same, h3.cut.step a3.rel.off_of (.fresh hl)⟩)⟩
      · exact q3.elim, kx.step (s1.trans s2)⟩, kx.step s1⟩
theorem il_sl {lo hi : Option Expr} {ml mh : MO} (ha : IE X F W e me) (hl : IO X F W lo ml) (hh : IO X F W hi mh) (hK : X.K = F.K) : IL X F W (.Subscript e (.Slice lo hi none p2) pos) (lSlc me ml mh) :=
  (pe_slice sl_list ha hl hh).imp fun σv H Q ⟨A0, ω, σ, Qm, Em, a0, h, k, kx⟩ => deE a0 h kx fun x ω1 H1 u q1 s1 a1 r1 =>
    ⟨A0, ω1, σ, _, Em, a1, q1, fun i ω2 H2 q2 s2 a2 => ⟨A0, ω2, σ, _, Em, a2, q2, fun j ω3 H3 q3 s3 a3 => by
      have r3 := (r1.step a1.rel.off_of s2).step a2.rel.off_of s3
      have s13 := s1.trans (s2.trans s3)
      unfold lSl at q3
      split at q3
      · rename_i vs hq
        obtain ⟨p, ws, rfl, h2, h3⟩ := seqL_rel a3.rel r3 hq
        exact ⟨p, ws, rfl, sq_of h2, fun l hl => k _ ω3 H3 _ l q3 s13 a3 h3.cut hl⟩
      · exact q3.elim, kx.step (s1.trans s2)⟩, kx.step s1⟩
/-! ### lists: +, * -/
def lAdd (a b : ME) : MA := fun σ μ Q E => a σ μ (fun x μ1 => b σ μ1 (fun y μ2 => match seqL μ2 x, seqL μ2 y with
  | some xs, some ys => xs.length + ys.length ≤ lim ∧ Q (xs ++ ys) μ2
  | _, _ => False) E) E
theorem il_add (ha : IE X F W a ma) (hb : IE X F W b mb) : IL X F W (.BinOp a .Add b pos) (lAdd ma mb) := (pe_op op_cat ha hb).imp fun σv H Q ⟨A0, ω, σ, Qm, Em, a0, h, k, kx⟩ =>
  deE a0 h kx fun x ω1 H1 u q1 s1 a1 r1 => deE a1 q1 (kx.step s1) fun y ω2 H2 w q2 s2 a2 r2 => by
    have r1' := r1.step a1.rel.off_of s2
    split at q2
    · rename_i xs ys h1 h2
      obtain ⟨p, ws, rfl, k2, k3⟩ := seqL_rel a2.rel r1' h1
      obtain ⟨p', ws', rfl, l2, l3⟩ := seqL_rel a2.rel r2 h2
      exact ⟨p, p', ws, ws', rfl, rfl, k2, l2, by rw [k3.len, l3.len]; exact lim_le q2.1, fun l hl => k _ ω2 H2 _ l q2.2 (s1.trans s2) a2 (k3.app l3) hl⟩
    · exact q2.elim
theorem RelVs.rep {n : Nat} (h : RelVs F A ω H vs us) : RelVs F A ω H (List.replicate n vs).flatten (List.replicate n us).flatten := by
  induction n with
  | zero => exact rvs_nil.mpr rfl
  | succ n ih => rw [List.replicate_succ, List.replicate_succ, List.flatten_cons, List.flatten_cons]; exact h.app ih
def lMul (a b : ME) : MA := fun σ μ Q E => a σ μ (fun x μ1 => b σ μ1 (fun y μ2 => match seqL μ2 x, y with
  | some xs, .int n => (n ≤ 1000 ∧ -1000 ≤ n ∧ xs.length * n.toNat ≤ lim) ∧ Q (List.replicate n.toNat xs).flatten μ2
  | _, _ => False) E) E
theorem il_mul (ha : IE X F W a ma) (hb : IE X F W b mb) : IL X F W (.BinOp a .Mult b pos) (lMul ma mb) := (pe_op op_rep ha hb).imp fun σv H Q ⟨A0, ω, σ, Qm, Em, a0, h, k, kx⟩ =>
  deE a0 h kx fun x ω1 H1 u q1 s1 a1 r1 => deE a1 q1 (kx.step s1) fun y ω2 H2 w q2 s2 a2 r2 => by
    have r1' := r1.step a1.rel.off_of s2
    split at q2
    · rename_i xs n h1
      obtain ⟨p, ws, rfl, k2, k3⟩ := seqL_rel a2.rel r1' h1
      exact ⟨p, n, ws, rfl, rv_int.mp r2, k2, by omega, by omega, by rw [k3.len]; exact lim_le q2.1.2.2, fun l hl => k _ ω2 H2 _ l q2.2 (s1.trans s2) a2 k3.rep hl⟩
    · exact q2.elim
/-! ### truth -/
def truth (μ : Sto) : Val → Option Bool
  | .non => some false
  | .bl b => some b
  | .int i => some (i != 0)
  | .str l => some (!l.isEmpty)
  | .tup vs => some (!vs.isEmpty)
  | v => match seqL μ v with
    | some vs => some (!vs.isEmpty)
    | none => none
end
end MW

set_option Elab.async false
set_option linter.all false
set_option maxRecDepth 100000
namespace MW
open PySem PySem.Spec PyProof.Rows L2 Evl SX HW
section
variable {X : Cx} {F : Cf} {A A0 : Av} {ω ω' : Om} {H H' : Hp} {W : WX} {a b c e o : Expr} {es : List Expr} {ma mb mc me mo : ME} {mas mbs : MA} {pos p p2 apos cpos : Pos} {v : Val} {u : V} {vs : List Val} {us : List V} {x : Str} {id T : String}
/-! ### truth -/
def mTru (m : ME) : MT := fun σ μ Q E => m σ μ (fun v μ1 => match truth μ1 v with
  | some b => Q b μ1
  | none => False) E
/-! ### calls of built-ins by values -/
def CalS (F : Cf) (r : List V → Hp → VK → Prop) (o : List Val → Sto → QV → Prop) : Prop := ∀ (A : Av) (ω : Om) (H : Hp) (xs : List Val) (us : List V) (Qm : QV) (Q : VK), Rel F A ω H → RelVs F A ω H xs us → o xs ω.μ Qm →
  (∀ v ω' H' u, Qm v ω'.μ → Stp ω H ω' H' → Rel F A ω' H' → RelV F A ω' H' v u → Q u H') → r us H Q
theorem CallR.or {f : Value} {r r' : List V → Hp → VK → Prop} (h : CallR X f r) (h' : CallR X f r') : CallR X f (fun xs H Q => r xs H Q ∨ r' xs H Q) := fun pins s σ H xs us Q I rx q => by
  rcases q with q | q
  · exact h pins s σ H xs us Q I rx q
  · exact h' pins s σ H xs us Q I rx q
def mCB (o : List Val → Sto → QV → Prop) (m : MA) : ME := fun σ μ Q E => m σ μ (fun vs μ1 => o vs μ1 Q) E
theorem cb {r : List V → Hp → VK → Prop} {o : List Val → Sto → QV → Prop} {σv : L2.St} {Q : VK} (hs : CalS F r o) (h : denE F W (mCB o mas) σv H Q) : tCB r (denA F W mas) σv H Q := by
  obtain ⟨A0, ω, σ, Qm, Em, a0, h, k, kx⟩ := h
  exact deA a0 h kx fun vs ω1 H1 us q1 s1 a1 r1 => hs _ ω1 H1 vs us Qm Q a1.rel r1 q1 fun v ω2 H2 z qv s2 r2 rv => k v ω2 H2 z qv (s1.trans s2) (a1.step s2 r2) rv
theorem ie_callB {r : List V → Hp → VK → Prop} {o : List Val → Sto → QV → Prop} (hc : CallR X (.builtin id) r) (hs : CalS F r o) (hg : Gl X x) (hm : X.mg x = none) (hv : bootBuiltins x = some (.builtin id)) (ha : IA X F W (e :: es) mas) (hn : x ≠ "__name__" := by decide) (hdb : (x == ("__debug__" : Str)) = false := by decide)
    (he : starEach (e :: es) X.env = (false, eval e X.env) :: starEach es X.env := by rfl) (hpl : (backTo pos (starEach es X.env)).any (·.1) = false := by rfl) : IE X F W (.Call (.Name x p) (e :: es) [] pos) (mCB o mas) := (pe_callB hc hg hm hv ha hn hdb he hpl).imp fun _ _ _ h => cb hs h
theorem ie_callTy {r : List V → Hp → VK → Prop} {o : List Val → Sto → QV → Prop} (hc : CallR X (.type T) r) (hs : CalS F r o) (hg : Gl X x) (hm : X.mg x = none) (hv : bootBuiltins x = some (.type T)) (ha : IA X F W (e :: es) mas) (hn : x ≠ "__name__" := by decide) (hdb : (x == ("__debug__" : Str)) = false := by decide)
    (he : starEach (e :: es) X.env = (false, eval e X.env) :: starEach es X.env := by rfl) (hpl : (backTo pos (starEach es X.env)).any (·.1) = false := by rfl) : IE X F W (.Call (.Name x p) (e :: es) [] pos) (mCB o mas) := (pe_callTy hc hg hm hv ha hn hdb he hpl).imp fun _ _ _ h => cb hs h
/-- len -/
def lenV (μ : Sto) : Val → Option Nat
  | .str l => some l.length
  | .tup vs => some vs.length
  | .lst vs => some vs.length
  | .scr ns => some ns.length
  | .ref a => match μ.o a with
    | some (.lst vs) => some vs.length
    | some (.dic kvs) => some kvs.length
    | _ => none
  | _ => none
def oLen : List Val → Sto → QV → Prop := fun xs μ Q => match xs with
  | [v] => match lenV μ v with
    | some n => Q (.int n) μ
    | none => False
  | _ => False
def rLenA (K : PySem.W.Frag) : List V → Hp → VK → Prop := fun xs H Q => (∃ x n, xs = [x] ∧ LenV K x H n ∧ Q (.int n) H) ∨ ∃ a kvs, xs = [V.ref a] ∧ H a = some (.dK kvs) ∧ Q (.int kvs.length) H
theorem cr_lenA : CallR X (.builtin "len") (rLenA X.K) := CallR.or call_len call_lenD
theorem cs_len : CalS F (rLenA F.K) oLen := fun A ω H xs us Qm Q r rx h k => by
  unfold oLen at h
  split at h
  rotate_left
  · exact h.elim
  rename_i v
  obtain ⟨u, _, rfl, rv, hn⟩ := rvs_cons.mp rx
  obtain rfl := rvs_nil.mp hn
  split at h
  rotate_left
  · exact h.elim
  rename_i n hl
  have done : ∀ {m : Nat}, m = n → Q (.int (m : Nat)) H := fun e => by rw [e]; exact k _ ω H _ h .refl r (rv_int.mpr rfl)
  cases v with
  | str l =>
    cases hl
    obtain ⟨rfl, h2⟩ := rv_str.mp rv
    exact .inl ⟨_, _, rfl, ⟨by rw [S_len]; exact h2.le, rfl⟩, done (S_len l)⟩
  | tup vs =>
    cases hl
    obtain ⟨p, ws, rfl, h2, h3⟩ := rv_tup.mp rv
    exact .inl ⟨_, _, rfl, .inr ⟨ws, st_of h2, rfl⟩, done h3.len⟩
  | lst vs =>
    cases hl
    obtain ⟨p, ws, rfl, h2, _, h3⟩ := rv_lst.mp rv
    exact .inl ⟨_, _, rfl, .inl ⟨ws, sq_of h2, rfl⟩, done h3.len⟩
  | scr ns =>
    cases hl
    obtain ⟨p, rfl, h2⟩ := rv_scr.mp rv
    exact .inl ⟨_, _, rfl, .inl ⟨_, h2.sq, rfl⟩, done (List.length_map _)⟩
  | ref a =>
    obtain ⟨_, rfl⟩ := rv_ref.mp rv
    simp only [lenV] at hl
    cases q : ω.μ.o a with
    | none => rw [q] at hl; cases hl
    | some o =>
      rw [q] at hl
      cases o with
      | lst vs =>
        cases hl
        obtain ⟨ws, h2, h3⟩ := (r.ob a _ q).2.2
        exact .inl ⟨_, _, rfl, .inl ⟨ws, sq_of h2, rfl⟩, done h3.len⟩
      | dic kvs =>
        cases hl
        obtain ⟨_, ws, h2, h3⟩ := (r.ob a _ q).2.2
        refine .inr ⟨_, _, rfl, h2, done ?_⟩
        have := h3.len
        rw [List.length_zip, List.length_map, this, List.length_map, Nat.min_self]
      | ins _ _ => cases hl
      | fdic _ _ => cases hl
  | non => cases hl
  | bl _ => cases hl
  | int _ => cases hl
  | pmp _ => cases hl
/-- lists of numbers, of truths, of texts -/
def intsOf : List Val → Option (List Int)
  | [] => some []
  | .int i :: vs => (intsOf vs).map (i :: ·)
  | _ => none
def blsOf : List Val → Option (List Bool)
  | [] => some []
  | .bl i :: vs => (blsOf vs).map (i :: ·)
  | _ => none
def strsOf : List Val → Option (List (List Nat))
  | [] => some []
  | .str i :: vs => (strsOf vs).map (i :: ·)
  | _ => none
theorem ints_rel : ∀ {vs : List Val} {us : List V} {ns : List Int}, RelVs F A ω H vs us → intsOf vs = some ns → us = ns.map V.int
  | [], _, _, h, e => by cases e; exact rvs_nil.mp h
  | v :: vs, _, _, h, e => by
    obtain ⟨u, r, rfl, h2, h3⟩ := rvs_cons.mp h
    cases v <;> first | (cases e; done) | skip
    simp only [intsOf] at e
    obtain ⟨ms, e1, rfl⟩ := Option.map_eq_some_iff.mp e
    rw [rv_int.mp h2, ints_rel h3 e1]
    rfl
theorem bls_rel : ∀ {vs : List Val} {us : List V} {ns : List Bool}, RelVs F A ω H vs us → blsOf vs = some ns → us = ns.map V.bl
  | [], _, _, h, e => by cases e; exact rvs_nil.mp h
  | v :: vs, _, _, h, e => by
    obtain ⟨u, r, rfl, h2, h3⟩ := rvs_cons.mp h
    cases v <;> first | (cases e; done) | skip
    simp only [blsOf] at e
    obtain ⟨ms, e1, rfl⟩ := Option.map_eq_some_iff.mp e
    rw [rv_bl.mp h2, bls_rel h3 e1]
    rfl
theorem strs_rel : ∀ {vs : List Val} {us : List V} {ns : List (List Nat)}, RelVs F A ω H vs us → strsOf vs = some ns → us = (ns.map S).map V.str ∧ ∀ l ∈ ns, SOk l
  | [], _, _, h, e => by cases e; exact ⟨rvs_nil.mp h, fun l hl => by cases hl⟩
  | v :: vs, _, _, h, e => by
    obtain ⟨u, r, rfl, h2, h3⟩ := rvs_cons.mp h
    cases v <;> first | (cases e; done) | skip
    simp only [strsOf] at e
    obtain ⟨ms, e1, rfl⟩ := Option.map_eq_some_iff.mp e
    obtain ⟨k1, k2⟩ := strs_rel h3 e1
    rw [(rv_str.mp h2).1, k1]
    refine ⟨rfl, fun l hl => ?_⟩
    rcases List.mem_cons.mp hl with rfl | hl
    · exact (rv_str.mp h2).2
    · exact k2 l hl
theorem rel_ints : ∀ {ns : List Int}, RelVs F A ω H (ns.map .int) (ns.map V.int)
  | [] => rvs_nil.mpr rfl
  | _ :: _ => .cons (rv_int.mpr rfl) rel_ints
theorem rel_strs : ∀ {ns : List (List Nat)}, (∀ l ∈ ns, SOk l) → RelVs F A ω H (ns.map .str) ((ns.map S).map V.str)
  | [], _ => rvs_nil.mpr rfl
  | l :: _, h => .cons (rv_str.mpr ⟨rfl, h l List.mem_cons_self⟩) (rel_strs fun l hl => h l (List.mem_cons_of_mem _ hl))
def o1L {α : Type} (f : List Val → Option α) (g : α → Val) : List Val → Sto → QV → Prop := fun xs μ Q => match xs with
  | [v] => match seqL μ v with
    | some vs => match f vs with
      | some z => Q (g z) μ
      | none => False
    | none => False
  | _ => False
theorem o1L_is {α : Type} {f : List Val → Option α} {g : α → Val} {xs : List Val} {us : List V} {Qm : QV} (r : Rel F A ω H) (rx : RelVs F A ω H xs us) (h : o1L f g xs ω.μ Qm) : ∃ p ws vs z, us = [.ref p] ∧ H p = some (.lst ws) ∧ RelVs F A ω H vs ws ∧ f vs = some z ∧ Qm (g z) ω.μ := by
  unfold o1L at h
  split at h
  rotate_left
  · exact h.elim
  obtain ⟨u, _, rfl, rv, hn⟩ := rvs_cons.mp rx
  obtain rfl := rvs_nil.mp hn
  split at h
  rotate_left
  · exact h.elim
  rename_i vs hq
  obtain ⟨p, ws, rfl, h2, h3⟩ := seqL_rel r rv hq
  split at h
  · rename_i z hz
    exact ⟨p, ws, vs, z, rfl, h2, h3, hz, h⟩
  · exact h.elim
def oAll := o1L blsOf fun bs => .bl (bs.all _root_.id)
def oSum := o1L intsOf fun ns => .int ns.sum
theorem cs_all : CalS F (rAll F.K) oAll := fun A ω H xs us Qm Q r rx h k => by
  obtain ⟨p, ws, vs, z, rfl, h2, h3, h4, h5⟩ := o1L_is r rx h
  exact ⟨p, z, rfl, by rw [← bls_rel h3 h4]; exact sq_of h2, k _ ω H _ h5 .refl r (rv_bl.mpr rfl)⟩
def oMin2 : List Val → Sto → QV → Prop := fun xs μ Q => match xs with
  | [.int i, .int j] => Q (.int (if j < i then j else i)) μ
  | _ => False
theorem cs_min2 : CalS F (fun xs H Q => ∃ i j, xs = [.int i, .int j] ∧ Q (.int (if j < i then j else i)) H) oMin2 := fun A ω H xs us Qm Q r rx h k => by
  unfold oMin2 at h
  split at h
  rotate_left
  · exact h.elim
  obtain ⟨u, _, rfl, r1, hn⟩ := rvs_cons.mp rx
  obtain ⟨u2, _, rfl, r2, hn⟩ := rvs_cons.mp hn
  obtain rfl := rvs_nil.mp hn
  exact ⟨_, _, by rw [rv_int.mp r1, rv_int.mp r2], k _ ω H _ h .refl r (rv_int.mpr rfl)⟩
def oInt1 : List Val → Sto → QV → Prop := fun xs μ Q => match xs with
  | [.int i] => Q (.int i) μ
  | [.bl b] => Q (.int (if b then 1 else 0)) μ
  | _ => False
theorem cs_int1 : CalS F (fun xs H Q => (∃ i, xs = [.int i] ∧ Q (.int i) H) ∨ ∃ k, xs = [.bl k] ∧ Q (.int (if k then 1 else 0)) H) oInt1 := fun A ω H xs us Qm Q r rx h k => by
  unfold oInt1 at h
  split at h
  · obtain ⟨u, _, rfl, r1, hn⟩ := rvs_cons.mp rx
    obtain rfl := rvs_nil.mp hn
    exact .inl ⟨_, by rw [rv_int.mp r1], k _ ω H _ h .refl r (rv_int.mpr rfl)⟩
  · obtain ⟨u, _, rfl, r1, hn⟩ := rvs_cons.mp rx
    obtain rfl := rvs_nil.mp hn
    exact .inr ⟨_, by rw [rv_bl.mp r1], k _ ω H _ h .refl r (rv_int.mpr rfl)⟩
  · exact h.elim
/-- tuple(..) -/
def oTuple : List Val → Sto → QV → Prop := fun xs μ Q => match xs with
  | [v] => match seqA μ v with
    | some vs => Q (.tup vs) μ
    | none => False
  | _ => False
theorem cs_tuple : CalS F (fun xs H Q => ∃ p ys, xs = [.ref p] ∧ ((SqL F.K H p ys ∧ ∀ l, H l = none → Q (.ref l) (upd H l (.tup ys))) ∨ (SqT F.K H p ys ∧ Q (.ref p) H))) oTuple := fun A ω H xs us Qm Q r rx h k => by
  unfold oTuple at h
  split at h
  rotate_left
  · exact h.elim
  rename_i v
  obtain ⟨u, _, rfl, r1, hn⟩ := rvs_cons.mp rx
  obtain rfl := rvs_nil.mp hn
  split at h
  rotate_left
  · exact h.elim
  rename_i vs hq
  have gen : seqL ω.μ v = some vs → ∃ p ys, [u] = [V.ref p] ∧ ((SqL F.K H p ys ∧ ∀ l, H l = none → Q (.ref l) (upd H l (.tup ys))) ∨ (SqT F.K H p ys ∧ Q (.ref p) H)) := fun hq => by
    obtain ⟨p, ws, rfl, h2, h3⟩ := seqL_rel r r1 hq
    exact ⟨p, ws, rfl, .inl ⟨sq_of h2, fun l hl => k _ ω _ _ h (.fresh hl) (r.fresh hl) (rv_tup.mpr ⟨l, ws, rfl, upd_same, h3.step r.off_of (.fresh hl)⟩)⟩⟩
  cases v with
  | tup ws =>
    cases hq
    obtain ⟨p, ws, rfl, h2, h3⟩ := rv_tup.mp r1
    exact ⟨p, ws, rfl, .inr ⟨st_of h2, k _ ω H _ h .refl r (rv_tup.mpr ⟨p, ws, rfl, h2, h3⟩)⟩⟩
  | _ => exact gen hq
end
end MW

set_option Elab.async false
set_option linter.all false
set_option maxRecDepth 100000
namespace MW
open PySem PySem.Spec PyProof.Rows L2 Evl SX HW
/-! ### fields and dicts, by themselves -/
def Cl.flds : Cl → List Fd
  | .OpenFile => [.number, .sheet, .past, .shut]
  | .KnownAsk => [.want, .home, .since, .off]
  | .Court => [.birth, .open_files, .known]
  | .EditorAsk => [.file, .want, .home, .state, .number, .answer]
  | .Editor => [.birth, .down, .open_files, .closed_at, .asks]
  | .Helper => [.birth, .copied_files, .asked]
  | .Wire => [.editor, .helper, .outward, .inward, .log]
  | _ => []
def getF (f : Fd) : List (Fd × Val) → Option Val
  | [] => none
  | (g, v) :: r => if g = f then some v else getF f r
def setF (f : Fd) (v : Val) : List (Fd × Val) → List (Fd × Val)
  | [] => [(f, v)]
  | (g, x) :: r => if g = f then (g, v) :: r else (g, x) :: setF f v r
theorem S_inj {a b : List Nat} (h : S a = S b) : a = b := by
  have := congrArg (fun s : Str => s.cps.toList) h
  simpa using this
theorem Ky.r_inj {j k : Ky} (h : j.r = k.r) : j = k := by
  cases j <;> cases k <;> simp only [Ky.r] at h
  · rw [Sum.inl.inj h]
  · cases h
  · cases h
  · rw [S_inj (Sum.inr.inj h)]
def kyOf : Val → Option Ky
  | .int i => some (.i i)
  | .str l => some (.s l)
  | _ => none
def dGet (kvs : List (Ky × Val)) (k : Ky) : Option Val := match kvs with
  | [] => none
  | (j, v) :: r => if j = k then some v else dGet r k
def dPut (kvs : List (Ky × Val)) (k : Ky) (v : Val) : List (Ky × Val) := match kvs with
  | [] => [(k, v)]
  | (j, x) :: r => if j = k then (j, v) :: r else (j, x) :: dPut r k v
def dDel (kvs : List (Ky × Val)) (k : Ky) : List (Ky × Val) := match kvs with
  | [] => []
  | (j, x) :: r => if j = k then r else (j, x) :: dDel r k
/-- no key twice -/
def dNd : List (Ky × Val) → Prop := fun kvs => (kvs.map (·.1)).Nodup
section
variable {F : Cf} {A : Av} {ω : Om} {H : Hp}
abbrev zk (kvs : List (Ky × Val)) (ws : List V) : List (Key × V) := (kvs.map (·.1.r)).zip ws
theorem dget_rel {k : Ky} : ∀ {kvs : List (Ky × Val)} {ws : List V}, RelVs F A ω H (kvs.map (·.2)) ws → (∀ v, dGet kvs k = some v → ∃ u, valV (zk kvs ws) k.r = some u ∧ RelV F A ω H v u) ∧ (dGet kvs k = none → valV (zk kvs ws) k.r = none)
  | [], _, h => by
    rw [rvs_nil.mp h]
    exact ⟨fun v e => (by cases e), fun _ => rfl⟩
  | (j, x) :: kvs, _, h => by
    obtain ⟨u, r, rfl, h2, h3⟩ := rvs_cons.mp h
    obtain ⟨k1, k2⟩ := dget_rel (k := k) h3
    unfold dGet
    by_cases q : j = k
    · subst q
      rw [if_pos rfl]
      refine ⟨fun v e => ⟨u, ?_, by cases e; exact h2⟩, fun e => by cases e⟩
      exact valV_pos rfl
    · rw [if_neg q]
      have e : valV (zk ((j, x) :: kvs) (u :: r)) k.r = valV (zk kvs r) k.r := valV_neg fun z => q (Ky.r_inj z)
      rw [e]
      exact ⟨k1, k2⟩
theorem putK_rel {k : Ky} {v : Val} {u : V} (hv : RelV F A ω H v u) : ∀ {kvs : List (Ky × Val)} {ws : List V}, dNd kvs → RelVs F A ω H (kvs.map (·.2)) ws → ∃ ws', putK (zk kvs ws) k.r u = zk (dPut kvs k v) ws' ∧ RelVs F A ω H ((dPut kvs k v).map (·.2)) ws'
  | [], _, _, h => by
    rw [rvs_nil.mp h]
    exact ⟨[u], rfl, .one hv⟩
  | (j, x) :: kvs, _, nd, h => by
    obtain ⟨z, r, rfl, h2, h3⟩ := rvs_cons.mp h
    have nd' : dNd kvs := (List.nodup_cons.mp nd).2
    have hj : j ∉ kvs.map (·.1) := (List.nodup_cons.mp nd).1
    have hl : r.length = kvs.length := by have := h3.len; rwa [List.length_map] at this
    obtain ⟨ws', k1, k2⟩ := putK_rel (k := k) hv nd' h3
    by_cases q : j = k
    · subst q
      refine ⟨u :: r, ?_, ?_⟩
      · rw [dPut, if_pos rfl]
        show putK ((j.r, z) :: zk kvs r) j.r u = (j.r, u) :: zk kvs r
        unfold putK
        rw [List.any_cons, decide_eq_true rfl, Bool.true_or, if_pos rfl, List.map_cons, if_pos rfl]
        congr 1
        refine (List.map_congr_left fun kv hkv => ?_).trans (List.map_id _)
        rw [if_neg]
        · rfl
        · intro e
          have := List.of_mem_zip (show (kv.1, kv.2) ∈ (kvs.map (·.1.r)).zip r from hkv)
          obtain ⟨y, hy, e2⟩ := List.mem_map.mp this.1
          exact hj (List.mem_map.mpr ⟨y, hy, Ky.r_inj (e2.trans e)⟩)
      · rw [dPut, if_pos rfl]
        exact .cons hv h3
    · refine ⟨z :: ws', ?_, ?_⟩
      · rw [dPut, if_neg q]
        show putK ((j.r, z) :: zk kvs r) k.r u = (j.r, z) :: zk (dPut kvs k v) ws'
        rw [← k1]
        unfold putK
        rw [List.any_cons, decide_eq_false (fun z => q (Ky.r_inj z)), Bool.false_or]
        split
        · rw [List.map_cons, if_neg (fun z => q (Ky.r_inj z))]
        · rfl
      · rw [dPut, if_neg q]
        exact .cons h2 k2
theorem ky_rel {v : Val} {u : V} {k : Ky} (h : RelV F A ω H v u) (e : kyOf v = some k) : u = kV k.r := by
  cases v <;> first | (cases e; done) | skip
  · cases e; exact rv_int.mp h
  · cases e; exact (rv_str.mp h).1
theorem dPut_mem {k j : Ky} {v : Val} : ∀ {kvs : List (Ky × Val)}, j ∈ (dPut kvs k v).map (·.1) → j = k ∨ j ∈ kvs.map (·.1)
  | [], h => .inl (List.mem_singleton.mp h)
  | (i, x) :: kvs, h => by
    unfold dPut at h
    split at h
    · exact .inr h
    · rcases List.mem_cons.mp h with h | h
      · exact .inr (by rw [h]; exact List.mem_cons_self)
      · rcases dPut_mem h with h | h
        · exact .inl h
        · exact .inr (List.mem_cons_of_mem _ h)
theorem dPut_nd {k : Ky} {v : Val} : ∀ {kvs : List (Ky × Val)}, dNd kvs → dNd (dPut kvs k v)
  | [], _ => List.nodup_cons.mpr ⟨by simp, List.nodup_nil⟩
  | (i, x) :: kvs, h => by
    obtain ⟨h1, h2⟩ := List.nodup_cons.mp h
    unfold dPut
    split
    · exact h
    · rename_i q
      refine List.nodup_cons.mpr ⟨fun z => ?_, dPut_nd h2⟩
      rcases dPut_mem z with z | z
      · exact q z
      · exact h1 z
end
end MW

set_option Elab.async false
set_option linter.all false
set_option maxRecDepth 100000
namespace MW
open PySem PySem.Spec PyProof.Rows L2 Evl SX HW
section
variable {X : Cx} {F : Cf} {has : Cl → Bool} {A A0 : Av} {ω ω' : Om} {H H' : Hp} {W : WX} {a b c e o i : Expr} {es : List Expr} {ma mb mc me mo mi : ME} {mas mbs : MA} {pos p p2 apos cpos : Pos} {v : Val} {u : V} {vs : List Val} {us : List V} {x : Str} {id T : String} {f : Fd} {σ : Lc} {σv : L2.St}
/-! ### fields -/
def mFld (has : Cl → Bool) (m : ME) (f : Fd) : ME := fun σ μ Q E => m σ μ (fun v μ1 => match seqI μ1 v with
  | some (_, c, fs) => has c = true ∧ f ∈ c.flds ∧ match getF f fs with
    | some z => Q z μ1
    | none => False
  | none => False) E
/-! ### dicts -/
def mDin (neg : Bool) (mk md : ME) : ME := fun σ μ Q E => mk σ μ (fun kv μ1 => md σ μ1 (fun dv μ2 => match kyOf kv, seqD μ2 dv with
  | some k, some (_, kvs) => Q (.bl (if neg then !(dGet kvs k).isSome else (dGet kvs k).isSome)) μ2
  | _, _ => False) E) E
theorem dgetR {k : Ky} {a : Nat} {kvs : List (Ky × Val)} {kv : Val} {w : V} (r : Rel F A ω H) (hk : kyOf kv = some k) (rk : RelV F A ω H kv w) (hs : ω.μ.o a = some (.dic kvs)) :
    ∃ o : Option V, DGet H (ω.m a) w o ∧ o.isSome = (dGet kvs k).isSome ∧ ∀ v, dGet kvs k = some v → ∃ u, o = some u ∧ RelV F A ω H v u := by
  obtain ⟨nd, ws, h1, h2⟩ := (r.ob a _ hs).2.2
  obtain ⟨k1, k2⟩ := dget_rel (k := k) h2
  refine ⟨_, by rw [ky_rel rk hk]; exact DGet.k h1, ?_, fun v e => ?_⟩
  · cases q : dGet kvs k with
    | none => rw [k2 q]; rfl
    | some v => obtain ⟨u, l1, _⟩ := k1 v q; rw [l1]; rfl
  · obtain ⟨u, l1, l2⟩ := k1 v e
    exact ⟨u, l1, l2⟩
theorem it_dnotin (hu : X.A.units + 1 < cLine) (hi : IE X F W i mi) (ho : IE X F W o mo) (hm : behindInMarks .NotIn o = false := by rfl) : IT X F W (.Compare i [.NotIn] [o] pos) (mB (mDin true mi mo)) := (pt_cmp (pc_dnotin hu hi ho) hm).imp fun σv H Q ⟨A0, ω, σ, Qm, Em, a0, h, k, kx⟩ =>
  deE a0 h kx fun y ω1 H1 u q1 s1 a1 r1 => deE a1 q1 (kx.step s1) fun z ω2 H2 w q2 s2 a2 r2 => by
    split at q2
    · rename_i ky a kvs hk hd
      obtain ⟨rfl, hs⟩ := seqD_is hd
      obtain ⟨_, rfl⟩ := rv_ref.mp r2
      obtain ⟨oo, h1, h2, _⟩ := dgetR a2.rel hk (r1.step a1.rel.off_of s2) hs
      obtain ⟨b, e, q⟩ := q2
      refine ⟨_, oo, rfl, h1, ⟨b, ?_, k b ω2 H2 q (s1.trans s2) a2⟩⟩
      injection e with e
      rw [h2, ← e]
      rfl
    · exact q2.elim
/-- pairs of numbers as keys -/
def pkOf : Val → Option (Int × Int)
  | .tup [.int i, .int j] => some (i, j)
  | _ => none
def pGet (kvs : List ((Int × Int) × Int)) (k : Int × Int) : Option Int := match kvs with
  | [] => none
  | (j, v) :: r => if j = k then some v else pGet r k
theorem pget_rel {k : Int × Int} : ∀ {kvs : List ((Int × Int) × Int)}, valV (kvs.map fun kv => (([.inl kv.1.1, .inl kv.1.2] : List Key), V.int kv.2)) [.inl k.1, .inl k.2] = (pGet kvs k).map V.int
  | [] => rfl
  | (j, v) :: kvs => by
    unfold pGet
    by_cases q : j = k
    · subst q
      rw [if_pos rfl]
      exact valV_pos rfl
    · rw [if_neg q, ← pget_rel]
      refine valV_neg fun z => q ?_
      injection z with z1 z2
      injection z2 with z2 z3
      exact Prod.ext (Sum.inl.inj z1) (Sum.inl.inj z2)
/-- d[k] -/
def oDGet : O2 := fun d kv μ Q => match d with
  | .pmp kvs => match pkOf kv with
    | some k => match pGet kvs k with
      | some n => Q (.int n) μ
      | none => False
    | none => False
  | d => match kyOf kv, seqD μ d with
    | some k, some (_, kvs) => match dGet kvs k with
      | some v => Q v μ
      | none => False
    | _, _ => False
theorem pk_rel {kv : Val} {w : V} {k : Int × Int} (h : RelV F A ω H kv w) (e : pkOf kv = some k) : ∃ b, w = .ref b ∧ H b = some (.tup (([.inl k.1, .inl k.2] : List Key).map kV)) := by
  unfold pkOf at e
  split at e
  · cases e
    obtain ⟨p, ws, rfl, h2, h3⟩ := rv_tup.mp h
    obtain ⟨u1, r1, rfl, k1, h3⟩ := rvs_cons.mp h3
    obtain ⟨u2, r2, rfl, k2, h3⟩ := rvs_cons.mp h3
    obtain rfl := rvs_nil.mp h3
    rw [rv_int.mp k1, rv_int.mp k2] at h2
    exact ⟨p, rfl, h2⟩
  · cases e
theorem ie_dget (hu : X.A.units + 1 < cLine) (ho : IE X F W o mo) (hi : IE X F W i mi) (hs : NoSl i := by exact fun _ _ => rfl) : IE X F W (.Subscript o i pos) (mOp oDGet mo mi) := (pe_dget hu ho hi hs).imp fun σv H Q ⟨A0, ω, σ, Qm, Em, a0, h, k, kx⟩ =>
  deE a0 h kx fun y ω1 H1 u q1 s1 a1 r1 => deE a1 q1 (kx.step s1) fun z ω2 H2 w q2 s2 a2 r2 => by
    have r1' := r1.step a1.rel.off_of s2
    unfold oDGet at q2
    split at q2
    · rename_i kvs
      split at q2
      rotate_left
      · exact q2.elim
      rename_i ky hk
      split at q2
      rotate_left
      · exact q2.elim
      rename_i n hn
      obtain ⟨q, rfl, h2, _⟩ := rv_pmp.mp r1'
      obtain ⟨b, rfl, hb⟩ := pk_rel r2 hk
      refine ⟨q, .int n, rfl, ?_, k _ ω2 H2 _ q2 (s1.trans s2) a2 (rv_int.mpr rfl)⟩
      have := DGet.t h2 hb
      rw [pget_rel, hn] at this
      exact this
    · split at q2
      · rename_i ky a kvs hk hd
        obtain ⟨rfl, hs⟩ := seqD_is hd
        obtain ⟨_, rfl⟩ := rv_ref.mp r1'
        split at q2
        · rename_i v hv
          obtain ⟨oo, h1, h2, h3⟩ := dgetR a2.rel hk r2 hs
          obtain ⟨w', rfl, h4⟩ := h3 v hv
          exact ⟨_, w', rfl, h1, k _ ω2 H2 _ q2 (s1.trans s2) a2 h4⟩
        · exact q2.elim
      · exact q2.elim
/-- d.get(k), d.get(k, x), d.pop(k), d.pop(k, x) -/
def isDct (μ : Sto) : Val → Bool
  | .pmp _ => true
  | v => (seqD μ v).isSome
theorem isD_rel (r : Rel F A ω H) (h : RelV F A ω H v u) (e : isDct ω.μ v = true) : ∃ q, u = .ref q ∧ IsD H q := by
  have gen : (seqD ω.μ v).isSome = true → ∃ q, u = .ref q ∧ IsD H q := fun e => by
    obtain ⟨⟨a, kvs⟩, hd⟩ := Option.isSome_iff_exists.mp e
    obtain ⟨rfl, hs⟩ := seqD_is hd
    obtain ⟨_, rfl⟩ := rv_ref.mp h
    obtain ⟨_, ws, h1, _⟩ := (r.ob a _ hs).2.2
    exact ⟨_, rfl, .inl ⟨_, .inl h1⟩⟩
  cases v with
  | pmp kvs =>
    obtain ⟨q, rfl, h2, _⟩ := rv_pmp.mp h
    exact ⟨q, rfl, .inr ⟨_, .inl h2⟩⟩
  | _ => exact gen e
def oDGet1 (dflt : Val) : O2 := fun d kv μ Q => match d with
  | .pmp kvs => match pkOf kv with
    | some k => match pGet kvs k with
      | some n => Q (.int n) μ
      | none => Q dflt μ
    | none => False
  | d => match kyOf kv, seqD μ d with
    | some k, some (_, kvs) => match dGet kvs k with
      | some v => Q v μ
      | none => Q dflt μ
    | _, _ => False
theorem oDGet1_is {dflt d kv : Val} {ud uk : V} {Qm : QV} {Q : VK} {w : V} (r : Rel F A ω H) (hd : RelV F A ω H d ud) (hk : RelV F A ω H kv uk) (hw : RelV F A ω H dflt w) (h : oDGet1 dflt d kv ω.μ Qm) (k : ∀ v u, Qm v ω.μ → RelV F A ω H v u → Q u H) : ∃ q, ud = .ref q ∧ ∃ oo, DGet H q uk oo ∧ Q (oo.getD w) H := by
  unfold oDGet1 at h
  split at h
  · rename_i kvs
    split at h
    rotate_left
    · exact h.elim
    rename_i ky hky
    obtain ⟨q, rfl, h2, _⟩ := rv_pmp.mp hd
    obtain ⟨b, rfl, hb⟩ := pk_rel hk hky
    refine ⟨q, rfl, _, DGet.t h2 hb, ?_⟩
    rw [pget_rel]
    split at h
    · rename_i n hn
      rw [hn]
      exact k _ _ h (rv_int.mpr rfl)
    · rename_i hn
      rw [hn]
      exact k _ _ h hw
  · split at h
    · rename_i ky a kvs hky hd'
      obtain ⟨rfl, hs⟩ := seqD_is hd'
      obtain ⟨_, rfl⟩ := rv_ref.mp hd
      obtain ⟨oo, h1, h2, h3⟩ := dgetR r hky hk hs
      refine ⟨_, rfl, oo, h1, ?_⟩
      split at h
      · rename_i v hv
        obtain ⟨w', rfl, h4⟩ := h3 v hv
        exact k _ _ h h4
      · rename_i hv
        rw [hv] at h2
        cases oo with
        | none => exact k _ _ h hw
        | some z => cases h2
    · exact h.elim
def mDGet1 (mo mi : ME) : ME := fun σ μ Q E => mo σ μ (fun d μ1 => isDct μ1 d = true ∧ mi σ μ1 (fun kv μ2 => oDGet1 .non d kv μ2 Q) E) E
theorem ie_dget1 (hu : X.A.units + 1 < cLine) (ho : IE X F W o mo) (hi : IE X F W e mi) (m : M1 X o "get" apos e cpos) : IE X F W (.Call (.Attribute o "get" apos) [e] [] cpos) (mDGet1 mo mi) := (pe_dget1 hu ho hi m).imp fun σv H Q ⟨A0, ω, σ, Qm, Em, a0, h, k, kx⟩ =>
  deE a0 h kx fun y ω1 H1 u q1 s1 a1 r1 => by
    obtain ⟨q, rfl, hd⟩ := isD_rel a1.rel r1 q1.1
    refine ⟨q, rfl, hd, deE a1 q1.2 (kx.step s1) fun z ω2 H2 w q2 s2 a2 r2 => ?_⟩
    obtain ⟨q', e, oo, h1, h2⟩ := oDGet1_is (Q := Q) (w := .non) a2.rel (r1.step a1.rel.off_of s2) r2 (rv_non.mpr rfl) q2 fun v u qv rv => k v ω2 H2 u qv (s1.trans s2) a2 rv
    cases e
    exact ⟨oo, h1, h2⟩
def mDGet2 (mo mi mx : ME) : ME := fun σ μ Q E => mo σ μ (fun d μ1 => isDct μ1 d = true ∧ mi σ μ1 (fun kv μ2 => mx σ μ2 (fun x μ3 => oDGet1 x d kv μ3 Q) E) E) E
theorem ie_dget2 {ex : Expr} {mx : ME} (hu : X.A.units + 1 < cLine) (ho : IE X F W o mo) (hi : IE X F W e mi) (hx : IE X F W ex mx) (m : M2 X o "get" apos e ex cpos) : IE X F W (.Call (.Attribute o "get" apos) [e, ex] [] cpos) (mDGet2 mo mi mx) := (pe_dget2 hu ho hi hx m).imp fun σv H Q ⟨A0, ω, σ, Qm, Em, a0, h, k, kx⟩ =>
  deE a0 h kx fun y ω1 H1 u q1 s1 a1 r1 => by
    obtain ⟨q, rfl, hd⟩ := isD_rel a1.rel r1 q1.1
    refine ⟨q, rfl, hd, deE a1 q1.2 (kx.step s1) fun z ω2 H2 w q2 s2 a2 r2 => deE a2 q2 (kx.step (s1.trans s2)) fun z3 ω3 H3 w3 q3 s3 a3 r3 => ?_⟩
    obtain ⟨q', e, oo, h1, h2⟩ := oDGet1_is (Q := Q) (w := w3) a3.rel ((r1.step a1.rel.off_of s2).step a2.rel.off_of s3) (r2.step a2.rel.off_of s3) r3 q3 fun v u qv rv => k v ω3 H3 u qv (s1.trans (s2.trans s3)) a3 rv
    cases e
    exact ⟨oo, h1, h2⟩
theorem dic_put {a : Nat} {kvs kvs' : List (Ky × Val)} {ws' : List V} (r : Rel F A ω H) (hs : ω.μ.o a = some (.dic kvs)) (nd : (kvs'.map (·.1)).Nodup) (h : RelVs F A ω H (kvs'.map (·.2)) ws') : Stp ω H (ω.put a (.dic kvs')) (upd H (ω.m a) (.dK (zk kvs' ws'))) ∧ Rel F A (ω.put a (.dic kvs')) (upd H (ω.m a) (.dK (zk kvs' ws'))) := by
  have la : ω.live a := fun z => by rw [hs] at z; cases z
  have st : Stp ω H (ω.put a (.dic kvs')) (upd H (ω.m a) (.dK (zk kvs' ws'))) := .put la
  exact ⟨st, r.put la ⟨nd, ws', upd_same, h.step r.off_of st⟩⟩
def mDPop1 (mo mi : ME) : ME := fun σ μ Q E => mo σ μ (fun d μ1 => isDct μ1 d = true ∧ mi σ μ1 (fun kv μ2 => match kyOf kv, seqD μ2 d with
  | some k, some (a, kvs) => match dGet kvs k with
    | some v => Q v (μ2.put a (.dic (dDel kvs k)))
    | none => False
  | _, _ => False) E) E
def mDPop2 (mo mi mx : ME) : ME := fun σ μ Q E => mo σ μ (fun d μ1 => isDct μ1 d = true ∧ mi σ μ1 (fun kv μ2 => mx σ μ2 (fun x μ3 => match kyOf kv, seqD μ3 d with
  | some k, some (a, kvs) => match dGet kvs k with
    | some v => Q v (μ3.put a (.dic (dDel kvs k)))
    | none => Q x μ3
  | _, _ => False) E) E) E
end
end MW

set_option Elab.async false
set_option linter.all false
set_option maxRecDepth 100000
namespace MW
open PySem PySem.Spec PyProof.Rows L2 Evl SX HW
section
variable {X : Cx} {F : Cf} {has : Cl → Bool} {A A0 : Av} {ω ω' : Om} {H H' : Hp} {W : WX} {a b c e o i : Expr} {es : List Expr} {ma mb mc me mo mi : ME} {mas mbs : MA} {pos p p2 apos cpos : Pos} {v : Val} {u : V} {vs : List Val} {us : List V} {x : Str} {T : String} {f : Fd} {σ : Lc} {σv : L2.St}
/-! ### methods of lists that may be changed -/
def refL (μ : Sto) : Val → Option (Nat × List Val)
  | .ref a => match μ.o a with
    | some (.lst vs) => some (a, vs)
    | _ => none
  | _ => none
theorem refL_is {a : Nat} {vs : List Val} {μ : Sto} (e : refL μ v = some (a, vs)) : v = .ref a ∧ μ.o a = some (.lst vs) := by
  cases v with
  | ref b =>
    simp only [refL] at e
    cases q : μ.o b with
    | none => rw [q] at e; cases e
    | some o =>
      rw [q] at e
      cases o with
      | lst xs => cases e; exact ⟨rfl, q⟩
      | dic _ => cases e
      | ins _ _ => cases e
      | fdic _ _ => cases e
  | non => cases e
  | bl _ => cases e
  | int _ => cases e
  | str _ => cases e
  | tup _ => cases e
  | lst _ => cases e
  | scr _ => cases e
  | pmp _ => cases e
theorem lst_put {a : Nat} {vs vs' : List Val} {ws' : List V} (r : Rel F A ω H) (hs : ω.μ.o a = some (.lst vs)) (h : RelVs F A ω H vs' ws') : Stp ω H (ω.put a (.lst vs')) (upd H (ω.m a) (.lst ws')) ∧ Rel F A (ω.put a (.lst vs')) (upd H (ω.m a) (.lst ws')) := by
  have la : ω.live a := fun z => by rw [hs] at z; cases z
  have st : Stp ω H (ω.put a (.lst vs')) (upd H (ω.m a) (.lst ws')) := .put la
  exact ⟨st, r.put la ⟨ws', upd_same, h.step r.off_of st⟩⟩
/-- o.m(..): the receiver a list; what is asked of it and the arguments -/
def mLm (g : Nat → List Val → List Val → Sto → QV → Prop) (mo : ME) (m : MA) : ME := fun σ μ Q E => mo σ μ (fun x μ1 => (refL μ1 x).isSome = true ∧ m σ μ1 (fun vs μ2 => match refL μ2 x with
  | some (a, xs) => g a xs vs μ2 Q
  | none => False) E) E
def LmS (F : Cf) (r : V → List V → Hp → VK → Prop) (g : Nat → List Val → List Val → Sto → QV → Prop) : Prop := ∀ (A : Av) (ω : Om) (H : Hp) (a : Nat) (xs ys : List Val) (ws us : List V) (Qm : QV) (Q : VK), Rel F A ω H → ω.μ.o a = some (.lst xs) → H (ω.m a) = some (.lst ws) → RelVs F A ω H xs ws → RelVs F A ω H ys us → g a xs ys ω.μ Qm →
  (∀ v ω' H' u, Qm v ω'.μ → Stp ω H ω' H' → Rel F A ω' H' → RelV F A ω' H' v u → Q u H') → r (.ref (ω.m a)) us H Q
theorem tyL {a : Nat} {vs : List Val} {K : PySem.W.Frag} (r : Rel F A ω H) (hs : ω.μ.o a = some (.lst vs)) : tyV K "list" (.ref (ω.m a)) H := by
  obtain ⟨ws, h1, _⟩ := (r.ob a _ hs).2.2
  exact .inl ⟨rfl, ws, sq_of h1⟩
theorem lm {K : PySem.W.Frag} {r : V → List V → Hp → VK → Prop} {g : Nat → List Val → List Val → Sto → QV → Prop} {Q : VK} (hs : LmS F r g) (h : denE F W (mLm g mo mas) σv H Q) : tBM K "list" r (denE F W mo) (denA F W mas) σv H Q := by
  obtain ⟨A0, ω, σ, Qm, Em, a0, h, k, kx⟩ := h
  refine deE a0 h kx fun x ω1 H1 u q1 s1 a1 r1 => ?_
  obtain ⟨⟨a, xs⟩, hq⟩ := Option.isSome_iff_exists.mp q1.1
  obtain ⟨rfl, hs1⟩ := refL_is hq
  obtain ⟨_, rfl⟩ := rv_ref.mp r1
  refine ⟨tyL a1.rel hs1, deA a1 q1.2 (kx.step s1) fun vs ω2 H2 us q2 s2 a2 r2 => ?_⟩
  split at q2
  · rename_i a' xs' hq'
    obtain ⟨e, hs2⟩ := refL_is hq'
    cases e
    obtain ⟨_, eq⟩ := rv_ref.mp (r1.step a1.rel.off_of s2)
    obtain ⟨ws, h1, h2⟩ := (a2.rel.ob a _ hs2).2.2
    rw [V.ref.inj eq]
    exact hs _ ω2 H2 a xs' vs ws us Qm Q a2.rel hs2 h1 h2 r2 q2 fun v ω3 H3 z qv s3 r3 rv => k v ω3 H3 z qv (s1.trans (s2.trans s3)) (a2.step s3 r3) rv
  · exact q2.elim
def gAppend : Nat → List Val → List Val → Sto → QV → Prop := fun a xs ys μ Q => match ys with
  | [y] => xs.length < lim ∧ Q .non (μ.put a (.lst (xs ++ [y])))
  | _ => False
theorem ls_append : LmS F rAppend gAppend := fun A ω H a xs ys ws us Qm Q r hs hH rw' ry h k => by
  unfold gAppend at h
  split at h
  rotate_left
  · exact h.elim
  obtain ⟨u, _, rfl, r1, hn⟩ := rvs_cons.mp ry
  obtain rfl := rvs_nil.mp hn
  obtain ⟨st, rr⟩ := lst_put r hs (rw'.app (.one r1))
  exact ⟨_, ws, u, rfl, rfl, hH, by rw [rw'.len]; exact lim_lt h.1, k _ _ _ _ h.2 st rr (rv_non.mpr rfl)⟩
def gExtend : Nat → List Val → List Val → Sto → QV → Prop := fun a xs ys μ Q => match ys with
  | [y] => match seqL μ y with
    | some zs => xs.length + zs.length ≤ lim ∧ Q .non (μ.put a (.lst (xs ++ zs)))
    | none => False
  | _ => False
/-- xs.pop(0) -/
def gPop0 : Nat → List Val → List Val → Sto → QV → Prop := fun a xs ys μ Q => match xs, ys with
  | x :: r, [.int 0] => Q x (μ.put a (.lst r))
  | _, _ => False
/-- o.m() -/
def mLm0 (g : Nat → List Val → Sto → QV → Prop) (mo : ME) : ME := fun σ μ Q E => mo σ μ (fun x μ1 => match refL μ1 x with
  | some (a, xs) => g a xs μ1 Q
  | none => False) E
def gClear : Nat → List Val → Sto → QV → Prop := fun a _ μ Q => Q .non (μ.put a (.lst []))
theorem ie_lm {K : PySem.W.Frag} {r : V → List V → Hp → VK → Prop} {g : Nat → List Val → List Val → Sto → QV → Prop} (hs : LmS F r g) (h : PE X e (tBM K "list" r (denE F W mo) (denA F W mas))) : IE X F W e (mLm g mo mas) := h.imp fun _ _ _ h => lm hs h
/-! ### methods of texts with one argument -/
def mSm (g : List Nat → Val → Sto → QV → Prop) (mo me : ME) : ME := fun σ μ Q E => mo σ μ (fun x μ1 => match x with
  | .str l => me σ μ1 (fun y μ2 => g l y μ2 Q) E
  | _ => False) E
def lSm (g : List Nat → Val → Sto → (List Val → Sto → Prop) → Prop) (mo me : ME) : MA := fun σ μ Q E => mo σ μ (fun x μ1 => match x with
  | .str l => me σ μ1 (fun y μ2 => g l y μ2 Q) E
  | _ => False) E
/-- s.count(t), s.rfind(t): of one sign -/
def gCount : List Nat → Val → Sto → QV → Prop := fun l y μ Q => match y with
  | .str t => Q (.int (Txt.count (S l) (S t))) μ
  | _ => False
def gRfind : List Nat → Val → Sto → QV → Prop := fun l y μ Q => match y with
  | .str t => Q (.int (Txt.rfind (S l) (S t))) μ
  | _ => False
/-- s.split(t), t one sign -/
def splA (d : Nat) (acc : List Nat) : List Nat → List (List Nat)
  | [] => [acc]
  | c :: r => if c = d then acc :: splA d [] r else splA d (acc ++ [c]) r
def spl (d : Nat) (s : List Nat) : List (List Nat) := splA d [] s
theorem TLspl (d : Nat) : ∀ (s acc : List Nat), TL.spl [d] 0 acc s = splA d acc s
  | [], acc => rfl
  | c :: r, acc => by
    by_cases h : c = d
    · subst h
      rw [TL.spl_hit (by simp [TL.pre]), splA, if_pos rfl]
      exact congrArg (fun z => acc :: z) (TLspl c r [])
    · rw [TL.spl_miss (TL.pre_of_head _ _ h), splA, if_neg h]
      exact TLspl d r _
theorem splA_mem {d : Nat} : ∀ {s acc row : List Nat}, row ∈ splA d acc s → row.length ≤ acc.length + s.length ∧ ∀ c ∈ row, c ∈ acc ∨ c ∈ s
  | [], acc, row, h => by
    rw [splA] at h
    obtain rfl := List.mem_singleton.mp h
    exact ⟨Nat.le_refl _, fun c hc => .inl hc⟩
  | x :: r, acc, row, h => by
    rw [splA] at h
    split at h
    · rcases List.mem_cons.mp h with rfl | h
      · exact ⟨by omega, fun c hc => .inl hc⟩
      · obtain ⟨k1, k2⟩ := splA_mem h
        refine ⟨by rw [List.length_cons]; rw [List.length_nil] at k1; omega, fun c hc => ?_⟩
        rcases k2 c hc with z | z
        · cases z
        · exact .inr (List.mem_cons_of_mem _ z)
    · obtain ⟨k1, k2⟩ := splA_mem h
      refine ⟨by rw [List.length_append, List.length_singleton] at k1; rw [List.length_cons]; omega, fun c hc => ?_⟩
      rcases k2 c hc with z | z
      · rcases List.mem_append.mp z with z | z
        · exact .inl z
        · exact .inr (by rw [List.mem_singleton.mp z]; exact List.mem_cons_self)
      · exact .inr (List.mem_cons_of_mem _ z)
theorem SOk.spl {l : List Nat} {d : Nat} (h : SOk l) : ∀ row ∈ MW.spl d l, SOk row := fun row hr => by
  obtain ⟨k1, k2⟩ := splA_mem hr
  refine h.sub (by rw [List.length_nil] at k1; omega) fun c hc => ?_
  rcases k2 c hc with z | z
  · cases z
  · exact z
def gSplit : List Nat → Val → Sto → (List Val → Sto → Prop) → Prop := fun l y μ Q => match y with
  | .str [d] => d < 256 ∧ Q ((spl d l).map .str) μ
  | _ => False
theorem il_split (h : PE X e (tM1 (fun x xs H Q => ∃ a b, x = .str a ∧ xs = [.str b] ∧ (b.length == 0) = false ∧ a.length + 2 ≤ sizeLine ∧ rNewStrs (Txt.split a b) H Q) (denE F W mo) (denE F W me))) : IL X F W e (lSm gSplit mo me) := h.imp fun σv H Q ⟨A0, ω, σ, Qm, Em, a0, h, k, kx⟩ => deE a0 h kx fun x ω1 H1 u q1 s1 a1 r1 => by
  split at q1
  rotate_left
  · exact q1.elim
  rename_i l
  obtain ⟨rfl, h1⟩ := rv_str.mp r1
  refine ⟨⟨_, rfl⟩, deE a1 q1 (kx.step s1) fun y ω2 H2 w q2 s2 a2 r2 => ?_⟩
  unfold gSplit at q2
  split at q2
  · rename_i d
    obtain ⟨rfl, h2⟩ := rv_str.mp r2
    refine ⟨_, _, rfl, rfl, rfl, ?_, fun p hp => ?_⟩
    · rw [S_len]
      exact Nat.le_trans (Nat.add_le_add_right h1.1 2) (by decide)
    · rw [split_S (by simp) (by simpa using q2.1), TLspl]
      exact k _ ω2 H2 _ p q2.2 (s1.trans s2) a2 (rel_strs h1.spl) hp
  · exact q2.elim
/-- t.join(list of texts) -/
def gJoin : List Nat → Val → Sto → QV → Prop := fun l y μ Q => match seqL μ y with
  | some vs => match strsOf vs with
    | some ps => (TL.joinL l ps).length ≤ strLim ∧ ps.length ≤ 1000 ∧ l.length ≤ 1000 ∧ Q (.str (TL.joinL l ps)) μ
    | none => False
  | none => False
end
end MW

set_option Elab.async false
set_option linter.all false
set_option maxRecDepth 100000
namespace MW
open PySem PySem.Spec PyProof.Rows L2 Evl SX HW
section
variable {X : Cx} {F : Cf} {has : Cl → Bool} {A A0 : Av} {ω ω' : Om} {H H' : Hp} {W : WX} {a b c e o i : Expr} {es : List Expr} {ma mb mc me mo mi : ME} {mas mbs : MA} {pos p p2 apos cpos : Pos} {v : Val} {u : V} {vs : List Val} {us : List V} {x m : Str} {T : String} {f : Fd} {σ : Lc} {σv : L2.St}
theorem joinL_len (l : List Nat) : ∀ ps : List (List Nat), (ps.map (·.length)).sum ≤ (TL.joinL l ps).length
  | [] => Nat.le_refl _
  | [p] => by simp [TL.joinL]
  | p :: q :: r => by
    have := joinL_len l (q :: r)
    rw [TL.joinL, List.length_append, List.length_append, List.map_cons, List.sum_cons]
    omega
theorem joinL_mem {l : List Nat} {c : Nat} : ∀ {ps : List (List Nat)}, c ∈ TL.joinL l ps → c ∈ l ∨ ∃ q ∈ ps, c ∈ q
  | [], h => by cases h
  | [p], h => .inr ⟨p, List.mem_cons_self, h⟩
  | p :: q :: r, h => by
    rw [TL.joinL] at h
    rcases List.mem_append.mp h with h | h
    · exact .inr ⟨p, List.mem_cons_self, h⟩
    rcases List.mem_append.mp h with h | h
    · exact .inl h
    rcases joinL_mem h with h | ⟨z, h1, h2⟩
    · exact .inl h
    · exact .inr ⟨z, List.mem_cons_of_mem _ h1, h2⟩
theorem ie_join {K : PySem.W.Frag} (h : PE X e (tM1 (fun x xs H Q => ∃ a p, ∃ ys : List Str, x = .str a ∧ xs = [.ref p] ∧ (SqL K H p (ys.map V.str) ∨ SqT K H p (ys.map V.str)) ∧ (ys.map (·.length)).sum + ys.length * a.length ≤ 16777216 ∧ Q (.str (Txt.join a ys)) H) (denE F W mo) (denE F W me))) : IE X F W e (mSm gJoin mo me) := h.imp fun σv H Q ⟨A0, ω, σ, Qm, Em, a0, h, k, kx⟩ => deE a0 h kx fun x ω1 H1 u q1 s1 a1 r1 => by
  split at q1
  rotate_left
  · exact q1.elim
  rename_i l
  obtain ⟨rfl, h1⟩ := rv_str.mp r1
  refine ⟨⟨_, rfl⟩, deE a1 q1 (kx.step s1) fun y ω2 H2 w q2 s2 a2 r2 => ?_⟩
  unfold gJoin at q2
  split at q2
  rotate_left
  · exact q2.elim
  rename_i vs hq
  split at q2
  rotate_left
  · exact q2.elim
  rename_i ps hp
  obtain ⟨n1, n2, n3, q2⟩ := q2
  obtain ⟨q, ws, rfl, h2, h3⟩ := seqL_rel a2.rel r2 hq
  obtain ⟨rfl, h4⟩ := strs_rel h3 hp
  refine ⟨_, q, ps.map S, rfl, rfl, .inl (sq_of h2), ?_, ?_⟩
  · have h5 := joinL_len l ps
    have h6 : ps.length * l.length ≤ 1000 * 1000 := Nat.mul_le_mul n2 n3
    have h7 : ((ps.map S).map (·.length)).sum = (ps.map (·.length)).sum := by
      rw [List.map_map]
      exact congrArg List.sum (List.map_congr_left fun z _ => S_len z)
    rw [h7, S_len, List.length_map]
    unfold strLim at n1
    omega
  · rw [join_S]
    refine k _ ω2 H2 _ q2 (s1.trans s2) a2 (rv_str.mpr ⟨rfl, n1, List.all_eq_true.mpr fun c hc => ?_⟩)
    rcases joinL_mem hc with z | ⟨z, z1, z2⟩
    · exact List.all_eq_true.mp h1.2 c z
    · exact List.all_eq_true.mp (h4 z z1).2 c z2
/-! ### own defs -/
/-- what a def promises, by the small world -/
def spM (F : Cf) (n : Nat) (f : FnM) : Sp := fun us H Q E => us.length = n ∧ ∃ A ω vs Qm Em, Rel F A ω H ∧ RelVs F A ω H vs us ∧ f vs ω.μ Qm Em ∧
  (∀ v ω' H' u, Qm v ω'.μ → Stp ω H ω' H' → Rel F A ω' H' → RelV F A ω' H' v u → Q u H') ∧ (∀ x ω' H' cls d, Em x ω'.μ → Stp ω H ω' H' → Rel F A ω' H' → ExR F H' x cls d → E cls d H')
theorem spM.imp {n : Nat} {f g : FnM} (h : ∀ vs μ Q E, vs.length = n → g vs μ Q E → f vs μ Q E) : ∀ us H Q E, spM F n g us H Q E → spM F n f us H Q E := fun us H Q E ⟨hn, A, ω, vs, Qm, Em, r, rv, hf, k, kx⟩ => ⟨hn, A, ω, vs, Qm, Em, r, rv, h _ _ _ _ (by rw [← rv.len]; exact hn) hf, k, kx⟩
/-- a def that stands under the name x -/
structure DfM (P : Program) (w : World) (K : PySem.W.Frag) (mg : Str → Option Value) (base : Heap) (F : Cf) (x : Str) (ps : List Str) (k : Nat) (f : FnM) : Prop where
  ex : ∃ fa fd, FnOk P w K mg base (L2.CX P w) k fa fd ps (spM F ps.length f) ∧ mg x = some (.ref fa) ∧ PySem.W.keepIn K (.ref fa) = true ∧ Binds K fd ps []
/-- with so many arguments -/
def ck (n : Nat) (f : FnM) : FnM := fun vs μ Q E => vs.length = n ∧ f vs μ Q E
def mCall (f : FnM) (m : MA) : ME := fun σ μ Q E => m σ μ (fun vs μ1 => f vs μ1 Q E) E
theorem spM.call {n : Nat} {f : FnM} {vs : List Val} {Qm : QV} {Em : QX} {Q : VK} (a1 : At F A0 ω H σ σv) (hn : vs.length = n) (r : RelVs F (AO A0 σ σv) ω H vs us) (h : f vs ω.μ Qm Em) (k : ∀ v ω' H' u, Qm v ω'.μ → Stp ω H ω' H' → At F A0 ω' H' σ σv → RelV F (AO A0 σ σv) ω' H' v u → Q u H') (kx : KX F W A0 ω H σ σv Em) : spM F n f us H Q (WE W σv) :=
  ⟨by rw [r.len, hn], _, ω, vs, Qm, Em, a1.rel, r, h, fun v ω' H' u q s rr rv => k v ω' H' u q s (a1.step s rr) rv, fun x ω' H' cls d q s rr ex => kx x ω' H' cls d q s (a1.step s rr) ex⟩
theorem ie_call {fm : FnM} {ps : List Str} {k : Nat} (d : DfM X.prog X.w X.K X.mg X.base F x ps k fm) (hr : Room k X.A) (tk : Takes X W) (ha : IA X F W (e :: es) mas) (hg : Gl X x := by rfl) (hdb : (x == ("__debug__" : Str)) = false := by decide)
    (he : starEach (e :: es) X.env = (false, eval e X.env) :: starEach es X.env := by rfl) (hpl : (backTo pos (starEach es X.env)).any (·.1) = false := by rfl) {n : Nat} (hn : ps.length = n := by rfl) : IE X F W (.Call (.Name x p) (e :: es) [] pos) (mCall (ck n fm) mas) := by
  subst hn
  obtain ⟨fa, fd, Fk, hm, hk, hb⟩ := d.ex
  refine (pe_callS Fk hr hg hm hk hb (fun σ => passAt tk σ) ha hdb he hpl).imp fun σv H Q ⟨A0, ω, σ, Qm, Em, a0, h, k, kx⟩ => ?_
  exact deA a0 h kx fun vs ω1 H1 us q1 s1 a1 r1 => spM.call a1 q1.1 r1 q1.2 (fun v ω2 H2 u qv s2 a2 rv => k v ω2 H2 u qv (s1.trans s2) a2 rv) (kx.step s1)
/-! ### methods -/
def tMethS (C : Addr) (m : Str) (sp : Sp) (E : L2.St → XK) (ta : TE) (t : TA) : TE := fun σ H Q => ta σ H fun x H1 => ∃ a dx fs, x = .ref a ∧ H1 a = some (.ins C dx fs) ∧ fs.lookup m = none ∧ t σ H1 fun vs H2 => sp (x :: vs) H2 Q (E σ)
end
end MW

set_option Elab.async false
set_option linter.all false
set_option maxRecDepth 100000
namespace MW
open PySem PySem.Spec PyProof.Rows L2 Evl SX HW
section
variable {X : Cx} {F : Cf} {has : Cl → Bool} {A A0 : Av} {ω ω' : Om} {H H' : Hp} {W : WX} {a b e o i : Expr} {es : List Expr} {ma mb mc me mo mi : ME} {mas mbs : MA} {pos p p2 apos cpos : Pos} {v : Val} {u : V} {vs : List Val} {us : List V} {x m : Str} {f : Fd} {σ : Lc} {σv : L2.St} {c : Cl}
theorem look_none {ws : List V} (hm : (Fd.all.all fun f => decide (f.s ≠ m)) = true) : ∀ (fs : List (Fd × Val)) (ws : List V), ((fs.map (·.1.s)).zip ws).lookup m = none
  | [], _ => rfl
  | (g, x) :: fs, [] => rfl
  | (g, x) :: fs, w :: ws => by
    have hg : g ∈ Fd.all := by cases g <;> decide
    have := of_decide_eq_true (List.all_eq_true.mp hm g hg)
    show List.lookup m ((g.s, w) :: _) = none
    rw [List.lookup_cons, beq_eq_false_iff_ne.mpr (fun z => this z.symm)]
    exact look_none (ws := ws) hm fs ws
def mMeth (c : Cl) (fm : FnM) (mo : ME) (m : MA) : ME := fun σ μ Q E => mo σ μ (fun x μ1 => match seqI μ1 x with
  | some (_, c', _) => c' = c ∧ m σ μ1 (fun vs μ2 => fm (x :: vs) μ2 Q E) E
  | none => False) E
theorem meth {fm : FnM} {ps : List Str} {Q : VK} (hm : (Fd.all.all fun f => decide (f.s ≠ m)) = true) (h : denE F W (mMeth c (ck ps.length fm) mo mas) σv H Q) : tMethS (F.cA c) m (spM F ps.length fm) (WE W) (denE F W mo) (denA F W mas) σv H Q := by
  obtain ⟨A0, ω, σ, Qm, Em, a0, h, k, kx⟩ := h
  refine deE a0 h kx fun x ω1 H1 u q1 s1 a1 r1 => ?_
  split at q1
  rotate_left
  · exact q1.elim
  rename_i a c' fs hi
  obtain ⟨rfl, q1⟩ := q1
  obtain ⟨rfl, hs⟩ := seqI_is hi
  obtain ⟨_, rfl⟩ := rv_ref.mp r1
  obtain ⟨dx, ws, h1, h2⟩ := (a1.rel.ob a _ hs).2.2
  exact ⟨_, dx, _, rfl, h1, look_none (ws := ws) hm fs ws, deA a1 q1 (kx.step s1) fun vs ω2 H2 us q2 s2 a2 r2 => spM.call a2 q2.1 (.cons (r1.step a1.rel.off_of s2) r2) q2.2 (fun v ω3 H3 u qv s3 a3 rv => k v ω3 H3 u qv (s1.trans (s2.trans s3)) a3 rv) (kx.step (s1.trans s2))⟩
/-! ### new objects -/
def mMake (c : Cl) (fm : FnM) (m : MA) : ME := fun σ μ Q E => m σ μ (fun vs μ1 => fm (.ref μ1.n :: vs) (μ1.new (.ins c [])) (fun v μ2 => v = .non ∧ Q (.ref μ1.n) μ2) E) E
theorem make {fm : FnM} {n : Nat} {Qm : QV} {Em : QX} {Q : VK} (a1 : At F A0 ω H σ σv) (hn : vs.length + 1 = n) (r : RelVs F (AO A0 σ σv) ω H vs us) (h : fm (.ref ω.μ.n :: vs) (ω.μ.new (.ins c [])) (fun v μ2 => v = .non ∧ Qm (.ref ω.μ.n) μ2) Em)
    (k : ∀ v ω' H' u, Qm v ω'.μ → Stp ω H ω' H' → At F A0 ω' H' σ σv → RelV F (AO A0 σ σv) ω' H' v u → Q u H') (kx : KX F W A0 ω H σ σv Em) :
    ∀ x dx, H x = none → H dx = none → dx ≠ x → spM F n fm (.ref x :: us) (upd (upd H dx (.own x)) x (.ins (F.cA c) dx [])) (fun v H2 => v = .non ∧ Q (.ref x) H2) (WE W σv) := fun x dx hx hdx ne => by
  have r0 : Rel F (AO A0 σ σv) ω (upd H dx (.own x)) := a1.rel.fresh hdx
  have s0 : Stp ω H ω (upd H dx (.own x)) := .fresh hdx
  have hx1 : upd H dx (.own x) x = none := by rw [upd_ne ne.symm]; exact hx
  have s1 : Stp ω (upd H dx (.own x)) (ω.new x (.ins c [])) (upd (upd H dx (.own x)) x (.ins (F.cA c) dx [])) := .new r0 hx1
  have r1 : Rel F (AO A0 σ σv) (ω.new x (.ins c [])) (upd (upd H dx (.own x)) x (.ins (F.cA c) dx [])) := r0.new hx1 ⟨dx, [], upd_same, rvs_nil.mpr rfl⟩
  have st := s0.trans s1
  have em : (ω.new x (.ins c [])).m ω.μ.n = x := if_pos rfl
  have rx : RelV F (AO A0 σ σv) (ω.new x (.ins c [])) (upd (upd H dx (.own x)) x (.ins (F.cA c) dx [])) (.ref ω.μ.n) (.ref x) := rv_ref.mpr ⟨Nat.lt_succ_self _, by rw [em]⟩
  refine ⟨by rw [List.length_cons, r.len, hn], _, ω.new x (.ins c []), .ref ω.μ.n :: vs, _, Em, r1, .cons rx (r.step a1.rel.off_of st), h, fun v ω' H' u q s rr rv => ?_, fun y ω' H' cls d q s rr ex => kx y ω' H' cls d q (st.trans s) (a1.step (st.trans s) rr) ex⟩
  obtain ⟨rfl, q⟩ := q
  refine ⟨rv_non.mp rv, k _ ω' H' _ q (st.trans s) (a1.step (st.trans s) rr) (rx.step r1.off_of s)⟩
end
end MW

set_option Elab.async false
set_option linter.all false
set_option maxRecDepth 100000
namespace MW
open PySem PySem.Spec PyProof.Rows L2 Evl SX HW
/-! ### targets -/
inductive Tg where
  | nm (i : Nat) | tp (ts : List Tg)
mutual
def Tg.g (K : PySem.W.Frag) : Tg → TG
  | .nm i => gName i
  | .tp ts => gTup K ts.length (Tg.gs K ts)
def Tg.gs (K : PySem.W.Frag) : List Tg → TGs
  | [] => gNil
  | t :: ts => gCons (Tg.g K t) (Tg.gs K ts)
end
mutual
def Tg.mt : Tg → Val → Lc → Option Lc
  | .nm i, v, σ => some (σ.set i (.val v))
  | .tp ts, .tup vs, σ => if vs.length = ts.length then Tg.mts ts vs σ else none
  | .tp _, _, _ => none
def Tg.mts : List Tg → List Val → Lc → Option Lc
  | [], [], σ => some σ
  | t :: ts, v :: vs, σ => match Tg.mt t v σ with
    | some σ1 => Tg.mts ts vs σ1
    | none => none
  | _, _, _ => none
end
structure MEnds where
  nx : Lc → Sto → Prop
  rt : QV
abbrev MS := MEnds → Lc → Sto → QX → Prop
def KXs (F : Cf) (W : WX) (fe : Fe) (Em : QX) : Prop := ∀ x ω' H' cls d σ' σv', Em x ω'.μ → AtF F fe ω' H' σ' σv' → ExR F H' x cls d → W cls d σv' H'
def KN (F : Cf) (fe : Fe) (Dm : MEnds) (D : Ends) : Prop := ∀ σ' σv' ω' H', Dm.nx σ' ω'.μ → AtF F fe ω' H' σ' σv' → D.nx σv' H'
def KR (F : Cf) (fe : Fe) (Dm : MEnds) (D : Ends) : Prop := ∀ v ω' H' u, Dm.rt v ω'.μ → StpX fe.O0 fe.ω0 fe.H0 ω' H' → Rel F fe.A0 ω' H' → RelV F fe.A0 ω' H' v u → D.rt u H'
def denS (F : Cf) (W : WX) (m : MS) : TS := fun D σv H => ∃ fe ω σ Dm Em, AtF F fe ω H σ σv ∧ m Dm σ ω.μ Em ∧ KN F fe Dm D ∧ KR F fe Dm D ∧ KXs F W fe Em
abbrev IS (X : Cx) (F : Cf) (W : WX) (s : Stmt) (m : MS) : Prop := PS X s (denS F W m)
abbrev ISs (X : Cx) (F : Cf) (W : WX) (s : List Stmt) (m : MS) : Prop := PSs X s (denS F W m)
section
variable {X : Cx} {F : Cf} {has : Cl → Bool} {A A0 : Av} {ω ω' : Om} {H H' : Hp} {W : WX} {a b e o i value : Expr} {es : List Expr} {ma mb mc me mo mi mv : ME} {mas mbs : MA} {pos p p2 apos cpos pos' tpos : Pos} {v : Val} {u : V} {vs : List Val} {us : List V} {x m : Str} {f : Fd} {σ : Lc} {σv : L2.St} {c : Cl} {fe : Fe} {Em : QX} {Dm : MEnds} {D : Ends} {st : Stmt} {sts : List Stmt} {ms mt mr : MS} {tt : MT}
theorem KXs.ex (kx : KXs F W fe Em) (a0 : AtF F fe ω H σ σv) : KX F W fe.A0 ω H σ σv Em := fun x ω' H' cls d q s a1 ex => kx x ω' H' cls d σ σv q (a0.step s a1) ex
theorem deS (a0 : AtF F fe ω H σ σv) (h : ms Dm σ ω.μ Em) (kn : KN F fe Dm D) (kr : KR F fe Dm D) (kx : KXs F W fe Em) : denS F W ms D σv H := ⟨fe, ω, σ, Dm, Em, a0, h, kn, kr, kx⟩
theorem AO.sub {A0 : Av} {σ : Lc} {σv : L2.St} : ∀ p, A0 p → AO A0 σ σv p := fun _ h => .inl h
def sNil : MS := fun D σ μ _ => D.nx σ μ
def sSeq (a b : MS) : MS := fun D σ μ E => a { D with nx := fun σ' μ' => b D σ' μ' E } σ μ E
theorem iss_nil : ISs X F W [] sNil := pss_nil.imp fun D σv H ⟨fe, ω, σ, Dm, Em, a0, h, kn, kr, kx⟩ => kn σ σv ω H h a0
theorem iss_cons (h1 : IS X F W st ms) (h2 : ISs X F W sts mt) : ISs X F W (st :: sts) (sSeq ms mt) := (pss_cons h1 h2).imp fun D σv H ⟨fe, ω, σ, Dm, Em, a0, h, kn, kr, kx⟩ => deS (D := { D with nx := denS F W mt D }) a0 h (fun σ' σv' ω' H' q a1 => deS a1 q kn kr kx) kr kx
theorem iss_one (h1 : IS X F W st ms) : ISs X F W [st] ms := pss_one h1
def sPass : MS := fun D σ μ _ => D.nx σ μ
def sExpr (m : ME) : MS := fun D σ μ E => m σ μ (fun _ μ1 => D.nx σ μ1) E
theorem is_expr (he : IE X F W e me) (hs : swapsWith e none pos.line X.env = pure false := by rfl) : IS X F W (.Expr e pos) (sExpr me) := (ps_expr he hs).imp fun D σv H ⟨fe, ω, σ, Dm, Em, a0, h, kn, kr, kx⟩ => deE a0.toAt h (kx.ex a0) fun v ω1 H1 u q1 s1 a1 r1 => kn σ σv ω1 H1 q1 (a0.step s1 a1)
def sRet (m : ME) : MS := fun D σ μ E => m σ μ (fun v μ1 => D.rt v μ1) E
theorem is_ret (he : IE X F W e me) : IS X F W (.Return (some e) pos) (sRet me) := (ps_ret he).imp fun D σv H ⟨fe, ω, σ, Dm, Em, a0, h, kn, kr, kx⟩ => deE a0.toAt h (kx.ex a0) fun v ω1 H1 u q1 s1 a1 r1 => kr v ω1 H1 u q1 (a0.st.thn s1) (a1.rel.less AO.sub) (r1.av fun p z => .inl (AO.sub p z))
def sRetN : MS := fun D _ μ _ => D.rt .non μ
def sIf (t : MT) (a b : MS) : MS := fun D σ μ E => t σ μ (fun k μ1 => if k = true then a D σ μ1 E else b D σ μ1 E) E
theorem is_if {sa sb : List Stmt} (hc : IT X F W e tt) (ha : ISs X F W sa ms) (hb : ISs X F W sb mt) : IS X F W (.If e sa sb pos) (sIf tt ms mt) := (ps_if hc ha hb).imp fun D σv H ⟨fe, ω, σ, Dm, Em, a0, h, kn, kr, kx⟩ => deT a0.toAt h (kx.ex a0) fun k ω1 H1 q1 s1 a1 => by
  have a1' := a0.step s1 a1
  cases k with
  | true => exact iteT (deS a1' q1 kn kr kx)
  | false => exact iteF (deS a1' q1 kn kr kx)
end
mutual
/-- a target takes a value: the slots hold it -/
theorem Tg.ok {F : Cf} {fe : Fe} {ω : Om} {H : Hp} {K : PySem.W.Frag} (hK : K = F.K) : ∀ (t : Tg) {σ σ' : Lc} {σv : L2.St} {v : Val} {u : V} {Q : L2.St → Hp → Prop}, AtF F fe ω H σ σv → RelV F (AO fe.A0 σ σv) ω H v u → t.mt v σ = some σ' → (∀ σv', AtF F fe ω H σ' σv' → (∀ p, AO fe.A0 σ' σv' p → AO fe.A0 σ σv p) → Q σv' H) → Tg.g K t u σv H Q
  | .nm i, σ, σ', σv, v, u, Q, a0, r, e, k => by
    rw [Tg.mt] at e
    cases e
    rw [Tg.g]
    exact k _ (a0.set rfl ⟨u, rfl, r⟩) (AO.set rfl)
  | .tp ts, σ, σ', σv, v, u, Q, a0, r, e, k => by
    cases v with
    | tup vs =>
      rw [Tg.mt] at e
      split at e
      rotate_left
      · cases e
      rename_i hl
      obtain ⟨p, ws, rfl, h2, h3⟩ := rv_tup.mp r
      rw [Tg.g]
      exact ⟨p, ws, rfl, st_of h2, by rw [h3.len, hl], Tg.oks hK ts a0 h3 e k⟩
    | _ => rw [Tg.mt] at e <;> first | (cases e; done) | (intro _ z; cases z)
theorem Tg.oks {F : Cf} {fe : Fe} {ω : Om} {H : Hp} {K : PySem.W.Frag} (hK : K = F.K) : ∀ (ts : List Tg) {σ σ' : Lc} {σv : L2.St} {vs : List Val} {us : List V} {Q : L2.St → Hp → Prop}, AtF F fe ω H σ σv → RelVs F (AO fe.A0 σ σv) ω H vs us → Tg.mts ts vs σ = some σ' → (∀ σv', AtF F fe ω H σ' σv' → (∀ p, AO fe.A0 σ' σv' p → AO fe.A0 σ σv p) → Q σv' H) → Tg.gs K ts us σv H Q
  | [], σ, σ', σv, vs, us, Q, a0, r, e, k => by
    cases vs with
    | nil =>
      rw [Tg.mts] at e
      cases e
      rw [Tg.gs]
      exact ⟨rvs_nil.mp r, k _ a0 fun p h => h⟩
    | cons v vs => rw [Tg.mts] at e <;> first | (cases e; done) | simp
  | t :: ts, σ, σ', σv, vs, us, Q, a0, r, e, k => by
    cases vs with
    | nil => rw [Tg.mts] at e <;> first | (cases e; done) | simp
    | cons v vs =>
      rw [Tg.mts] at e
      obtain ⟨u, us', rfl, h2, h3⟩ := rvs_cons.mp r
      rw [Tg.gs]
      cases q : t.mt v σ with
      | none => simp only [q] at e; cases e
      | some σ1 =>
        simp only [q] at e
        refine ⟨u, us', rfl, Tg.ok hK t a0 h2 q fun σv1 a1 sub => Tg.oks hK ts a1 (h3.av fun p z => .inl (sub p z)) e fun σv' a2 sub2 => k σv' a2 fun p z => sub p (sub2 p z)⟩
end
section
variable {X : Cx} {F : Cf} {has : Cl → Bool} {A A0 : Av} {ω ω' : Om} {H H' : Hp} {W : WX} {a b e o i value tg : Expr} {es : List Expr} {ma mb mc me mo mi mv : ME} {mas mbs : MA} {pos p p2 apos cpos pos' tpos : Pos} {v : Val} {u : V} {vs : List Val} {us : List V} {x m : Str} {f : Fd} {σ : Lc} {σv : L2.St} {c : Cl} {fe : Fe} {Em : QX} {Dm : MEnds} {D : Ends} {st : Stmt} {sts : List Stmt} {ms mt mr : MS} {tt : MT}
def sAsg (t : Tg) (m : ME) : MS := fun D σ μ E => m σ μ (fun v μ1 => match t.mt v σ with
  | some σ1 => D.nx σ1 μ1
  | none => False) E
theorem is_asg {t : Tg} (hK : X.K = F.K) (h : PS X st (tAsg (denE F W me) (t.g X.K))) : IS X F W st (sAsg t me) := h.imp fun D σv H ⟨fe, ω, σ, Dm, Em, a0, h, kn, kr, kx⟩ => deE a0.toAt h (kx.ex a0) fun v ω1 H1 u q1 s1 a1 r1 => by
  split at q1
  · rename_i σ1 hq
    exact Tg.ok hK t (a0.step s1 a1) r1 hq fun σv' a2 _ => kn σ1 σv' ω1 H1 q1 a2
  · exact q1.elim
/-- x, y = e1, e2 -/
def sPar (i j : Nat) (m : MA) : MS := fun D σ μ E => m σ μ (fun vs μ1 => match vs with
  | [v, w] => D.nx ((σ.set i (.val v)).set j (.val w)) μ1
  | _ => False) E
theorem is_par {i j : Nat} (h : PS X st (tPar i j (denA F W mas))) : IS X F W st (sPar i j mas) := h.imp fun D σv H ⟨fe, ω, σ, Dm, Em, a0, h, kn, kr, kx⟩ => deA a0.toAt h (kx.ex a0) fun vs ω1 H1 us q1 s1 a1 r1 => by
  split at q1
  rotate_left
  · exact q1.elim
  obtain ⟨u1, _, rfl, r2, hn⟩ := rvs_cons.mp r1
  obtain ⟨u2, _, rfl, r3, hn⟩ := rvs_cons.mp hn
  obtain rfl := rvs_nil.mp hn
  have b1 := (a0.step s1 a1).set (i := i) (s := .val _) rfl ⟨u1, rfl, r2⟩
  have b2 := b1.set (i := j) (s := .val _) rfl ⟨u2, rfl, r3.av fun p z => .inl (AO.set rfl p z)⟩
  exact ⟨u1, u2, rfl, kn _ _ ω1 H1 q1 b2⟩
/-- x = a new list, to be changed here -/
def sOwn (i : Nat) (m : MA) : MS := fun D σ μ E => m σ μ (fun vs μ1 => D.nx (σ.set i (.own vs)) μ1) E
theorem is_own {i : Nat} (h : PS X st (tAsg (denL F W mas) (gName i))) : IS X F W st (sOwn i mas) := h.imp fun D σv H ⟨fe, ω, σ, Dm, Em, a0, h, kn, kr, kx⟩ => deL a0.toAt h (kx.ex a0) fun vs ω1 H1 us p q1 s1 a1 r1 hp => by
  have b1 := a0.step s1 a1
  exact kn _ _ ω1 _ q1 (b1.setOwn (i := i) (s := .own vs) hp (b1.st.t p hp) rfl (.inl trivial) ⟨p, us, rfl, upd_same, r1.grow b1.rel hp⟩)
/-- an own list becomes a list that stays (nothing happens) -/
def sFrz (i : Nat) (m : MS) : MS := fun D σ μ E => match σ[i]? with
  | some (.own vs) => m D (σ.set i (.val (.lst vs))) μ E
  | _ => False
theorem is_frz {i : Nat} (h : IS X F W st ms) : IS X F W st (sFrz i ms) := h.imp fun D σv H ⟨fe, ω, σ, Dm, Em, a0, h, kn, kr, kx⟩ => by
  unfold sFrz at h
  split at h
  · rename_i vs hq
    exact deS (a0.freeze hq) h kn kr kx
  · exact h.elim
end
end MW

set_option Elab.async false
set_option linter.all false
set_option maxRecDepth 100000
namespace MW
open PySem PySem.Spec PyProof.Rows L2 Evl SX HW
section
variable {X : Cx} {F : Cf} {has : Cl → Bool} {A A0 : Av} {ω ω' : Om} {H H' : Hp} {W : WX} {a b e o i value tg : Expr} {es : List Expr} {ma mb mc me mo mi mv : ME} {mas mbs : MA} {pos p p2 apos cpos pos' tpos : Pos} {v : Val} {u : V} {vs : List Val} {us : List V} {x m : Str} {f : Fd} {σ : Lc} {σv : L2.St} {c : Cl} {fe : Fe} {Em : QX} {Dm : MEnds} {D : Ends} {st : Stmt} {sts : List Stmt} {ms mt mr : MS} {tt : MT}
theorem Stp.ext (e : Ex H H') : Stp ω H ω H' := ⟨Nat.le_refl _, fun _ _ => rfl, fun p o h _ f => ⟨e p o h, f⟩, fun p h => fresh_back e h⟩
theorem Rel.ext (r : Rel F A ω H) (e : Ex H H') : Rel F A ω H' := by
  refine ⟨fun a o q => ?_, r.inj, r.tabs.ext e, fun p hp => ?_⟩
  · obtain ⟨h1, h2, h3⟩ := r.ob a o q
    refine ⟨h1, h2, h3.step r.off_of (.ext e) ?_⟩
    obtain ⟨y, hy, _⟩ := h3.obH
    rw [hy, e _ _ hy]
  · obtain ⟨y, h1, h2⟩ := r.av p hp
    exact ⟨y, e _ _ h1, h2⟩
/-! ### errors raised -/
def sRaise (c : Cl) : MS := fun _ _ μ E => E ⟨c, none⟩ μ
theorem str_small : ∀ n : Nat, n < 100 → (Str.ofString (toString (n : Int))).length ≤ 1000 := by decide +kernel
def sRaiseN (c : Cl) (f : Fd) (m : ME) : MS := fun _ σ μ E => m σ μ (fun v μ1 => match v with
  | .int n => 0 ≤ n ∧ n < 100 ∧ E ⟨c, some (f, n)⟩ μ1
  | _ => False) E
theorem is_raiseN (hx : x = f.s) (h : PS X st (fun _ σ H => tMkO (F.cA c) (sp_init (F.cA c) x) [] (tCons (denE F W me) tNil) σ H fun cls d H' => W cls d σ H')) : IS X F W st (sRaiseN c f me) := h.imp fun D σv H ⟨fe, ω, σ, Dm, Em, a0, h, kn, kr, kx⟩ => deE a0.toAt h (kx.ex a0) fun v ω1 H1 u q1 s1 a1 r1 => by
  split at q1
  rotate_left
  · exact q1.elim
  rename_i n
  obtain ⟨n0, n1, q1⟩ := q1
  obtain rfl := rv_int.mp r1
  have hs : (Str.ofString (toString n)).length ≤ 1000 := by
    have := str_small n.toNat (by omega)
    rwa [Int.toNat_of_nonneg n0] at this
  have hl : n.natAbs.log2 < 1920 := Nat.lt_of_le_of_lt (Nat.log2_le_self _) (by omega)
  refine ⟨by show 1 ≤ 1000; decide, fun a ha => ⟨a, n, rfl, hl, hs, upd_same, fun dx hdx hda => ⟨rfl, dx, [(x, .int n)], upd_same, by rw [upd_ne hda, upd_same], ?_, ?_⟩⟩⟩
  · rw [upd_ne hda] at hdx
    exact hdx
  · rw [upd_ne hda] at hdx
    subst hx
    have fin : ∀ H', Ex H1 H' → H' dx = some (.xd [(f.s, .int n)]) → W (.ref (F.cA c)) (some dx) σv H' := fun H' ex hd => kx ⟨c, some (f, n)⟩ ω1 H' _ _ σ σv q1 (a0.step (s1.trans (.ext ex)) (a1.step (.ext ex) (a1.rel.ext ex))) ⟨rfl, dx, rfl, hd⟩
    refine fin _ (fun b o hb => ?_) upd_same
    have n1 : b ≠ dx := ne_of_none hb hdx
    have n2 : b ≠ a := ne_of_none hb ha
    rw [upd_ne n1, del_ne n2, upd_ne n2, upd_ne n1, upd_ne n2]
    exact hb
/-! ### stores -/
def sFld (has : Cl → Bool) (mo mv : ME) (f : Fd) : MS := fun D σ μ E => mv σ μ (fun z μ1 => mo σ μ1 (fun x μ2 => match seqI μ2 x with
  | some (a, c, fs) => has c = true ∧ f ∈ c.flds ∧ fs.length < 1000 ∧ D.nx σ (μ2.put a (.ins c (setF f z fs)))
  | none => False) E) E
/-- o.f += n -/
def sFldA (has : Cl → Bool) (mo mv : ME) (f : Fd) : MS := fun D σ μ E => mo σ μ (fun x μ1 => match seqI μ1 x with
  | some (_, c, fs) => has c = true ∧ f ∈ c.flds ∧ match getF f fs with
    | some (.int i) => mv σ μ1 (fun y μ2 => match y, seqI μ2 x with
      | .int j, some (a, c', fs') => c' = c ∧ fs'.length < 1000 ∧ D.nx σ (μ2.put a (.ins c' (setF f (.int (i + j)) fs')))
      | _, _ => False) E
    | _ => False
  | none => False) E
/-- d[k] = v -/
def sDput (mo mi mv : ME) : MS := fun D σ μ E => mv σ μ (fun z μ1 => mo σ μ1 (fun d μ2 => mi σ μ2 (fun kv μ3 => match kyOf kv, seqD μ3 d with
  | some k, some (a, kvs) => kvs.length < lim ∧ D.nx σ (μ3.put a (.dic (dPut kvs k z)))
  | _, _ => False) E) E) E
theorem is_dput (hu : X.A.units + 1 < cLine) (ho : IE X F W o mo) (hi : IE X F W i mi) (hv : IE X F W value mv) (hs : swapsWith value (some (.Subscript o i pos')) pos.line X.env = pure false := by rfl) : IS X F W (.Assign [.Subscript o i pos'] value pos) (MW.sDput mo mi mv) := (ps_dput hu ho hi hv hs).imp fun D σv H ⟨fe, ω, σ, Dm, Em, a0, h, kn, kr, kx⟩ => deE a0.toAt h (kx.ex a0) fun z ω1 H1 w q1 s1 a1 r1 => deE a1 q1 (kx.ex (a0.step s1 a1)) fun d ω2 H2 u q2 s2 a2 r2 => deE a2 q2 (kx.ex (a0.step (s1.trans s2) a2)) fun kv ω3 H3 w3 q3 s3 a3 r3 => by
  split at q3
  rotate_left
  · exact q3.elim
  rename_i ky a kvs hk hdd
  obtain ⟨rfl, hs⟩ := seqD_is hdd
  obtain ⟨_, rfl⟩ := rv_ref.mp (r2.step a2.rel.off_of s3)
  obtain ⟨nd, ws, h1, h2⟩ := (a3.rel.ob a _ hs).2.2
  obtain ⟨ws', m1, m2⟩ := putK_rel (k := ky) ((r1.step a1.rel.off_of s2).step a2.rel.off_of s3) nd h2
  obtain ⟨st, rr⟩ := dic_put a3.rel hs (dPut_nd nd) m2
  have hl : (zk kvs ws).length < sizeLine := by
    have := h2.len
    rw [List.length_zip, List.length_map, this, List.length_map, Nat.min_self]
    exact lim_lt q3.1
  refine ⟨_, _, rfl, by rw [ky_rel r3 hk]; exact DPut.k h1 hl, ?_⟩
  · rw [show putK (List.zip (List.map (fun x => x.1.r) kvs) ws) ky.r w = _ from m1]
    exact kn σ σv _ _ q3.2 (a0.step (s1.trans (s2.trans (s3.trans st))) (a3.step st rr))
/-- del d[k] -/
def sDdel (mo mi : ME) : MS := fun D σ μ E => mo σ μ (fun d μ1 => mi σ μ1 (fun kv μ2 => match kyOf kv, seqD μ2 d with
  | some k, some (a, kvs) => (dGet kvs k).isSome = true ∧ D.nx σ (μ2.put a (.dic (dDel kvs k)))
  | _, _ => False) E) E
end
end MW

set_option Elab.async false
set_option linter.all false
set_option maxRecDepth 100000
namespace MW
open PySem PySem.Spec PyProof.Rows L2 Evl SX HW
abbrev MI := Lc → Sto → (List Val → (Sto → Prop) → Sto → Prop) → QX → Prop
/-- what is walked: at each turn, while ok holds, the walk goes on and gives the next item -/
def WkS (F : Cf) (AO1 : Av) (ω' : Om) (H' : Hp) (items : List Val) (ok : Sto → Prop) (G : Hp → Prop) (Y : Nat → Hp → V → Hp → Prop) : Prop :=
  ∀ (O A2 : Av) ω2 H2, (∀ p, O p → AO1 p) → (∀ p, A2 p → AO1 p ∨ H' p = none) → Rel F A2 ω2 H2 → StpX O ω' H' ω2 H2 → ok ω2.μ →
    G H2 ∧ ∀ i x H3, i < items.length → Y i H2 x H3 → ∃ v, items[i]? = some v ∧ Stp ω2 H2 ω2 H3 ∧ Rel F A2 ω2 H3 ∧ RelV F A2 ω2 H3 v x
def denI (F : Cf) (W : WX) (m : MI) : TI := fun σv H R => ∃ A0 ω σ Rm Em, At F A0 ω H σ σv ∧ m σ ω.μ Rm Em ∧
  (∀ items ok ω' H' J G Y, Rm items ok ω'.μ → Stp ω H ω' H' → At F A0 ω' H' σ σv → Walk J items.length G Y → items.length ≤ sizeLine → WkS F (AO A0 σ σv) ω' H' items ok G Y → R J H') ∧ KX F W A0 ω H σ σv Em
abbrev II (X : Cx) (F : Cf) (W : WX) (tg e : Expr) (m : MI) : Prop := PI X tg e (denI F W m)
theorem _root_.L2.PI.imp {X : Cx} {tg e : Expr} {t t' : TI} (h : PI X tg e t) (i : ∀ σ H Q, t' σ H Q → t σ H Q) : PI X tg e t' := ⟨fun pins s σ H Q I q => h.run pins s σ H Q I (i σ H Q q)⟩
section
variable {X : Cx} {F : Cf} {A A0 : Av} {ω ω' : Om} {H H' : Hp} {W : WX} {a b e o i value tg : Expr} {es : List Expr} {ma mb mc me mo mi mv : ME} {mas mbs : MA} {pos p : Pos} {v : Val} {u : V} {vs : List Val} {us ws : List V} {σ : Lc} {σv : L2.St} {fe : Fe} {Em : QX} {Dm : MEnds} {D : Ends} {st : Stmt} {sts body : List Stmt} {ms mt mr mb' : MS} {tt : MT} {mI : MI} {t : Tg}
/-- what was read at the start is read later -/
theorem later {AO1 O A2 : Av} {ω2 : Om} {H2 : Hp} (r : Rel F AO1 ω H) (hO : ∀ p, O p → AO1 p) (hA : ∀ p, A2 p → AO1 p ∨ H p = none) (s : StpX O ω H ω2 H2) (h : RelV F AO1 ω H v u) : RelV F A2 ω2 H2 v u := by
  have h1 : RelV F (fun p => A2 p ∨ AO1 p) ω H v u := h.av fun p hp => by
    rcases hp with hp | hp
    · exact hA p hp
    · exact .inl hp
  exact (h1.stepX r.off_of (fun p x e n n' z => r.noA e n n' (hO p z)) s fun p z => .inr (hO p z)).av fun p z => .inl (.inl z)
/-- a list that stays, a tuple, by place and items -/
theorem wkS_at {q : Addr} {g : HO} (r : Rel F A ω H) (hq : H q = some g) (ht : ∀ ps, g ≠ .tbl ps) (off : ω.off q) (hA : ¬ A q) (rv : RelVs F A ω H vs ws) {K : PySem.W.Frag} {GG : Hp → Prop} (hG : ∀ H2, H2 q = some g → GG H2) : WkS F A ω H vs (fun _ => True) GG (YAt ws) := fun O A2 ω2 H2 hO hA2 r2 s2 _ => by
  have h2 := (s2.h q g hq ht off fun z => hA (hO q z)).1
  refine ⟨hG H2 h2, fun i x H3 hi y => ?_⟩
  obtain ⟨rfl, hx⟩ := y
  obtain ⟨u, hu, rr⟩ := rv.get (List.getElem?_eq_getElem hi)
  rw [hu] at hx
  cases hx
  exact ⟨_, List.getElem?_eq_getElem hi, .refl, r2, later r hO hA2 s2 rr⟩
/-- a list that may be changed, but isn't meanwhile -/
def Yl (q : Addr) : Nat → Hp → V → Hp → Prop := fun i H x H' => H' = H ∧ ∀ ws, H q = some (.lst ws) → ws[i]? = some x
theorem walk_l {K : PySem.W.Frag} {q : Addr} {n : Nat} : Walk (Itl K q) n (fun H => ∃ ws, H q = some (.lst ws) ∧ ws.length = n) (Yl q) := by
  refine ⟨fun i H hi ⟨ws, h1, h2⟩ => ⟨ws, ws[i]'(by omega), sq_of h1, by simp [h2, hi]⟩, fun H ⟨ws, h1, h2⟩ => ⟨ws, sq_of h1, by omega⟩, fun i H x H' hi _ y => ⟨y.1, fun ws h => y.2 ws (sq_of h)⟩⟩
theorem wkS_ref {a : Nat} (hs : ω.μ.o a = some (.lst vs)) (ha : a < ω.μ.n) : WkS F A ω H vs (fun μ => μ.o a = some (.lst vs)) (fun H => ∃ ws, H (ω.m a) = some (.lst ws) ∧ ws.length = vs.length) (Yl (ω.m a)) := fun O A2 ω2 H2 hO hA2 r2 s2 hok => by
  obtain ⟨ws, h1, h2⟩ := (r2.ob a _ hok).2.2
  rw [s2.m a ha] at h1
  refine ⟨⟨ws, h1, h2.len⟩, fun i x H3 hi y => ?_⟩
  obtain ⟨rfl, hx⟩ := y
  obtain ⟨u, hu, rr⟩ := h2.get (List.getElem?_eq_getElem hi)
  have := hx ws h1
  rw [hu] at this
  cases this
  exact ⟨_, List.getElem?_eq_getElem hi, .refl, r2, rr⟩
/-- for .. in a list -/
def iLst (m : ME) : MI := fun σ μ R E => m σ μ (fun v μ1 => match v with
  | .lst vs => R vs (fun _ => True) μ1
  | .scr ns => R (ns.map .int) (fun _ => True) μ1
  | v => match refL μ1 v with
    | some (a, vs) => R vs (fun μ => μ.o a = some (.lst vs)) μ1
    | none => False) E
/-- a list, a tuple has a size -/
def Sz (K : PySem.W.Frag) (H : Hp) (v : V) : Prop := ∀ a xs, v = .ref a → (SqL K H a xs ∨ SqT K H a xs) → xs.length ≤ sizeLine
theorem pe_sz {t : TE} (h : PE X e t) : PE X e (fun σ H Q => t σ H fun v H1 => Sz X.K H1 v → Q v H1) := ⟨fun pins s σ H Q I q => thn (h.run pins s σ H _ I q) fun u s1 ⟨v, H1, I1, r, k⟩ => ⟨v, H1, I1, r, k fun a xs e hs => by
  rcases hs with hs | hs
  · obtain ⟨_, _, _, z⟩ := I1.list hs; exact z
  · obtain ⟨_, _, _, z⟩ := I1.tuple hs; exact z⟩⟩
theorem ii_lst (he : IE X F W e me) (hK : X.K = F.K) : II X F W tg e (iLst me) := (pi_list (pe_sz he)).imp fun σv H R ⟨A0, ω, σ, Rm, Em, a0, h, k, kx⟩ => deE a0 h kx fun v ω1 H1 u q1 s1 a1 r1 sz => by
  split at q1
  · rename_i vs
    obtain ⟨q, ws, rfl, h2, h3, h4⟩ := rv_lst.mp r1
    refine ⟨q, rfl, ⟨ws, sq_of h2⟩, k _ _ ω1 H1 _ (fun H => SqL X.K H q ws) (YAt ws) q1 s1 a1 (by rw [← h4.len]; exact walk_list) (by rw [← h4.len]; exact sz q ws rfl (.inl (sq_of h2))) (wkS_at (K := X.K) a1.rel h2 (fun _ z => by cases z) h3.2 h3.1 h4 fun H2 z => sq_of z)⟩
  · rename_i ns
    obtain ⟨q, rfl, h2⟩ := rv_scr.mp r1
    have hl : (ns.map V.int).length = (ns.map Val.int).length := by rw [List.length_map, List.length_map]
    refine ⟨q, rfl, ⟨_, by rw [hK]; exact h2.sq⟩, k _ _ ω1 H1 _ (fun H => SqL X.K H q (ns.map V.int)) (YAt (ns.map V.int)) q1 s1 a1 (by rw [← hl]; exact walk_list) (by rw [← hl]; exact sz q _ rfl (.inl (by rw [hK]; exact h2.sq))) fun O A2 ω2 H2 hO hA2 r2 s2 _ => ⟨?_, fun i x H3 hi y => ?_⟩⟩
    · rw [hK]
      rcases h2 with ⟨ob, h2⟩ | h2
      · exact .inl (.inr ⟨ob, (s2.h q _ h2 (fun _ z => by cases z) (a1.rel.off_of q _ h2 id) (fun z => a1.rel.noA h2 id (fun _ z => by cases z) (hO q z))).1⟩)
      · exact Scr.sq (.inr h2)
    · obtain ⟨rfl, hx⟩ := y
      rw [List.length_map] at hi
      rw [List.getElem?_map, List.getElem?_eq_getElem hi] at hx
      cases hx
      exact ⟨.int ns[i], by rw [List.getElem?_map, List.getElem?_eq_getElem hi]; rfl, .refl, r2, rv_int.mpr rfl⟩
  · split at q1
    · rename_i a vs hq
      obtain ⟨rfl, hs⟩ := refL_is hq
      obtain ⟨ha, rfl⟩ := rv_ref.mp r1
      obtain ⟨ws, h1, h2⟩ := (a1.rel.ob a _ hs).2.2
      exact ⟨_, rfl, ⟨ws, sq_of h1⟩, k _ _ ω1 H1 _ _ _ q1 s1 a1 walk_l (by rw [← h2.len]; exact sz _ ws rfl (.inl (sq_of h1))) (wkS_ref hs ha)⟩
    · exact q1.elim
/-- for .. in a tuple -/
def iTup (m : ME) : MI := fun σ μ R E => m σ μ (fun v μ1 => match v with
  | .tup vs => R vs (fun _ => True) μ1
  | _ => False) E
theorem ii_tup (he : IE X F W e me) (hK : X.K = F.K) : II X F W tg e (MW.iTup me) := (pi_tup (pe_sz he)).imp fun σv H R ⟨A0, ω, σ, Rm, Em, a0, h, k, kx⟩ => deE a0 h kx fun v ω1 H1 u q1 s1 a1 r1 sz => by
  split at q1
  rotate_left
  · exact q1.elim
  rename_i vs
  obtain ⟨q, ws, rfl, h2, h4⟩ := rv_tup.mp r1
  exact ⟨q, rfl, ⟨ws, st_of h2⟩, k _ _ ω1 H1 _ (fun H => SqT X.K H q ws) (YAt ws) q1 s1 a1 (by rw [← h4.len]; exact walk_tup) (by rw [← h4.len]; exact sz q ws rfl (.inr (st_of h2))) (wkS_at (K := X.K) a1.rel h2 (fun _ z => by cases z) (a1.rel.off_of q _ h2 id) (a1.rel.noA h2 id (fun _ z => by cases z)) h4 fun H2 z => st_of z)⟩
/-- for .. in a text -/
def iStr' (m : ME) : MI := fun σ μ R E => m σ μ (fun v μ1 => match v with
  | .str l => R (l.map fun c => .str [c]) (fun _ => True) μ1
  | _ => False) E
theorem ii_str (he : IE X F W e me) : II X F W tg e (iStr' me) := (pi_str he).imp fun σv H R ⟨A0, ω, σ, Rm, Em, a0, h, k, kx⟩ => deE a0 h kx fun v ω1 H1 u q1 s1 a1 r1 => by
  split at q1
  rotate_left
  · exact q1.elim
  rename_i l
  obtain ⟨rfl, h2⟩ := rv_str.mp r1
  have hl : (S l).cps.size = (l.map fun c => Val.str [c]).length := by simp [S]
  refine ⟨_, rfl, k _ _ ω1 H1 _ (fun _ => True) _ q1 s1 a1 (by rw [← hl]; exact walk_str) (by rw [List.length_map]; exact h2.le) fun O A2 ω2 H2 hO hA2 r2 s2 _ => ⟨trivial, fun i x H3 hi y => ?_⟩⟩
  obtain ⟨rfl, c, hc, rfl⟩ := y
  have hc' : l[i]? = some c := by simpa [S] using hc
  exact ⟨.str [c], by rw [List.getElem?_map, hc']; rfl, .refl, r2, rv_str.mpr ⟨rfl, h2.one (List.mem_of_getElem? hc')⟩⟩
/-- range(n), range(a, b) -/
def rng (lo hi : Int) : List Val := (List.range (hi - lo).toNat).map fun k => .int (lo + (k : Nat))
def iRg1 (m : ME) : MI := fun σ μ R E => m σ μ (fun v μ1 => match v with
  | .int n => n ≤ lim ∧ -(lim : Int) ≤ n ∧ R (rng 0 n) (fun _ => True) μ1
  | _ => False) E
theorem wkS_rng {lo : Int} {n : Nat} (r : Rel F A ω H) : WkS F A ω H ((List.range n).map fun k => Val.int (lo + (k : Nat))) (fun _ => True) (fun _ => True) (YFn fun i => .int (lo + i)) := fun O A2 ω2 H2 hO hA2 r2 s2 _ => ⟨trivial, fun i x H3 hi y => by
  obtain ⟨rfl, rfl⟩ := y
  rw [List.length_map, List.length_range] at hi
  exact ⟨.int (lo + (i : Nat)), by rw [List.getElem?_map, List.getElem?_range hi]; rfl, .refl, r2, rv_int.mpr rfl⟩⟩
theorem ii_rg1 (h : PI X tg e (iRng1 (tCons (denE F W me) tNil))) : II X F W tg e (iRg1 me) := h.imp fun σv H R ⟨A0, ω, σ, Rm, Em, a0, h, k, kx⟩ => deE a0 h kx fun v ω1 H1 u q1 s1 a1 r1 => by
  split at q1
  rotate_left
  · exact q1.elim
  rename_i n
  obtain rfl := rv_int.mp r1
  obtain ⟨n1, n2, q1⟩ := q1
  unfold lim at n1 n2
  have hl : (rng 0 n).length = n.toNat := by unfold rng; rw [List.length_map, List.length_range]; simp
  refine ⟨n, rfl, by omega, by omega, k _ _ ω1 H1 _ (fun _ => True) _ q1 s1 a1 (by rw [hl]; exact walk_range) (by rw [hl]; exact lim_le (by unfold lim; omega)) ?_⟩
  have := wkS_rng (F := F) (A := AO A0 σ σv) (lo := 0) (n := (n - 0).toNat) a1.rel
  exact this
end
end MW

set_option Elab.async false
set_option linter.all false
set_option maxRecDepth 100000
namespace MW
open PySem PySem.Spec PyProof.Rows L2 Evl SX HW
section
variable {X : Cx} {F : Cf} {A A0 : Av} {ω ω' : Om} {H H' : Hp} {W : WX} {a b e o i value tg : Expr} {es : List Expr} {ma mb mc me mo mi mv : ME} {mas mbs : MA} {pos p : Pos} {v : Val} {u : V} {vs : List Val} {us ws : List V} {σ : Lc} {σv : L2.St} {fe : Fe} {Em : QX} {Dm : MEnds} {D : Ends} {st : Stmt} {sts body : List Stmt} {ms mt mr mb' : MS} {tt : MT} {mI : MI} {t : Tg}
/-! ### for -/
def OwnS (σ : Lc) (σv : L2.St) : Av := fun p => ∃ i, Mine σ i ∧ σv[i]? = some (some (.ref p))
/-- a loop in a frame is entered -/
def Fe.loop (fe : Fe) (ω : Om) (H : Hp) (σ : Lc) (σv : L2.St) : Fe := ⟨fe.A0, OwnS σ σv, ω, H⟩
theorem AtF.enter (a : AtF F fe ω H σ σv) : AtF F (fe.loop ω H σ σv) ω H σ σv := ⟨a.toAt, .refl, fun i p h1 h2 => .inr ⟨i, h1, h2⟩⟩
theorem stp_out {ω2 : Om} {H2 : Hp} (a : AtF F fe ω H σ σv) (s : StpX (OwnS σ σv) ω H ω2 H2) : StpX fe.O0 fe.ω0 fe.H0 ω2 H2 := a.st.trans s fun p o h no z => by
  obtain ⟨i, h1, h2⟩ := z
  rcases a.new i p h1 h2 with z | z
  · rw [z] at h; cases h
  · exact no z
theorem AtF.leave {ω2 : Om} {H2 : Hp} {σ2 : Lc} {σv2 : L2.St} (a : AtF F fe ω H σ σv) (b : AtF F (fe.loop ω H σ σv) ω2 H2 σ2 σv2) : AtF F fe ω2 H2 σ2 σv2 := ⟨b.toAt, stp_out a b.st, fun i p h1 h2 => by
  rcases b.new i p h1 h2 with z | ⟨j, k1, k2⟩
  · exact .inl (a.st.t p z)
  · exact a.new j p k1 k2⟩
def forL (t : Tg) (b : MS) (ok : Sto → Prop) (E : QX) (D : MEnds) : List Val → Lc → Sto → Prop
  | [], σ, μ => ok μ ∧ D.nx σ μ
  | v :: vs, σ, μ => ok μ ∧ match t.mt v σ with
    | some σ1 => b { D with nx := fun σ2 μ2 => forL t b ok E D vs σ2 μ2 } σ1 μ E
    | none => False
def sFor (m : MI) (t : Tg) (b : MS) : MS := fun D σ μ E => m σ μ (fun items ok μ1 => forL t b ok E D items σ μ1) E
theorem forL_ok {ok : Sto → Prop} {E : QX} {D : MEnds} {σ : Lc} {μ : Sto} : ∀ {vs : List Val}, forL t ms ok E D vs σ μ → ok μ
  | [], h => h.1
  | _ :: _, h => h.1
theorem is_for (hK : X.K = F.K) (h : PS X st (tFor (denI F W mI) (t.g X.K) (denS F W ms))) : IS X F W st (sFor mI t ms) := h.imp fun D σv H ⟨fe, ω, σ, Dm, Em, a0, h, kn, kr, kx⟩ =>
  ⟨fe.A0, ω, σ, _, Em, a0.toAt, h, fun items ok ω1 H1 J G Y q1 s1 a1 wk hz ws => by
    have b0 := a0.step s1 a1
    have hA2 : ∀ {ω2 : Om} {H2 : Hp} {σ2 : Lc} {σv2 : L2.St}, AtF F (fe.loop ω1 H1 σ σv) ω2 H2 σ2 σv2 → ∀ p, AO fe.A0 σ2 σv2 p → AO fe.A0 σ σv p ∨ H1 p = none := fun {ω2 H2 σ2 σv2} b2 p hp => by
      rcases hp with hp | ⟨i, k1, k2⟩
      · exact .inl (.inl hp)
      · rcases b2.new i p k1 k2 with z | z
        · exact .inr z
        · exact .inl (.inr z)
    refine for_it wk (fun i σv' H' => ∃ ω2 σ2, AtF F (fe.loop ω1 H1 σ σv) ω2 H' σ2 σv' ∧ forL t ms ok Em Dm (items.drop i) σ2 ω2.μ) ⟨ω1, σ, b0.enter, q1⟩ (fun i σv' H' hi ⟨ω2, σ2, b2, f2⟩ => (ws (OwnS σ σv) _ ω2 H' (fun p z => .inr z) (hA2 b2) b2.rel b2.st (forL_ok f2)).1) ?_ ?_
    · rintro i x σv' H' H'' hi ⟨ω2, σ2, b2, f2⟩ y
      obtain ⟨v, hv, s3, r3, rv⟩ := (ws (OwnS σ σv) _ ω2 H' (fun p z => .inr z) (hA2 b2) b2.rel b2.st (forL_ok f2)).2 i x H'' hi y
      rw [List.drop_eq_getElem_cons hi] at f2
      have hv' : items[i] = v := by rw [List.getElem?_eq_getElem hi] at hv; exact Option.some.inj hv
      rw [hv'] at f2
      obtain ⟨f3, f4⟩ := f2
      have b3 := b2.step s3 (b2.toAt.step s3 r3)
      split at f4
      · rename_i σ3 hq
        refine Tg.ok hK t b3 rv hq fun σv3 b4 _ => deS (D := { D with nx := _, ct := _, bk := _ }) b4 f4 (fun σ' σv'' ω' H' q b5 => ⟨ω', σ', b5, q⟩) (fun v ω' H' u q s r rv => kr v ω' H' u q (stp_out b0 s) r rv) (fun x ω' H' cls d σ' σv'' q b5 ex => kx x ω' H' cls d σ' σv'' q (b0.leave b5) ex)
      · exact f4.elim
    · rintro σv' H' ⟨ω2, σ2, b2, f2⟩
      rw [List.drop_length] at f2
      exact kn σ2 σv' ω2 H' f2.2 (b0.leave b2), kx.ex a0⟩
/-! ### while -/
def whileN (c : MT) (b : MS) (D : MEnds) (E : QX) : Nat → Lc → Sto → Prop
  | 0, _, _ => False
  | n + 1, σ, μ => c σ μ (fun k μ1 => if k = true then b { D with nx := fun σ2 μ2 => whileN c b D E n σ2 μ2 } σ μ1 E else D.nx σ μ1) E
def sWhile (c : MT) (b : MS) : MS := fun D σ μ E => ∃ n, whileN c b D E n σ μ
theorem is_while (h : PS X st (tWhile (denT F W tt) (denS F W ms))) : IS X F W st (sWhile tt ms) := h.imp fun D σv H ⟨fe, ω, σ, Dm, Em, a0, h, kn, kr, kx⟩ => by
  obtain ⟨n, h⟩ := h
  refine ⟨fun m σv' H' => ∃ ω2 σ2, AtF F fe ω2 H' σ2 σv' ∧ whileN tt ms Dm Em m σ2 ω2.μ, ⟨n, ω, σ, a0, h⟩, ?_⟩
  rintro m σv' H' ⟨ω2, σ2, b2, f2⟩
  cases m with
  | zero => exact f2.elim
  | succ m =>
    refine deT b2.toAt f2 (kx.ex b2) fun k ω3 H3 q3 s3 a3 => ?_
    have b3 := b2.step s3 a3
    cases k with
    | true => exact iteT ⟨fun σv' H' => ∃ ω2 σ2, AtF F fe ω2 H' σ2 σv' ∧ whileN tt ms Dm Em m σ2 ω2.μ, fun σ' H' z => ⟨m, Nat.lt_succ_self m, z⟩, deS b3 q3 (fun σ' σv'' ω' H' q b5 => ⟨ω', σ', b5, q⟩) kr kx⟩
    | false => exact iteF (kn σ2 σv' ω3 H3 q3 b3)
/-! ### comprehensions -/
/-- what is a def's own is out of sight within -/
def hideM (σ : Lc) : Lc := σ.map fun s => if s.mine then .no else s
def wipeM (σ : Lc) : List Nat → Lc
  | [] => hideM σ
  | i :: is => (wipeM σ is).set i .no
theorem wipeM_slot {s : Slot} {j : Nat} : ∀ {is : List Nat}, (wipeM σ is)[j]? = some s → s.mine = false ∧ (s = .no ∨ (j ∉ is ∧ σ[j]? = some s))
  | [], h => by
    unfold wipeM hideM at h
    rw [List.getElem?_map] at h
    obtain ⟨z, hz, e⟩ := Option.map_eq_some_iff.mp h
    cases q : z.mine with
    | true => rw [q] at e; simp at e; subst e; exact ⟨rfl, .inl rfl⟩
    | false => rw [q] at e; simp at e; subst e; exact ⟨q, .inr ⟨by simp, hz⟩⟩
  | i :: is, h => by
    rcases get_set h with ⟨rfl, rfl, _⟩ | ⟨ne, h⟩
    · exact ⟨rfl, .inl rfl⟩
    · obtain ⟨k1, k2⟩ := wipeM_slot h
      refine ⟨k1, ?_⟩
      rcases k2 with k2 | ⟨k2, k3⟩
      · exact .inl k2
      · exact .inr ⟨by simp [ne, k2], k3⟩
theorem wipeM_len : ∀ {is : List Nat}, (wipeM σ is).length = σ.length
  | [] => by unfold wipeM hideM; rw [List.length_map]
  | i :: is => by unfold wipeM; rw [List.length_set, wipeM_len]
theorem wipe_get {j : Nat} : ∀ {is : List Nat}, j ∉ is → (wipe σv is)[j]? = σv[j]?
  | [], _ => rfl
  | i :: is, h => by
    rw [List.mem_cons, not_or] at h
    unfold wipe
    rw [List.getElem?_set_ne (fun z => h.1 z.symm)]
    exact wipe_get h.2
theorem wipe_some' {j : Nat} (is : List Nat) (h : j < σv.length) : ∃ u, (wipe σv is)[j]? = some u := ⟨_, List.getElem?_eq_getElem (by rw [wipe_length]; exact h)⟩
/-- the frame of a comprehension -/
theorem At.inner {AD : Av} {ω2 : Om} {H2 : Hp} (is : List Nat) (a1 : At F A0 ω H σ σv) (hA : ∀ p, AD p → AO A0 σ σv p ∨ H p = none) (s : StpX (fun _ => False) ω H ω2 H2) (r : Rel F AD ω2 H2) : At F AD ω2 H2 (wipeM σ is) (wipe σv is) := by
  have nm : ∀ {j}, ¬ Mine (wipeM σ is) j := fun {j} ⟨s, h1, h2⟩ => by rw [(wipeM_slot h1).1] at h2; cases h2
  have eA : ∀ p, AO AD (wipeM σ is) (wipe σv is) p → AD p := fun p hp => by
    rcases hp with hp | ⟨j, hj, _⟩
    · exact hp
    · exact absurd hj nm
  refine ⟨r.less eA, by rw [wipeM_len, wipe_length, a1.len], fun j s hj => ?_, fun j p hj _ => absurd hj nm, fun j k p hj _ _ _ => absurd hj nm⟩
  obtain ⟨k1, k2⟩ := wipeM_slot hj
  rcases k2 with rfl | ⟨k2, k3⟩
  · have hl : j < σv.length := by rw [← a1.len, ← wipeM_len (is := is)]; exact (List.getElem?_eq_some_iff.mp hj).1
    obtain ⟨u, hu⟩ := wipe_some' is hl
    exact ⟨u, hu, trivial⟩
  · obtain ⟨u, h1, h2⟩ := a1.sl j s k3
    refine ⟨u, by rw [wipe_get k2]; exact h1, ?_⟩
    cases s with
    | no => trivial
    | val v => obtain ⟨x, e, rv⟩ := h2; exact ⟨x, e, (later a1.rel (fun _ z => z.elim) hA s rv).av fun p z => .inl (eA p z)⟩
    | own _ => cases k1
    | ownP _ => cases k1
/-- the items of a comprehension: tests and elements raise nothing -/
def lcL (t : Tg) (tt : MT) (me : ME) (ok : Sto → Prop) (σ : Lc) (Q : List Val → Sto → Prop) : List Val → List Val → Sto → Prop
  | [], acc, μ => ok μ ∧ Q acc μ
  | v :: vs, acc, μ => ok μ ∧ match t.mt v σ with
    | some σ1 => tt σ1 μ (fun k μ1 => if k = true then me σ1 μ1 (fun y μ2 => lcL t tt me ok σ Q vs (acc ++ [y]) μ2) (fun _ _ => False) else lcL t tt me ok σ Q vs acc μ1) (fun _ _ => False)
    | none => False
def lComp (m : MI) (t : Tg) (is : List Nat) (tt : MT) (me : ME) : MA := fun σ μ Q E => m σ μ (fun items ok μ1 => lcL t tt me ok (wipeM σ is) Q items [] μ1) E
theorem lcL_ok {me : ME} {ok : Sto → Prop} {σ : Lc} {Q : List Val → Sto → Prop} {μ : Sto} {acc : List Val} : ∀ {vs : List Val}, lcL t tt me ok σ Q vs acc μ → ok μ
  | [], h => h.1
  | _ :: _, h => h.1
abbrev W0 : WX := fun _ _ _ _ => False
/-! ### a thing of nobody is left out of sight -/
def dl (H : Hp) (p : Addr) : Hp := fun b => if b = p then none else H b
theorem dl_same {q : Addr} : dl H q q = none := if_pos rfl
theorem dl_ne {q r : Addr} (h : r ≠ q) : dl H q r = H r := if_neg h
theorem dl_upd {q : Addr} {x : HO} (h : H q = some x) : upd (dl H q) q x = H := by
  funext b
  by_cases e : b = q
  · subst e; rw [upd_same, h]
  · rw [upd_ne e, dl_ne e]
theorem dl_some {q r : Addr} {x : HO} (h : H r = some x) (ne : r ≠ q) : dl H q r = some x := by rw [dl_ne ne]; exact h
end
mutual
theorem RelV.dl {F : Cf} {A : Av} {ω : Om} {H : Hp} {q : Addr} {us : List V} (hq : H q = some (.lst us)) : ∀ {v : Val} {u : V}, RelV F (fun p => A p ∨ p = q) ω H v u → RelV F A ω (MW.dl H q) v u
  | .non, _, h => by rw [RelV] at h ⊢; exact h
  | .bl _, _, h => by rw [RelV] at h ⊢; exact h
  | .int _, _, h => by rw [RelV] at h ⊢; exact h
  | .str _, _, h => by rw [RelV] at h ⊢; exact h
  | .tup vs, _, h => by
    rw [RelV] at h ⊢
    obtain ⟨p, ws, h1, h2, h3⟩ := h
    exact ⟨p, ws, h1, dl_some h2 (ne_of h2 hq (by intro z; cases z)), RelVs.dl hq h3⟩
  | .lst vs, _, h => by
    rw [RelV] at h ⊢
    obtain ⟨p, ws, h1, h2, h3, h4⟩ := h
    exact ⟨p, ws, h1, dl_some h2 fun z => h3.1 (.inr z), ⟨fun z => h3.1 (.inl z), h3.2⟩, RelVs.dl hq h4⟩
  | .scr ns, _, h => by
    rw [RelV] at h ⊢
    obtain ⟨p, h1, h2⟩ := h
    refine ⟨p, h1, ?_⟩
    rcases h2 with ⟨o, h2⟩ | h2
    · exact .inl ⟨o, dl_some h2 (ne_of h2 hq (by intro z; cases z))⟩
    · exact .inr h2
  | .pmp kvs, _, h => by
    rw [RelV] at h ⊢
    obtain ⟨p, h1, h2, h3⟩ := h
    exact ⟨p, h1, dl_some h2 fun z => h3.1 (.inr z), ⟨fun z => h3.1 (.inl z), h3.2⟩⟩
  | .ref a, _, h => by rw [RelV] at h ⊢; exact h
theorem RelVs.dl {F : Cf} {A : Av} {ω : Om} {H : Hp} {q : Addr} {us : List V} (hq : H q = some (.lst us)) : ∀ {vs : List Val} {ws : List V}, RelVs F (fun p => A p ∨ p = q) ω H vs ws → RelVs F A ω (MW.dl H q) vs ws
  | [], _, h => by rw [RelVs] at h ⊢; exact h
  | v :: vs, _, h => by
    rw [RelVs] at h ⊢
    obtain ⟨u, x, h1, h2, h3⟩ := h
    exact ⟨u, x, h1, RelV.dl hq h2, RelVs.dl hq h3⟩
end
section
variable {X : Cx} {F : Cf} {A A0 : Av} {ω ω' : Om} {H H' : Hp} {W : WX} {a b e o i value tg : Expr} {es : List Expr} {ma mb mc me mo mi mv : ME} {mas mbs : MA} {pos p : Pos} {v : Val} {u : V} {vs : List Val} {us ws : List V} {σ : Lc} {σv : L2.St} {fe : Fe} {Em : QX} {Dm : MEnds} {D : Ends} {st : Stmt} {sts body : List Stmt} {ms mt mr mb' : MS} {tt : MT} {mI : MI} {t : Tg}
theorem Rel.dl {q : Addr} (r : Rel F (fun p => A p ∨ p = q) ω H) (hq : H q = some (.lst us)) (hA : ¬ A q) : Rel F A ω (MW.dl H q) := by
  refine ⟨fun a o e => ?_, r.inj, fun z hz => ?_, fun p hp => ?_⟩
  · obtain ⟨h1, h2, h3⟩ := r.ob a o e
    have ne : ω.m a ≠ q := fun z => h2 (.inr z)
    refine ⟨h1, fun z => h2 (.inl z), ?_⟩
    cases o with
    | lst vs => obtain ⟨ws, h1, h2⟩ := h3; exact ⟨ws, dl_some h1 ne, h2.dl hq⟩
    | dic kvs => obtain ⟨n, ws, h1, h2⟩ := h3; exact ⟨n, ws, dl_some h1 ne, h2.dl hq⟩
    | ins c fs => obtain ⟨dx, ws, h1, h2⟩ := h3; exact ⟨dx, ws, dl_some h1 ne, h2.dl hq⟩
    | fdic kvs x => obtain ⟨n, h1, od, ws, h2, h4⟩ := h3; exact ⟨n, dl_some h1 ne, od, ws, h2, h4.dl hq⟩
  · obtain ⟨ps, h1, h2, h3⟩ := r.tabs z hz
    refine ⟨ps, dl_some h1 (ne_of h1 hq (by intro z; cases z)), h2, fun pos cv hc => ?_⟩
    obtain ⟨c, e1, e2⟩ := h3 pos cv hc
    exact ⟨c, e1, dl_some e2 (ne_of e2 hq (by unfold LamX.CodeO; intro z; cases z))⟩
  · obtain ⟨x, h1, h2⟩ := r.av p (.inl hp)
    exact ⟨x, dl_some h1 fun z => hA (z ▸ hp), h2⟩
theorem Stp.dl {ω1 ω2 : Om} {H1 H2 : Hp} {q : Addr} (s : Stp ω1 H1 ω2 H2) (h : H1 q = none) : Stp ω1 H1 ω2 (MW.dl H2 q) := ⟨s.n, s.m, fun p o e t f => by
  obtain ⟨k1, k2⟩ := s.h p o e t f
  exact ⟨dl_some k1 (ne_of_none e h), k2⟩, fun p e => by
  by_cases z : p = q
  · rw [z]; exact h
  · rw [dl_ne z] at e; exact s.t p e⟩
theorem RelV.chg {q : Addr} {x : HO} {us : List V} (h0 : H q = some (.lst us)) (h : RelV F (fun p => A p ∨ p = q) ω H v u) : RelV F (fun p => A p ∨ p = q) ω (upd H q x) v u := h.own (.inr rfl) ⟨_, h0, .inl trivial⟩
theorem RelVs.chg {q : Addr} {x : HO} {us : List V} (h0 : H q = some (.lst us)) (h : RelVs F (fun p => A p ∨ p = q) ω H vs ws) : RelVs F (fun p => A p ∨ p = q) ω (upd H q x) vs ws := h.own (.inr rfl) ⟨_, h0, .inl trivial⟩
theorem Rel.chg {q : Addr} {us us' : List V} (r : Rel F (fun p => A p ∨ p = q) ω H) (h0 : H q = some (.lst us)) : Rel F (fun p => A p ∨ p = q) ω (upd H q (.lst us')) := r.own (.inr rfl) ⟨_, h0, .inl trivial⟩ (.inl trivial) (fun h => h.chg h0) fun h => h.chg h0
theorem Stp.chg {ω1 ω2 : Om} {H1 H2 : Hp} {q : Addr} {x : HO} (s : Stp ω1 H1 ω2 H2) (h : H1 q = none) : Stp ω1 H1 ω2 (upd H2 q x) := ⟨s.n, s.m, fun p o e t f => by
  obtain ⟨k1, k2⟩ := s.h p o e t f
  exact ⟨by rw [upd_ne (ne_of_none e h)]; exact k1, k2⟩, fun p e => s.t p (upd_none e)⟩
theorem lc_imp {is : List Nat} {K : PySem.W.Frag} {Q : VK} (hK : K = F.K) (ht : ∀ K u σv H Q, Tg.g K t u (wipe σv is) H Q → Tg.g K t u (wipe σv is) H (fun σ2 H2 => wipe σ2 is = wipe σv is ∧ Q σ2 H2)) (hd : denL F W (lComp mI t is tt me) σv H Q) : tLc (denI F W mI) (t.g K) (denT F W0 tt) (denE F W0 me) is σv H Q := by
  obtain ⟨A0, ω, σ, Qm, Em, a0, h, k, kx⟩ := hd
  exact ⟨A0, ω, σ, _, Em, a0, h, fun items ok ω1 H1 J G Y q1 s1 a1 wk hz wS Dl hD => by
    have nA : ¬ AO A0 σ σv Dl := a1.rel.notA hD
    have inc : ∀ {ω2 : Om} {H2 : Hp}, Stp ω1 H1 ω2 H2 → StpX (fun _ => False) ω1 H1 ω2 H2 := fun s => ⟨s.n, s.m, fun p o h t f _ => s.h p o h t f, s.t⟩
    have hA2 : ∀ p, (AO A0 σ σv p ∨ p = Dl) → AO A0 σ σv p ∨ H1 p = none := fun p hp => by
      rcases hp with hp | hp
      · exact .inl hp
      · exact .inr (by rw [hp]; exact hD)
    refine lc_it wk (fun i H' => ∃ ω2 acc us, H' Dl = some (.lst us) ∧ Stp ω1 H1 ω2 H' ∧ Rel F (fun p => AO A0 σ σv p ∨ p = Dl) ω2 H' ∧ RelVs F (fun p => AO A0 σ σv p ∨ p = Dl) ω2 H' acc us ∧ acc.length ≤ i ∧ lcL t tt me ok (wipeM σ is) Qm (items.drop i) acc ω2.μ) ⟨ω1, [], [], upd_same, .fresh hD, a1.rel.grow hD (.inl trivial), rvs_nil.mpr rfl, Nat.zero_le _, q1⟩ ?_ ?_ ?_
    · rintro i H' hi ⟨ω2, acc, us, hD2, s2, r2, ra, hl, f2⟩
      exact (wS (fun _ => False) _ ω2 H' (fun p z => z.elim) hA2 r2 (inc s2) (lcL_ok f2)).1
    · rintro i x H' H'' hi ⟨ω2, acc, us, hD2, s2, r2, ra, hl, f2⟩ y
      obtain ⟨v, hv, s3, r3, rv⟩ := (wS (fun _ => False) _ ω2 H' (fun p z => z.elim) hA2 r2 (inc s2) (lcL_ok f2)).2 i x H'' hi y
      have hD3 : H'' Dl = some (.lst us) := (s3.h Dl _ hD2 (fun _ z => by cases z) (r2.avA (.inr rfl))).1
      rw [List.drop_eq_getElem_cons hi] at f2
      have hv' : items[i] = v := by rw [List.getElem?_eq_getElem hi] at hv; exact Option.some.inj hv
      rw [hv'] at f2
      obtain ⟨_, f4⟩ := f2
      split at f4
      rotate_left
      · exact f4.elim
      rename_i σ3 hq
      -- the frame within: its slots wiped, the new list set apart
      have s23 := s2.trans s3
      have aw : At F (fun p => AO A0 σ σv p ∨ p = Dl) ω2 H'' (wipeM σ is) (wipe σv is) := a1.inner is hA2 (inc s23) r3
      have af : AtF F ⟨fun p => AO A0 σ σv p ∨ p = Dl, fun _ => False, ω2, H''⟩ ω2 H'' (wipeM σ is) (wipe σv is) := ⟨aw, .refl, fun j p hj hp => absurd hj fun ⟨s, h1, h2⟩ => by rw [(wipeM_slot h1).1] at h2; cases h2⟩
      have rv' : RelV F (AO (fun p => AO A0 σ σv p ∨ p = Dl) (wipeM σ is) (wipe σv is)) ω2 H'' v x := rv.av fun p z => by
        rcases z with z | ⟨j, ⟨s, h1, h2⟩, _⟩
        · exact .inl z
        · rw [(wipeM_slot h1).1] at h2; cases h2
      refine ht K x σv H'' _ (Tg.ok hK t af rv' hq fun σv3 a3 sub => ?_)
      have ra3 := ra.step r2.off_of s3
      refine deT a3.toAt f4 (fun _ _ _ _ _ z => z.elim) fun b ω4 H4 q4 s4 a4 => ?_
      have r4 : Rel F (fun p => AO A0 σ σv p ∨ p = Dl) ω4 H4 := a4.rel.less AO.sub
      have ra4 := ra3.step r3.off_of s4
      have hD4 : H4 Dl = some (.lst us) := (s4.h Dl _ hD3 (fun _ z => by cases z) (r3.avA (.inr rfl))).1
      cases b with
      | true =>
        refine iteT (deE a4 q4 (fun _ _ _ _ _ z => z.elim) fun y ω5 H5 u q5 s5 a5 r5 => ?_)
        have r5' : Rel F (fun p => AO A0 σ σv p ∨ p = Dl) ω5 H5 := a5.rel.less AO.sub
        have hD5 : H5 Dl = some (.lst us) := (s5.h Dl _ hD4 (fun _ z => by cases z) (r4.avA (.inr rfl))).1
        have ra5 := (ra4.step r4.off_of s5).app (.one (r5.av fun p z => .inl (AO.sub p z)))
        refine ⟨us, hD5, by rw [ra.len]; omega, ω5, acc ++ [y], us ++ [u], upd_same, (s23.trans (s4.trans s5)).chg hD, r5'.chg hD5, ra5.chg hD5, by rw [List.length_append, List.length_singleton]; omega, q5⟩
      | false => exact iteF ⟨ω4, acc, us, hD4, s23.trans s4, r4, ra4, by omega, q4⟩
    · rintro H' ⟨ω2, acc, us, hD2, s2, r2, ra, hl, f2⟩
      rw [List.drop_length] at f2
      have := k acc ω2 (MW.dl H' Dl) us Dl f2.2 (s1.trans (s2.dl hD)) (a0.step (s1.trans (s2.dl hD)) (r2.dl hD2 nA)) (ra.dl hD2) dl_same
      rw [dl_upd hD2] at this
      exact this, kx⟩
end
end MW

set_option Elab.async false
set_option linter.all false
set_option maxRecDepth 100000
namespace MW
open PySem PySem.Spec PyProof.Rows L2 Evl SX HW
theorem wipe_set {σv : L2.St} {i : Nat} {x : Option V} : ∀ {is : List Nat}, i ∈ is → wipe (σv.set i x) is = wipe σv is
  | j :: is, h => by
    unfold wipe
    by_cases e : i ∈ is
    · rw [wipe_set e]
    · have : i = j := by
        rcases List.mem_cons.mp h with h | h
        · exact h
        · exact absurd h e
      subst this
      have sw : ∀ {js : List Nat}, i ∉ js → wipe (σv.set i x) js = (wipe σv js).set i x := by
        intro js
        induction js with
        | nil => intro _; rfl
        | cons k js ih =>
          intro hk
          rw [List.mem_cons, not_or] at hk
          unfold wipe
          rw [ih hk.2, List.set_comm _ _ hk.1]
      rw [sw e, List.set_set]
theorem wipe_wipe {σv : L2.St} (is : List Nat) : wipe (wipe σv is) is = wipe σv is := by
  have : ∀ (js : List Nat), (∀ j ∈ js, j ∈ is) → wipe (wipe σv js) is = wipe σv is := by
    intro js
    induction js with
    | nil => intro _; rfl
    | cons j js ih =>
      intro h
      show wipe ((wipe σv js).set j none) is = _
      rw [wipe_set (h j List.mem_cons_self)]
      exact ih fun k hk => h k (List.mem_cons_of_mem _ hk)
  exact this is fun j h => h
mutual
def Tg.inn (is : List Nat) : Tg → Bool
  | .nm i => is.contains i
  | .tp ts => Tg.inns is ts
def Tg.inns (is : List Nat) : List Tg → Bool
  | [] => true
  | t :: ts => Tg.inn is t && Tg.inns is ts
end
mutual
theorem Tg.wip {is : List Nat} {K : PySem.W.Frag} {σ0 : L2.St} : ∀ (t : Tg) {u : V} {σv : L2.St} {H : Hp} {Q : L2.St → Hp → Prop}, t.inn is = true → wipe σv is = σ0 → Tg.g K t u σv H Q → Tg.g K t u σv H (fun σ2 H2 => wipe σ2 is = σ0 ∧ Q σ2 H2)
  | .nm i, u, σv, H, Q, h, e, q => by
    rw [Tg.g] at q ⊢
    rw [Tg.inn] at h
    exact ⟨by rw [wipe_set (List.contains_iff_mem.mp h)]; exact e, q⟩
  | .tp ts, u, σv, H, Q, h, e, q => by
    rw [Tg.g] at q ⊢
    rw [Tg.inn] at h
    obtain ⟨a, xs, h1, h2, h3, h4⟩ := q
    exact ⟨a, xs, h1, h2, h3, Tg.wips ts h e h4⟩
theorem Tg.wips {is : List Nat} {K : PySem.W.Frag} {σ0 : L2.St} : ∀ (ts : List Tg) {us : List V} {σv : L2.St} {H : Hp} {Q : L2.St → Hp → Prop}, Tg.inns is ts = true → wipe σv is = σ0 → Tg.gs K ts us σv H Q → Tg.gs K ts us σv H (fun σ2 H2 => wipe σ2 is = σ0 ∧ Q σ2 H2)
  | [], us, σv, H, Q, h, e, q => by
    rw [Tg.gs] at q ⊢
    exact ⟨q.1, e, q.2⟩
  | t :: ts, us, σv, H, Q, h, e, q => by
    rw [Tg.gs] at q ⊢
    rw [Tg.inns, Bool.and_eq_true] at h
    obtain ⟨v, r, h1, h2⟩ := q
    refine ⟨v, r, h1, ?_⟩
    have := Tg.wip (Q := fun σ2 H2 => Tg.gs K ts r σ2 H2 Q) t h.1 e h2
    exact Tg.gmono t this fun σ2 H2 z => Tg.wips ts h.2 z.1 z.2
theorem Tg.gmono {K : PySem.W.Frag} : ∀ (t : Tg) {u : V} {σv : L2.St} {H : Hp} {Q Q' : L2.St → Hp → Prop}, Tg.g K t u σv H Q → (∀ σ2 H2, Q σ2 H2 → Q' σ2 H2) → Tg.g K t u σv H Q'
  | .nm i, u, σv, H, Q, Q', q, k => by rw [Tg.g] at q ⊢; exact k _ _ q
  | .tp ts, u, σv, H, Q, Q', q, k => by
    rw [Tg.g] at q ⊢
    obtain ⟨a, xs, h1, h2, h3, h4⟩ := q
    exact ⟨a, xs, h1, h2, h3, Tg.gsmono ts h4 k⟩
theorem Tg.gsmono {K : PySem.W.Frag} : ∀ (ts : List Tg) {us : List V} {σv : L2.St} {H : Hp} {Q Q' : L2.St → Hp → Prop}, Tg.gs K ts us σv H Q → (∀ σ2 H2, Q σ2 H2 → Q' σ2 H2) → Tg.gs K ts us σv H Q'
  | [], us, σv, H, Q, Q', q, k => by rw [Tg.gs] at q ⊢; exact ⟨q.1, k _ _ q.2⟩
  | t :: ts, us, σv, H, Q, Q', q, k => by
    rw [Tg.gs] at q ⊢
    obtain ⟨v, r, h1, h2⟩ := q
    exact ⟨v, r, h1, Tg.gmono t h2 fun σ2 H2 z => Tg.gsmono ts z k⟩
end
theorem Tg.wiped {is : List Nat} {t : Tg} (h : t.inn is = true) : ∀ K u σv H Q, Tg.g K t u (wipe σv is) H Q → Tg.g K t u (wipe σv is) H (fun σ2 H2 => wipe σ2 is = wipe σv is ∧ Q σ2 H2) := fun K u σv H Q q => Tg.wip t h (wipe_wipe is) q
section
variable {X : Cx} {F : Cf} {W : WX} {e : Expr} {me : ME} {tt : MT} {mI : MI} {t : Tg} {is : List Nat} {mas : MA} {st : Stmt} {i : Nat}
theorem ILc (hK : X.K = F.K) (h : PE X e (tLc (denI F W mI) (t.g X.K) (denT F W0 tt) (denE F W0 me) is)) (hi : t.inn is = true := by decide) : IL X F W e (lComp mI t is tt me) := h.imp fun _ _ _ q => lc_imp hK (Tg.wiped hi) q
/-- y = [..] -/
theorem setLc {K : PySem.W.Frag} (hK : K = F.K) (h : PS X st (tAsg (tLc (denI F W mI) (t.g K) (denT F W0 tt) (denE F W0 me) is) (gName i))) (hi : t.inn is = true := by decide) : PS X st (tAsg (denL F W (lComp mI t is tt me)) (gName i)) := h.imp fun _ _ _ q => lc_imp hK (Tg.wiped hi) q
theorem setFrz (h : PS X st (tAsg (denL F W mas) (gName i))) : PS X st (tAsg (denE F W (mFrz mas)) (gName i)) := h.imp fun _ _ _ q => frz_imp q
theorem setNew (h : PS X st (tAsg (denL F W mas) (gName i))) : PS X st (tAsg (denE F W (mNew mas)) (gName i)) := h.imp fun _ _ _ q => new_imp q
def mYes : MT := fun _ μ Q _ => Q true μ
theorem pts_yes : PTs X [] (denT F W0 mYes) := ⟨fun pins s σv H Q I ⟨A0, ω, σ, Qm, Em, a0, h, k, kx⟩ => pts_nil.run pins s σv H Q I (k true ω H h .refl a0)⟩
end
/-! ### a def -/
def fnM (n k : Nat) (b : MS) : FnM := fun vs μ Q E => b ⟨fun _ μ' => Q .non μ', Q⟩ (vs.map .val ++ List.replicate (n - k) .no) μ E
section
variable {P : Program} {w : World} {K : PySem.W.Frag} {mg : Str → Option Value} {base : Heap} {F : Cf}
theorem at_start {N : List Str} {A : Av} {ω : Om} {H : Hp} {vs : List Val} {us : List V} {k : Nat} (r : Rel F A ω H) (rv : RelVs F A ω H vs us) (hk : us.length = k) (hn : k ≤ N.length) : AtF F ⟨A, fun _ => False, ω, H⟩ ω H (vs.map .val ++ List.replicate (N.length - k) .no) (start N us) := by
  have hs : ∀ {j : Nat} {s : Slot}, (vs.map Slot.val ++ List.replicate (N.length - k) .no)[j]? = some s → (∃ v, s = .val v ∧ vs[j]? = some v) ∨ (s = .no ∧ vs.length ≤ j) := fun {j s} h => by
    by_cases hj : j < vs.length
    · rw [List.getElem?_append_left (by rw [List.length_map]; exact hj), List.getElem?_map] at h
      obtain ⟨v, h1, rfl⟩ := Option.map_eq_some_iff.mp h
      exact .inl ⟨v, rfl, h1⟩
    · rw [List.getElem?_append_right (by rw [List.length_map]; omega)] at h
      exact .inr ⟨List.eq_of_mem_replicate (List.mem_of_getElem? h), by omega⟩
  have nm : ∀ {j}, ¬ Mine (vs.map Slot.val ++ List.replicate (N.length - k) .no) j := fun {j} ⟨s, h1, h2⟩ => by
    rcases hs h1 with ⟨v, rfl, _⟩ | ⟨rfl, _⟩ <;> cases h2
  have eA : ∀ p, AO A (vs.map Slot.val ++ List.replicate (N.length - k) .no) (start N us) p → A p := fun p hp => by
    rcases hp with hp | ⟨j, hj, _⟩
    · exact hp
    · exact absurd hj nm
  have hl := rv.len
  refine ⟨⟨r.less eA, ?_, fun j s hj => ?_, fun j p hj _ => absurd hj nm, fun j k p hj _ _ _ => absurd hj nm⟩, .refl, fun j p hj _ => absurd hj nm⟩
  · unfold L2.start
    rw [List.length_append, List.length_append, List.length_map, List.length_map, List.length_replicate, List.length_replicate]
    omega
  · have hjl : j < (vs.map Slot.val ++ List.replicate (N.length - k) Slot.no).length := (List.getElem?_eq_some_iff.mp hj).1
    rw [List.length_append, List.length_map, List.length_replicate] at hjl
    rcases hs hj with ⟨v, rfl, h1⟩ | ⟨rfl, h1⟩
    · obtain ⟨u, k1, k2⟩ := rv.get h1
      have hju : j < us.length := (List.getElem?_eq_some_iff.mp k1).1
      refine ⟨some u, ?_, u, rfl, k2.av fun p z => .inl (eA p z)⟩
      unfold L2.start
      rw [List.getElem?_append_left (by rw [List.length_map]; exact hju), List.getElem?_map, k1]
      rfl
    · refine ⟨none, ?_, trivial⟩
      unfold L2.start
      rw [List.getElem?_append_right (by rw [List.length_map]; omega), List.getElem?_replicate, if_pos (by rw [List.length_map]; omega)]
theorem fn_ok {x qual : Str} {st : Stmt} {f : Addr} {fd : FuncData} {N ps : List Str} {k : Nat} {mb : MS} (Fn : Fun K x qual st f fd) (S : FnScope N ps (defScope st)) (hn : ps.length ≤ N.length)
    (hbody : ∀ (cdv : Value) (A : Around) (outer : List Env) (s : Shared) (H : Hp) (E : XK), Room k (A.deeper (envOfC qual (defScope st) s.heap.objs.size f cdv)) → ISs (cxOf (L2.CX P w) P w K mg base N qual (defScope st) f cdv A outer s H E) F (fun cls d _ H => E cls d H) (defBody st) mb) :
    FnOk P w K mg base (L2.CX P w) (k + 1) f fd ps (spM F ps.length (fnM N.length ps.length mb)) :=
  Fn.okX S (fun vs H Q E h => h.1) fun cdv A outer s H vs Q E hr h => by
    refine ⟨_, hbody cdv A outer s H E hr, ?_⟩
    obtain ⟨hl, A', ω, args, Qm, Em, r, rv, hf, k, kx⟩ := h
    exact ⟨⟨A', fun _ => False, ω, H⟩, ω, _, ⟨fun _ μ' => Qm .non μ', Qm⟩, Em, at_start r rv hl hn, hf,
      fun σ' σv' ω' H' q a => k .non ω' H' .non q ⟨a.st.n, a.st.m, fun p o h t f => a.st.h p o h t f id, a.st.t⟩ (a.rel.less AO.sub) (rv_non.mpr rfl),
      fun v ω' H' u q s r rv => k v ω' H' u q ⟨s.n, s.m, fun p o h t f => s.h p o h t f id, s.t⟩ r rv,
      fun x ω' H' cls d σ' σv' q a ex => kx x ω' H' cls d q ⟨a.st.n, a.st.m, fun p o h t f => a.st.h p o h t f id, a.st.t⟩ (a.rel.less AO.sub) ex⟩
end
end MW

set_option Elab.async false
set_option linter.all false
set_option maxRecDepth 100000
namespace MW
open PySem PySem.Spec PyProof.Rows L2 Evl SX HW
section
variable {X : Cx} {F : Cf} {A A0 : Av} {ω ω' : Om} {H H' : Hp} {W : WX} {a b e o i value tg : Expr} {es : List Expr} {ma mb mc me mo mi mv : ME} {mas mbs : MA} {pos p : Pos} {v : Val} {u : V} {vs : List Val} {us ws : List V} {σ : Lc} {σv : L2.St} {fe : Fe} {Em : QX} {Dm : MEnds} {D : Ends} {st : Stmt} {sts body : List Stmt} {ms mt mr mb' : MS} {tt : MT} {mI : MI} {t : Tg} {x : Str} {f : Fd} {c : Cl}
/-! ### enumerate, reversed -/
/-- pairs with their numbers -/
def enumL (vs : List Val) : List Val := (List.range vs.length).map fun k => .tup [.int (k : Nat), vs.getD k .non]
theorem enumL_len : (enumL vs).length = vs.length := by unfold enumL; rw [List.length_map, List.length_range]
theorem enumL_get {i : Nat} (h : vs[i]? = some v) : (enumL vs)[i]? = some (.tup [.int (i : Nat), v]) := by
  have hi : i < vs.length := (List.getElem?_eq_some_iff.mp h).1
  unfold enumL
  rw [List.getElem?_map, List.getElem?_range hi]
  simp [List.getD, h]
/-- a new pair -/
theorem pair_new {q : Addr} {x y : V} {v w : Val} (r : Rel F A ω H) (hq : H q = none) (rx : RelV F A ω H v x) (ry : RelV F A ω H w y) : Stp ω H ω (upd H q (.tup [x, y])) ∧ Rel F A ω (upd H q (.tup [x, y])) ∧ RelV F A ω (upd H q (.tup [x, y])) (.tup [v, w]) (.ref q) :=
  ⟨.fresh hq, r.fresh hq, rv_tup.mpr ⟨q, _, rfl, upd_same, .cons (rx.step r.off_of (.fresh hq)) (.one (ry.step r.off_of (.fresh hq)))⟩⟩
theorem wkS_enum {G : Hp → Prop} {Y : Nat → Hp → V → Hp → Prop} {ok : Sto → Prop} {Y2 : Nat → Hp → V → Hp → Prop} (h : WkS F A ω H vs ok G Y) (hy : ∀ i H2 x H3, G H2 → Y2 i H2 x H3 → ∃ T y, x = .ref T ∧ H2 T = none ∧ H3 = upd H2 T (.tup [.int (i : Nat), y]) ∧ Y i H2 y H2) (hs : ∀ i H2 x H3, Y i H2 x H3 → H3 = H2) : WkS F A ω H (enumL vs) ok G Y2 := fun O A2 ω2 H2 hO hA2 r2 s2 hok => by
  obtain ⟨g, k⟩ := h O A2 ω2 H2 hO hA2 r2 s2 hok
  refine ⟨g, fun i x H3 hi y => ?_⟩
  obtain ⟨T, z, rfl, hT, rfl, y'⟩ := hy i H2 x H3 g y
  rw [enumL_len] at hi
  obtain ⟨v, hv, s3, r3, rv⟩ := k i z H2 hi y'
  obtain ⟨k1, k2, k3⟩ := pair_new r2 hT (rv_int.mpr rfl) rv
  exact ⟨_, enumL_get hv, k1, k2, k3⟩
def YE (q : Addr) : Nat → Hp → V → Hp → Prop := fun i H v H' => ∃ T x, v = .ref T ∧ H T = none ∧ H' = upd H T (.tup [.int (i : Nat), x]) ∧ ∀ ws, H q = some (.lst ws) → ws[i]? = some x
theorem walk_e {K : PySem.W.Frag} {q : Addr} {n : Nat} : Walk (Ite K q) n (fun H => ∃ ws, H q = some (.lst ws) ∧ ws.length = n) (YE q) := by
  refine ⟨fun i H hi ⟨ws, h1, h2⟩ => ⟨ws, ws[i]'(by omega), sq_of h1, by simp [h2, hi]⟩, fun H ⟨ws, h1, h2⟩ => ⟨ws, sq_of h1, by omega⟩, fun i H v H' hi _ y => ?_⟩
  obtain ⟨T, x, h1, h2, h3, h4⟩ := y
  exact ⟨T, x, h1, h2, h3, fun ws h => h4 ws (sq_of h)⟩
/-- enumerate(text) -/
def iEnumS' (m : ME) : MI := fun σ μ R E => m σ μ (fun v μ1 => match v with
  | .str l => R (enumL (l.map fun c => .str [c])) (fun _ => True) μ1
  | _ => False) E
end
end MW

set_option Elab.async false
set_option linter.all false
set_option maxRecDepth 100000
namespace MW
open PySem PySem.Spec PyProof.Rows L2 Evl SX HW
open AutoSeq1 (wpAny_loadPart')
/-! ### enumerate(tuple) -/
abbrev tIt (l : Addr) : Obj := { cls := .type "tuple_iterator", data := .fields #[.ref l, .int 0 0] }
abbrev eOb (q : Addr) : Obj := { cls := .type "enumerate", data := .fields #[.none, .bool false, .ref q, rawInt 0, .none, .none] }
set_option maxHeartbeats 1000000 in
theorem meets_enumT (l : Addr) (items : Array Value) (ob : Obj) (hc : ob.cls = .type "tuple") (hd : ∃ n, ob.data = .seq items n) :
    Meets (Builtin.«enumerate.__new__» ⟨[.type "enumerate", .ref l], []⟩) (fun _ R s => s.heap.get? l = some ob ∧ R (.ok (.ret (.ref (s.heap.push (tIt l)).objs.size))) { s with heap := (s.heap.push (tIt l)).push (eOb s.heap.objs.size) }) :=
  .of_wp fun prog w A R s h => by
    obtain ⟨hp, g, d, tk, os⟩ := s; obtain ⟨hl, h⟩ := h
    have hsub := sub_enumerate
    obtain ⟨n, hd⟩ := hd
    have hL : Heap.IsTuple (Shared.heap ⟨hp, g, d, tk, os⟩) l items := ⟨_, hl, hc, n, hd⟩
    wp_walk using wpAny_loadPart' hl
    refine wpAny_stack_any fun st => wpAny_pure ?_
    split
    · rename_i c' _ _ _ _ _
      cases (c' == Value.type "enumerate")
      · wp_walk using wpAny_loadPart' hl, wpAny_pyIter_tuple hL
        exact ⟨_, rfl, h⟩
      · wp_walk using wpAny_loadPart' hl, wpAny_pyIter_tuple hL
        exact ⟨_, rfl, h⟩
    · wp_walk using wpAny_loadPart' hl, wpAny_pyIter_tuple hL
      exact ⟨_, rfl, h⟩
section
variable {P : Program} {w : World} {K : PySem.W.Frag}
theorem call_enumT {A : Around} {E : Value → Shared → Prop} {s : Shared} {l : Addr} {items : Array Value} {Q : Value → Shared → Prop} (hL : s.heap.IsTuple l items)
    (h : ∀ h', IsEnum h' (s.heap.objs.size + 1) s.heap.objs.size 0 .none → h'.IsTupleIter s.heap.objs.size l 0 → (∀ b o, s.heap.get? b = some o → h'.get? b = some o) → Q (.ref (s.heap.objs.size + 1)) { s with heap := h' }) :
    wpAny (model P w) A (call (.type "enumerate") [.ref l]) Q E s := by
  obtain ⟨ob, hl, hc, hd⟩ := hL
  refine callType_new F.called_enumerate (by decide) (F.typeCall_enumerate_1 _) (F.newCall_enumerate_1 _) (fun obj => F.args_object_init_2 obj _) F.entry_enumerate_new (meets_enumT l items ob hc hd) ⟨hl, ?_⟩
  have hz : (s.heap.push (tIt l)).objs.size = s.heap.objs.size + 1 := Heap.size_push ..
  show _ ∧ _
  rw [hz]
  have he : IsEnum ((s.heap.push (tIt l)).push (eOb s.heap.objs.size)) (s.heap.objs.size + 1) s.heap.objs.size 0 .none := by
    have q := Heap.get?_push_size (s.heap.push (tIt l)) (o := eOb s.heap.objs.size) rfl
    rw [hz] at q; exact q
  exact ⟨⟨_, he, rfl⟩, h _ he ⟨_, Heap.get?_push_of_some _ (Heap.get?_push_size _ rfl), rfl, rfl⟩ fun b o x => Heap.get?_push_of_some _ (Heap.get?_push_of_some _ x)⟩
/-- the tuple of xs at a -/
def Itet (a : Addr) (xs : List V) : It :=
  ⟨fun i H => i < xs.length ∧ H a = some (.tup xs), fun i H v H' => ∃ T x, v = .ref T ∧ H T = none ∧ xs[i]? = some x ∧ H' = upd H T (.tup [.int (i : Nat), x]), fun i H => i = xs.length ∧ H a = some (.tup xs)⟩
theorem turn_enumT {elts : List Expr} {kk : Nat} {tpos : Pos} (a : Addr) (xs : List V) (e it : Addr) (hae : a ≠ e) (hai : a ≠ it) :
    Turn P w K (.Tuple elts kk tpos) (Itet a xs) [e, it] e (fun i h => (∃ old, IsEnum h e it ((i : Nat) : Int) old) ∧ h.IsTupleIter it a i ∧ e ≠ it) where
  mem := by simp
  obj := fun i h st b hb => by
    obtain ⟨⟨old, he⟩, ⟨o, ho, hc, hd⟩, _⟩ := st
    rcases (show b = e ∨ b = it by simpa using hb) with z | z
    · rw [z]; exact ⟨_, he, fun v q => nomatch q⟩
    · rw [z]; exact ⟨o, ho, fun v q => by rw [hd] at q; cases q⟩
  keep := fun i h h' st k => let ⟨⟨old, he⟩, ⟨o, ho, r⟩, hne⟩ := st; ⟨⟨old, k e (by simp) _ he⟩, ⟨o, k it (by simp) o ho, r⟩, hne⟩
  item := by
    intro X hP hw hK hc i pins s σ H E I hf st hg
    subst hP hw hK
    obtain ⟨⟨old, he⟩, hit, hne⟩ := st
    obtain ⟨hi, ha⟩ := hg
    obtain ⟨its, rv, tp, hz⟩ := I.tuple (st_of ha)
    have hsz : its.toArray.size = xs.length := by rw [List.size_toArray, ← rv.length]
    have hel : e < s.heap.objs.size := Heap.lt_size he
    have hil : it < s.heap.objs.size := by obtain ⟨_, q, _⟩ := hit; exact Heap.lt_size q
    refine wpAny_pyNext_enum_itemD (fp := [it, a]) (St := fun i h => h.IsTupleIter it a i ∧ h.IsTuple a its.toArray) (Draws.tuple (A := X.A.in1) (I.ok.hd hc) it a hai its.toArray) he ⟨hit, tp⟩ (by rw [hsz]; exact hi) hne (by simp [hne, Ne.symm hae]) fun u h' tk hu ho hit' hT _ hk => ?_
    obtain ⟨x, hx⟩ : ∃ x, xs[i]? = some x := ⟨_, List.getElem?_eq_getElem hi⟩
    obtain ⟨u', hu', ru⟩ := rv.get hx
    have eu : u' = u := by
      have hu2 : its.toArray[i]? = some u := hu
      rw [List.getElem?_toArray, hu'] at hu2
      exact Option.some.inj hu2
    subst eu
    refine ⟨_, rfl, wpAny_letOwnedTupleGo_enum (s := { s with heap := h', toks := tk + 1 }) ho fun h'' he' sb => ?_⟩
    have hT2 : h''.get? s.heap.objs.size = some { cls := .type "tuple", data := .seq #[.int i tk, u'] } := (sb.2 _ (Nat.ne_of_gt hel)).trans hT
    have new : ObjOk X.prog X.w (upd H s.heap.objs.size (.tup [.int (i : Nat), x])) h'' s.heap.objs.size (.tup [.int (i : Nat), x]) := ⟨by show 2 ≤ sizeLine; decide, [.int i tk, u'], .cons ⟨_, rfl⟩ (.cons ru .nil), ⟨_, hT2, rfl, _, rfl⟩⟩
    have I1 : Inv X pins σ (upd H s.heap.objs.size (.tup [.int (i : Nat), x])) { s with heap := h'', toks := tk + 1 } := I.turnedNew (ch := [e, it]) (fun b ob hb q => (sb.2 b (fun z => hb (by simp [z]))).trans (hk b ob (fun z => hb (by simp [z])) (fun z => hb (by simp [z])) q)) hf (Nat.le_refl _) new
    refine ⟨.ref s.heap.objs.size, _, I1, rfl, ⟨_, x, rfl, I.hok.fresh (Nat.le_refl _), hx, rfl⟩, ⟨⟨u', ?_⟩, ?_, hne⟩, fun b hb => ?_⟩
    · rw [show ((i + 1 : Nat) : Int) = (i : Int) + 1 by omega]; exact he'
    · obtain ⟨⟨o, ho2, r⟩, _⟩ := hit'
      exact ⟨o, (sb.2 it (Ne.symm hne)).trans ho2, r⟩
    · have hb' : b < s.heap.objs.size := by
        rcases (show b = e ∨ b = it by simpa using hb) with z | z
        · rw [z]; exact hel
        · rw [z]; exact hil
      rw [upd_ne (Nat.ne_of_lt hb')]
      exact (hf b hb).1
  done := by
    intro X hP hw hK hc i pins s σ H E I hf st hg
    subst hP hw hK
    obtain ⟨⟨old, he⟩, hit, hne⟩ := st
    obtain ⟨f0, f1, f2, f3, f4, f5⟩ := hf it (by simp)
    obtain ⟨rfl, ha⟩ := hg
    obtain ⟨its, rv, tp, hz⟩ := I.tuple (st_of ha)
    have hsz : its.toArray.size = xs.length := by rw [List.size_toArray, ← rv.length]
    rw [← hsz] at he hit
    exact wpAny_pyNext_enum_endD (fp := [it, a]) (St := fun i h => h.IsTupleIter it a i ∧ h.IsTuple a its.toArray) (Draws.tuple (A := X.A.in1) (I.ok.hd hc) it a hai its.toArray) he ⟨hit, tp⟩ fun h' eb => ⟨rfl, I.turned (t' := s.toks) (fun b o hb q => eb b o hb q) f0 f1 f3 f4 f5⟩
  self := fun A i s Q E st h => let ⟨⟨_, he⟩, _⟩ := st; wpAny_pyIter_enum he h
/-- enumerate of a list or a tuple -/
def iEnA (K : PySem.W.Frag) (ta : TA) : TI := fun σ H R => ta σ H fun vs H1 => ∃ a, vs = [.ref a] ∧ ((∃ xs, SqL K H1 a xs ∧ R (Ite K a) H1) ∨ ∃ xs, H1 a = some (.tup xs) ∧ R (Itet a xs) H1)
theorem pi_enA {X : Cx} {e : Expr} {ta : TA} {pp pos tpos : Pos} {elts : List Expr} {kk : Nat} (hg : Gl X "enumerate") (hm : X.mg "enumerate" = none) (ha : PA X [e] ta) (hs : starEach [e] X.env = [(false, eval e X.env)]) :
    PI X (.Tuple elts kk tpos) (.Call (.Name "enumerate" pp) [e] [] pos) (iEnA X.K ta) := by
  refine ⟨fun pins s σ H R I h => ?_⟩
  refine Call_ (ld_blt I hg hm boot_enumerate (PyProof.Rows.callWith_type1 (thn (ha.run pos pins s σ H _ I h) fun us s1 ⟨vs, H1, I1, r1, q1⟩ => ?_) hs rfl))
  obtain ⟨a, rfl, hq⟩ := q1
  obtain rfl := Vals.ref1 r1
  have hle : ∀ {b}, b ∈ [s1.heap.objs.size + 1, s1.heap.objs.size] → s1.heap.objs.size ≤ b := fun {b} hb => by
    rcases (show b = s1.heap.objs.size + 1 ∨ b = s1.heap.objs.size by simpa using hb) with z | z
    · rw [z]; exact Nat.le_add_right _ _
    · rw [z]; exact Nat.le_refl _
  rcases hq with ⟨xs, hq, q⟩ | ⟨xs, hq, q⟩
  · obtain ⟨its, rv, p', hz⟩ := I1.list hq
    refine call_enumerate_list p'.isList fun h' he hit hsz hk => wpAny_pyIter_enum he ?_
    exact ⟨s1.heap.objs.size + 1, [s1.heap.objs.size + 1, s1.heap.objs.size], _, _, H1, rfl, I1.kept (t' := s1.toks) hk, turn_enum a (s1.heap.objs.size + 1) s1.heap.objs.size, ⟨⟨.none, he⟩, hit, Nat.succ_ne_self _⟩, fun b hb => I1.fpOk (hle hb) (I1.hok.fresh (hle hb)), q⟩
  · obtain ⟨its, rv, p', hz⟩ := I1.tuple (st_of hq)
    have hal : a < s1.heap.objs.size := I1.hok.lt hq
    refine call_enumT p' fun h' he hit hk => wpAny_pyIter_enum he ?_
    exact ⟨s1.heap.objs.size + 1, [s1.heap.objs.size + 1, s1.heap.objs.size], _, _, H1, rfl, I1.kept (t' := s1.toks) hk, turn_enumT a xs (s1.heap.objs.size + 1) s1.heap.objs.size (Nat.ne_of_lt (Nat.lt_succ_of_lt hal)) (Nat.ne_of_lt hal), ⟨⟨.none, he⟩, hit, Nat.succ_ne_self _⟩, fun b hb => I1.fpOk (hle hb) (I1.hok.fresh (hle hb)), q⟩
end
section
variable {X : Cx} {F : Cf} {A A0 : Av} {ω ω' : Om} {H H' : Hp} {W : WX} {e tg : Expr} {me : ME} {pos : Pos} {v : Val} {u : V} {vs : List Val} {us ws : List V} {σ : Lc} {σv : L2.St}
/-- enumerate of a list, a tuple -/
def iEnum' (m : ME) : MI := fun σ μ R E => m σ μ (fun v μ1 => match v with
  | .lst vs => R (enumL vs) (fun _ => True) μ1
  | .tup vs => R (enumL vs) (fun _ => True) μ1
  | v => match refL μ1 v with
    | some (a, vs) => R (enumL vs) (fun μ => μ.o a = some (.lst vs)) μ1
    | none => False) E
theorem walk_et {q : Addr} {xs : List V} : Walk (Itet q xs) xs.length (fun H => H q = some (.tup xs)) (fun i H v H' => ∃ T x, v = .ref T ∧ H T = none ∧ H' = upd H T (.tup [.int (i : Nat), x]) ∧ xs[i]? = some x) :=
  ⟨fun i H hi h => ⟨hi, h⟩, fun H h => ⟨rfl, h⟩, fun i H v H' hi _ ⟨T, x, h1, h2, h3, h4⟩ => ⟨T, x, h1, h2, h4, h3⟩⟩
theorem ii_enum {elts : List Expr} {kk : Nat} {tpos pp : Pos} (hg : Gl X "enumerate") (hm : X.mg "enumerate" = none) (he : IE X F W e me) (hs : starEach [e] X.env = [(false, eval e X.env)] := by rfl) : II X F W (.Tuple elts kk tpos) (.Call (.Name "enumerate" pp) [e] [] pos) (iEnum' me) := (pi_enA hg hm (pa_cons (pe_sz he) pa_nil hs) hs).imp fun σv H R ⟨A0, ω, σ, Rm, Em, a0, h, k, kx⟩ => deE a0 h kx fun v ω1 H1 u q1 s1 a1 r1 sz => by
  split at q1
  · rename_i vs
    obtain ⟨q, ws, rfl, h2, h3, h4⟩ := rv_lst.mp r1
    refine ⟨q, rfl, .inl ⟨ws, sq_of h2, k _ _ ω1 H1 _ _ _ q1 s1 a1 (by rw [enumL_len]; exact walk_e) (by rw [enumL_len, ← h4.len]; exact sz q ws rfl (.inl (sq_of h2))) ?_⟩⟩
    refine wkS_enum (Y := Yl q) (fun O A2 ω2 H2 hO hA2 r2 s2 _ => ?_) (fun i H2 x H3 _ y => ?_) fun i H2 x H3 y => y.1
    · have h2' := (s2.h q _ h2 (fun _ z => by cases z) h3.2 fun z => h3.1 (hO q z)).1
      refine ⟨⟨ws, h2', h4.len⟩, fun i x H3 hi y => ?_⟩
      obtain ⟨rfl, hx⟩ := y
      obtain ⟨u, hu, rr⟩ := h4.get (List.getElem?_eq_getElem hi)
      have := hx ws h2'
      rw [hu] at this
      cases this
      exact ⟨_, List.getElem?_eq_getElem hi, .refl, r2, later a1.rel hO hA2 s2 rr⟩
    · obtain ⟨T, z, k1, k2, k3, k4⟩ := y
      exact ⟨T, z, k1, k2, k3, rfl, k4⟩
  · rename_i vs
    obtain ⟨q, ws, rfl, h2, h4⟩ := rv_tup.mp r1
    refine ⟨q, rfl, .inr ⟨ws, h2, k _ _ ω1 H1 _ _ _ q1 s1 a1 (by rw [enumL_len, ← h4.len]; exact walk_et) (by rw [enumL_len, ← h4.len]; exact sz q ws rfl (.inr (st_of h2))) ?_⟩⟩
    refine wkS_enum (Y := YAt ws) (wkS_at (K := X.K) a1.rel h2 (fun _ z => by cases z) (a1.rel.off_of q _ h2 id) (a1.rel.noA h2 id (fun _ z => by cases z)) h4 fun H2 z => z) (fun i H2 x H3 _ y => ?_) fun i H2 x H3 y => y.1
    obtain ⟨T, z, k1, k2, k3, k4⟩ := y
    exact ⟨T, z, k1, k2, k3, rfl, k4⟩
  · split at q1
    · rename_i a vs hq
      obtain ⟨rfl, hs⟩ := refL_is hq
      obtain ⟨ha, rfl⟩ := rv_ref.mp r1
      obtain ⟨ws, h1, h2⟩ := (a1.rel.ob a _ hs).2.2
      refine ⟨_, rfl, .inl ⟨ws, sq_of h1, k _ _ ω1 H1 _ _ _ q1 s1 a1 (by rw [enumL_len]; exact walk_e) (by rw [enumL_len, ← h2.len]; exact sz _ ws rfl (.inl (sq_of h1))) ?_⟩⟩
      refine wkS_enum (Y := Yl (ω1.m a)) (wkS_ref hs ha) (fun i H2 x H3 _ y => ?_) fun i H2 x H3 y => y.1
      obtain ⟨T, z, k1, k2, k3, k4⟩ := y
      exact ⟨T, z, k1, k2, k3, rfl, k4⟩
    · exact q1.elim
theorem ii_enumS {elts : List Expr} {kk : Nat} {tpos pp : Pos} (hg : Gl X "enumerate") (hm : X.mg "enumerate" = none) (he : IE X F W e me) (hs : starEach [e] X.env = [(false, eval e X.env)] := by rfl) : II X F W (.Tuple elts kk tpos) (.Call (.Name "enumerate" pp) [e] [] pos) (iEnumS' me) := (pi_enumS hg hm (pa_cons he pa_nil hs) hs).imp fun σv H R ⟨A0, ω, σ, Rm, Em, a0, h, k, kx⟩ => deE a0 h kx fun v ω1 H1 u q1 s1 a1 r1 => by
  split at q1
  rotate_left
  · exact q1.elim
  rename_i l
  obtain ⟨rfl, h2⟩ := rv_str.mp r1
  have hl : (S l).cps.size = (enumL (l.map fun c => Val.str [c])).length := by rw [enumL_len]; simp [S]
  refine ⟨_, rfl, k _ _ ω1 H1 _ (fun _ => True) (Ites (S l)).yld q1 s1 a1 ⟨fun i _ hi _ => by rw [← hl] at hi; exact hi, fun _ _ => hl.symm, fun i _ _ _ hi _ y => y⟩ (by rw [enumL_len, List.length_map]; exact h2.le) fun O A2 ω2 H2 hO hA2 r2 s2 _ => ⟨trivial, fun i x H3 hi y => ?_⟩⟩
  obtain ⟨T, c, rfl, hT, hc, rfl⟩ := y
  have hc' : l[i]? = some c := by simpa [S] using hc
  obtain ⟨k1, k2, k3⟩ := pair_new (v := .int (i : Nat)) (w := .str [c]) r2 hT (rv_int.mpr rfl) (rv_str.mpr ⟨rfl, h2.one (List.mem_of_getElem? hc')⟩)
  exact ⟨_, enumL_get (by rw [List.getElem?_map, hc']; rfl), k1, k2, k3⟩
end
end MW

set_option Elab.async false
set_option linter.all false
set_option maxRecDepth 100000
namespace MW
open PySem PySem.Spec PyProof.Rows L2 Evl SX HW
section
variable {X : Cx} {F : Cf} {has : Cl → Bool} {A A0 : Av} {ω ω' : Om} {H H' : Hp} {W : WX} {a b e o i value tg : Expr} {es : List Expr} {ma mb mc me mo mi mv : ME} {mas mbs : MA} {pos p : Pos} {v : Val} {u : V} {vs : List Val} {us ws : List V} {σ : Lc} {σv : L2.St} {fe : Fe} {Em : QX} {Dm : MEnds} {D : Ends} {st : Stmt} {sts body : List Stmt} {ms mt mr mb' : MS} {tt : MT} {mI : MI} {t : Tg} {x : Str} {f : Fd} {c : Cl}
/-! ### own lists: append, item set -/
def sOwnApp (i : Nat) (m : ME) : MS := fun D σ μ E => match σ[i]? with
  | some (.own xs) => m σ μ (fun y μ1 => xs.length < lim ∧ D.nx (σ.set i (.own (xs ++ [y]))) μ1) E
  | _ => False
theorem own_at {i : Nat} {xs : List Val} (a0 : AtF F fe ω H σ σv) (hi : σ[i]? = some (.own xs)) : ∃ p ws, σv[i]? = some (some (.ref p)) ∧ H p = some (.lst ws) ∧ RelVs F (AO fe.A0 σ σv) ω H xs ws := by
  obtain ⟨uo, h1, p, ws, rfl, h2, h3⟩ := a0.sl i _ hi
  exact ⟨p, ws, h1, h2, h3⟩
theorem is_ownApp {K : PySem.W.Frag} {i : Nat} (h : PS X st (tDrop (tBM K "list" rAppend (tVar i) (tCons (denE F W me) tNil)))) : IS X F W st (sOwnApp i me) := h.imp fun D σv H ⟨fe, ω, σ, Dm, Em, a0, h, kn, kr, kx⟩ => by
  unfold sOwnApp at h
  split at h
  rotate_left
  · exact h.elim
  rename_i xs hi
  obtain ⟨p, ws, h1, h2, h3⟩ := own_at a0 hi
  refine ⟨.ref p, h1, .inl ⟨rfl, ws, sq_of h2⟩, deE a0.toAt h (kx.ex a0) fun y ω1 H1 u q1 s1 a1 r1 => ?_⟩
  have b1 := a0.step s1 a1
  obtain ⟨p', ws', h1', h2', h3'⟩ := own_at b1 hi
  rw [h1] at h1'
  cases h1'
  refine ⟨p, ws', u, rfl, rfl, h2', by rw [h3'.len]; exact lim_lt q1.1, ?_⟩
  have ap : AO fe.A0 σ σv p := .inr ⟨i, ⟨_, hi, rfl⟩, h1⟩
  have hx := b1.rel.av p ap
  exact kn _ σv ω1 _ q1.2 (b1.chg (s' := .own (xs ++ [y])) hi rfl h1 rfl (.inl trivial) ⟨p, _, rfl, upd_same, (h3'.app (.one r1)).own ap hx⟩)
def sOwnSet (i : Nat) (mj mv : ME) : MS := fun D σ μ E => mv σ μ (fun y μ1 => match σ[i]? with
  | some (.own xs) => mj σ μ1 (fun j μ2 => match j with
    | .int k => match ixN xs.length k with
      | some n => D.nx (σ.set i (.own (xs.set n y))) μ2
      | none => False
    | _ => False) E
  | _ => False) E
theorem is_ownSet {i : Nat} {mj : ME} (h : PS X st (tAsg (denE F W mv) (gSub (tVar i) (denE F W mj) rSetL))) : IS X F W st (sOwnSet i mj mv) := h.imp fun D σv H ⟨fe, ω, σ, Dm, Em, a0, h, kn, kr, kx⟩ => deE a0.toAt h (kx.ex a0) fun y ω1 H1 u q1 s1 a1 r1 => by
  split at q1
  rotate_left
  · exact q1.elim
  rename_i xs hi
  have b1 := a0.step s1 a1
  obtain ⟨p, ws, h1, h2, h3⟩ := own_at b1 hi
  refine ⟨.ref p, h1, deE a1 q1 (kx.ex b1) fun j ω2 H2 w q2 s2 a2 r2 => ?_⟩
  have b2 := b1.step s2 a2
  split at q2
  rotate_left
  · exact q2.elim
  rename_i k
  split at q2
  rotate_left
  · exact q2.elim
  rename_i n hn
  obtain ⟨p', ws', h1', h2', h3'⟩ := own_at b2 hi
  rw [h1] at h1'
  cases h1'
  refine ⟨p, ws', k, n, rfl, rv_int.mp r2, h2', by rw [h3'.len]; exact hn, ?_⟩
  have ap : AO fe.A0 σ σv p := .inr ⟨i, ⟨_, hi, rfl⟩, h1⟩
  have hx := b2.rel.av p ap
  exact kn _ σv ω2 _ q2 (b2.chg (s' := .own (xs.set n y)) hi rfl h1 rfl (.inl trivial) ⟨p, _, rfl, upd_same, (h3'.set n (r1.step a1.rel.off_of s2)).own ap hx⟩)
/-- xs[j] = v, a list of the store -/
def sSetIx (mo mj mv : ME) : MS := fun D σ μ E => mv σ μ (fun y μ1 => mo σ μ1 (fun l μ2 => mj σ μ2 (fun j μ3 => match refL μ3 l, j with
  | some (a, xs), .int k => match ixN xs.length k with
    | some n => D.nx σ (μ3.put a (.lst (xs.set n y)))
    | none => False
  | _, _ => False) E) E) E
theorem is_setIx {mj : ME} (h : PS X st (tAsg (denE F W mv) (gSub (denE F W mo) (denE F W mj) rSetL))) : IS X F W st (sSetIx mo mj mv) := h.imp fun D σv H ⟨fe, ω, σ, Dm, Em, a0, h, kn, kr, kx⟩ => deE a0.toAt h (kx.ex a0) fun y ω1 H1 u q1 s1 a1 r1 => deE a1 q1 (kx.ex (a0.step s1 a1)) fun l ω2 H2 w2 q2 s2 a2 r2 => deE a2 q2 (kx.ex (a0.step (s1.trans s2) a2)) fun j ω3 H3 w3 q3 s3 a3 r3 => by
  split at q3
  rotate_left
  · exact q3.elim
  rename_i a xs k hq
  split at q3
  rotate_left
  · exact q3.elim
  rename_i n hn
  obtain ⟨rfl, hs⟩ := refL_is hq
  obtain ⟨_, rfl⟩ := rv_ref.mp (r2.step a2.rel.off_of s3)
  obtain ⟨ws, h1, h2⟩ := (a3.rel.ob a _ hs).2.2
  obtain ⟨st, rr⟩ := lst_put a3.rel hs (h2.set n ((r1.step a1.rel.off_of s2).step a2.rel.off_of s3))
  exact ⟨_, ws, k, n, rfl, rv_int.mp r3, h1, by rw [h2.len]; exact hn, kn σ σv _ _ q3 (a0.step (s1.trans (s2.trans (s3.trans st))) (a3.step st rr))⟩
/-! ### isinstance -/
inductive Tn where
  | int | str | bool | tup | lst
def Tn.s : Tn → String
  | .int => "int" | .str => "str" | .bool => "bool" | .tup => "tuple" | .lst => "list"
def tyN (μ : Sto) : Val → Option String
  | .non => some "NoneType" | .bl _ => some "bool" | .int _ => some "int" | .str _ => some "str" | .tup _ => some "tuple" | .lst _ => some "list" | .pmp _ => some "dict"
  | .scr _ => none
  | .ref a => match μ.o a with
    | some (.lst _) => some "list"
    | some (.dic _) => some "dict"
    | _ => none
/-- is the value of the type -/
def isTn (μ : Sto) : Tn → Val → Option Bool
  | .int, v => match v with
    | .int _ => some true | .bl _ => some true | v => if (tyN μ v).isSome then some false else none
  | .str, v => match v with
    | .str _ => some true | v => if (tyN μ v).isSome then some false else none
  | .bool, v => match v with
    | .bl _ => some true | v => if (tyN μ v).isSome then some false else none
  | .tup, v => match v with
    | .tup _ => some true | v => if (tyN μ v).isSome then some false else none
  | .lst, v => match v with
    | .lst _ => some true
    | .ref a => match μ.o a with
      | some (.lst _) => some true
      | some (.dic _) => some false
      | _ => none
    | v => if (tyN μ v).isSome then some false else none
theorem tyN_rel {n : String} {K : PySem.W.Frag} (r : Rel F A ω H) (h : RelV F A ω H v u) (e : tyN ω.μ v = some n) : TyX K H u (.type n) := by
  cases v with
  | non => cases e; rw [rv_non.mp h]; exact .base .non
  | bl b => cases e; rw [rv_bl.mp h]; exact .base (.bl b)
  | int b => cases e; rw [rv_int.mp h]; exact .base (.int b)
  | str b => cases e; rw [(rv_str.mp h).1]; exact .base (.str _)
  | tup b => cases e; obtain ⟨p, vs, rfl, h, _⟩ := rv_tup.mp h; exact .base (.tup h)
  | lst b => cases e; obtain ⟨p, vs, rfl, h, _⟩ := rv_lst.mp h; exact .base (.lst h)
  | pmp b => cases e; obtain ⟨p, rfl, h, _⟩ := rv_pmp.mp h; exact .base (.dT h)
  | scr b => cases e
  | ref a =>
    obtain ⟨_, rfl⟩ := rv_ref.mp h
    simp only [tyN] at e
    cases q : ω.μ.o a with
    | none => rw [q] at e; cases e
    | some o =>
      rw [q] at e
      cases o with
      | lst vs => cases e; obtain ⟨ws, h1, _⟩ := (r.ob a _ q).2.2; exact .base (.lst h1)
      | dic kvs => cases e; obtain ⟨_, ws, h1, _⟩ := (r.ob a _ q).2.2; exact .base (.dK h1)
      | ins _ _ => cases e
      | fdic _ _ => cases e
theorem kit_all : (["NoneType", "bool", "int", "str", "tuple", "list", "dict"].all fun t => ["int", "str", "bool", "tuple", "list"].all fun n => decide (kitB t n = some (t == n || (t == "bool" && n == "int")))) = true := by decide +kernel
theorem kitB_of {t n : String} (ht : t ∈ ["NoneType", "bool", "int", "str", "tuple", "list", "dict"]) (hn : n ∈ ["int", "str", "bool", "tuple", "list"]) : kitB t n = some (t == n || (t == "bool" && n == "int")) := of_decide_eq_true (List.all_eq_true.mp (List.all_eq_true.mp kit_all t ht) n hn)
theorem isTn_kit {T : Tn} {b : Bool} {μ : Sto} (e : isTn μ T v = some b) : ∃ n, tyN μ v = some n ∧ n ∈ ["NoneType", "bool", "int", "str", "tuple", "list", "dict"] ∧ (n == T.s || (n == "bool" && T.s == "int")) = b := by
  cases v with
  | ref a =>
    cases q : μ.o a with
    | none => cases T <;> simp [isTn, tyN, q] at e
    | some o =>
      cases o with
      | lst vs => cases T <;> simp [isTn, tyN, q] at e <;> subst e <;> exact ⟨"list", by simp [tyN, q], by decide, by decide⟩
      | dic kvs => cases T <;> simp [isTn, tyN, q] at e <;> subst e <;> exact ⟨"dict", by simp [tyN, q], by decide, by decide⟩
      | ins c fs => cases T <;> simp [isTn, tyN, q] at e
      | fdic _ _ => cases T <;> simp [isTn, tyN, q] at e
  | scr ns => cases T <;> simp [isTn, tyN] at e
  | non => cases T <;> simp [isTn, tyN] at e <;> subst e <;> exact ⟨_, rfl, by decide, by decide⟩
  | bl b => cases T <;> simp [isTn, tyN] at e <;> subst e <;> exact ⟨_, rfl, by decide, by decide⟩
  | int b => cases T <;> simp [isTn, tyN] at e <;> subst e <;> exact ⟨_, rfl, by decide, by decide⟩
  | str b => cases T <;> simp [isTn, tyN] at e <;> subst e <;> exact ⟨_, rfl, by decide, by decide⟩
  | tup b => cases T <;> simp [isTn, tyN] at e <;> subst e <;> exact ⟨_, rfl, by decide, by decide⟩
  | lst b => cases T <;> simp [isTn, tyN] at e <;> subst e <;> exact ⟨_, rfl, by decide, by decide⟩
  | pmp b => cases T <;> simp [isTn, tyN] at e <;> subst e <;> exact ⟨_, rfl, by decide, by decide⟩
def mIsi (T : Tn) (m : ME) : ME := fun σ μ Q E => m σ μ (fun v μ1 => match isTn μ1 T v with
  | some b => Q (.bl b) μ1
  | none => False) E
theorem Tn.mem (T : Tn) : T.s ∈ ["int", "str", "bool", "tuple", "list"] := by cases T <;> decide
theorem ie_isi {T : Tn} (h : PE X e (tCB (rIsi X.K) (tCons (denE F W me) (tCons (tC (.ty T.s)) tNil)))) : IE X F W e (mIsi T me) := h.imp fun σv H Q ⟨A0, ω, σ, Qm, Em, a0, h, k, kx⟩ => deE a0 h kx fun v ω1 H1 u q1 s1 a1 r1 => by
  split at q1
  · rename_i b hb
    obtain ⟨n, h1, h2, h3⟩ := isTn_kit hb
    exact ⟨u, .ty T.s, .type n, .type T.s, b, rfl, .ty _, tyN_rel a1.rel r1 h1, kit_ty (by rw [kitB_of h2 T.mem, h3]), k _ ω1 H1 _ q1 s1 a1 (rv_bl.mpr rfl)⟩
  · exact q1.elim
end
end MW

set_option Elab.async false
set_option linter.all false
set_option maxRecDepth 100000
namespace MW
open PySem PySem.Spec PyProof.Rows L2 Evl SX HW
section
variable {X : Cx} {F : Cf} {has : Cl → Bool} {A A0 : Av} {ω ω' : Om} {H H' : Hp} {W : WX} {a b e o i value tg : Expr} {es : List Expr} {ma mb mc me mo mi mv : ME} {mas mbs : MA} {pos p : Pos} {v : Val} {u : V} {vs : List Val} {us ws : List V} {σ : Lc} {σv : L2.St} {fe : Fe} {Em : QX} {Dm : MEnds} {D : Ends} {st : Stmt} {sts body : List Stmt} {ms mt mr mb' : MS} {tt : MT} {mI : MI} {t : Tg} {x : Str} {f : Fd} {c : Cl}
/-- isinstance(x, (tuple, list)) -/
def mIsiS (m : ME) : ME := fun σ μ Q E => m σ μ (fun v μ1 => match isTn μ1 .tup v, isTn μ1 .lst v with
  | some b, some b' => Q (.bl (b || b')) μ1
  | _, _ => False) E
theorem ie_isiS (h : PE X e (tCB (rIsiT X.K) (tCons (denE F W me) (tCons (tTup (tCons (tC (.ty "tuple")) (tCons (tC (.ty "list")) tNil))) tNil)))) : IE X F W e (mIsiS me) := h.imp fun σv H Q ⟨A0, ω, σ, Qm, Em, a0, h, k, kx⟩ => deE a0 h kx fun v ω1 H1 u q1 s1 a1 r1 => by
  split at q1
  rotate_left
  · exact q1.elim
  rename_i b b' hb hb'
  obtain ⟨n, h1, h2, h3⟩ := isTn_kit hb
  obtain ⟨n', h1', h2', h3'⟩ := isTn_kit hb'
  rw [h1] at h1'
  cases h1'
  refine ⟨by show 2 ≤ sizeLine; decide, fun q hq => ⟨u, q, [.ty "tuple", .ty "list"], .type n, [.type "tuple", .type "list"], b || b', rfl, upd_same, .cons (.ty _) (.cons (.ty _) .nil), tyN_rel (a1.rel.fresh hq) (r1.step a1.rel.off_of (.fresh hq)) h1, ?_, k _ ω1 _ _ q1 (s1.trans (.fresh hq)) (a1.step (.fresh hq) (a1.rel.fresh hq)) (rv_bl.mpr rfl)⟩⟩
  have k1 : PySem.W.kitOne X.K (.type n) (.type "tuple") = some b := kit_ty (by rw [kitB_of h2 (by decide), ← h3]; rfl)
  have k2 : PySem.W.kitOne X.K (.type n) (.type "list") = some b' := kit_ty (by rw [kitB_of h2 (by decide), ← h3']; rfl)
  unfold PySem.W.kitAny
  rw [k1]
  cases b with
  | true => rfl
  | false =>
    show PySem.W.kitAny X.K (.type n) [.type "list"] = some (false || b')
    unfold PySem.W.kitAny
    rw [k2]
    cases b' <;> rfl
/-! ### lists made by calls -/
def lList : List Val → Sto → (List Val → Sto → Prop) → Prop := fun xs μ Q => match xs with
  | [v] => match seqA μ v with
    | some vs => Q vs μ
    | none => False
  | _ => False
def lCal (g : List Val → Sto → (List Val → Sto → Prop) → Prop) (m : MA) : MA := fun σ μ Q E => m σ μ (fun vs μ1 => g vs μ1 Q) E
/-- sorted(list of numbers), sorted(dict of few numbers) -/
def lSorted : List Val → Sto → (List Val → Sto → Prop) → Prop := fun xs μ Q => match xs with
  | [v] => match seqL μ v with
    | some vs => match intsOf vs with
      | some ns => ∀ ms : List Int, ms.Perm ns → ms.Pairwise (· ≤ ·) → Q (ms.map .int) μ
      | none => False
    | none => False
  | _ => False
theorem il_sorted {K : PySem.W.Frag} (hK : K = F.K) (h : PE X e (tCB (rSortedI K) (denA F W mas))) : IL X F W e (lCal lSorted mas) := h.imp fun σv H Q ⟨A0, ω, σ, Qm, Em, a0, h, k, kx⟩ => deA a0 h kx fun vs ω1 H1 us q1 s1 a1 r1 => by
  unfold lSorted at q1
  split at q1
  rotate_left
  · exact q1.elim
  obtain ⟨u, _, rfl, r2, hn⟩ := rvs_cons.mp r1
  obtain rfl := rvs_nil.mp hn
  split at q1
  rotate_left
  · exact q1.elim
  rename_i vs hq
  obtain ⟨q, ws, rfl, h2, h3⟩ := seqL_rel a1.rel r2 hq
  split at q1
  rotate_left
  · exact q1.elim
  rename_i ns hns
  obtain rfl := ints_rel h3 hns
  exact ⟨q, ns, rfl, sq_of h2, fun ms l h4 h5 hl => k _ ω1 H1 _ l (q1 ms h4 h5) s1 a1 rel_ints hl⟩
def kyInts : List (Ky × Val) → Option (List Int)
  | [] => some []
  | (.i n, _) :: r => (kyInts r).map (n :: ·)
  | _ => none
def lSortedD : List Val → Sto → (List Val → Sto → Prop) → Prop := fun xs μ Q => match xs with
  | [v] => match seqD μ v with
    | some (_, kvs) => match kyInts kvs with
      | some ns => ns.length < 64 ∧ ∀ ms : List Int, ms.Perm ns → ms.Pairwise (· ≤ ·) → Q (ms.map .int) μ
      | none => False
    | none => False
  | _ => False
end
end MW

set_option Elab.async false
set_option linter.all false
set_option maxRecDepth 100000
namespace MW
open PySem PySem.Spec PyProof.Rows L2 Evl SX HW
section
variable {X : Cx} {F : Cf} {has cat : Cl → Bool} {A A0 : Av} {ω ω' : Om} {H H' : Hp} {W : WX} {a b e o i value tg : Expr} {es : List Expr} {ma mb mc me mo mi mv : ME} {mas mbs : MA} {pos p : Pos} {v : Val} {u : V} {vs : List Val} {us ws : List V} {σ : Lc} {σv : L2.St} {fe : Fe} {Em : QX} {Dm : MEnds} {D : Ends} {st : Stmt} {sts body : List Stmt} {ms mt mr mb' : MS} {tt : MT} {mI : MI} {t : Tg} {x : Str} {f : Fd} {c : Cl}
/-! ### try: body, except X: suite -/
def sTry (has cat : Cl → Bool) (b s : MS) : MS := fun D σ μ E => b D σ μ (fun x μ' => has x.c = true ∧ if cat x.c = true then ∀ n, s D (List.replicate n .no) μ' (fun _ _ => False) else E x μ')
/-! ### dicts made -/
def mDNew : ME := fun _ μ Q _ => Q (.ref μ.n) (μ.new (.dic []))
/-! ### x += e -/
def sAug (i : Nat) (m : ME) : MS := fun D σ μ E => match σ[i]? with
  | some (.val v) => m σ μ (fun w μ1 => match v, w with
    | .int j, .int k => D.nx (σ.set i (.val (.int (j + k)))) μ1
    | _, _ => False) E
  | _ => False
theorem is_aug {i : Nat} (h : PS X st (tAug i (denE F W me) (ipI fun i j => i + j))) : IS X F W st (sAug i me) := h.imp fun D σv H ⟨fe, ω, σ, Dm, Em, a0, h, kn, kr, kx⟩ => by
  unfold sAug at h
  split at h
  rotate_left
  · exact h.elim
  rename_i v hq
  obtain ⟨u, h1, h2⟩ := a0.toAt.val hq
  refine ⟨u, h1, deE a0.toAt h (kx.ex a0) fun w ω1 H1 z q1 s1 a1 r1 => ?_⟩
  split at q1
  · exact ⟨_, _, rv_int.mp h2, rv_int.mp r1, kn _ _ ω1 H1 q1 ((a0.step s1 a1).set rfl ⟨_, rfl, rv_int.mpr rfl⟩)⟩
  · exact q1.elim
end
end MW

set_option Elab.async false
set_option linter.all false
set_option maxRecDepth 100000
namespace MW
open PySem PySem.Spec PyProof.Rows L2 Evl SX HW
/-- the errors; the classes of objects -/
def isX : Cl → Bool
  | .OpenFile => false | .KnownAsk => false | .Court => false | .EditorAsk => false | .Editor => false | .Helper => false | .Wire => false | _ => true
def isO : Cl → Bool := fun c => !isX c
def catOf (c k : Cl) : Bool := decide (k = c) || decide (c = .WireError)
section
variable {X : Cx} {F : Cf} {has cat : Cl → Bool} {A A0 : Av} {ω ω' : Om} {H H' : Hp} {W : WX} {a b e o i value tg : Expr} {es : List Expr} {ma mb mc me mo mi mv : ME} {mas mbs : MA} {pos p : Pos} {v : Val} {u : V} {vs : List Val} {us ws : List V} {σ : Lc} {σv : L2.St} {fe : Fe} {Em : QX} {Dm : MEnds} {D : Ends} {st : Stmt} {sts body : List Stmt} {ms mt mr mb' : MS} {tt : MT} {mI : MI} {t : Tg} {x : Str} {f : Fd} {c : Cl}
def mRevS (m : ME) : ME := fun σ μ Q E => m σ μ (fun v μ1 => match v with
  | .str l => Q (.str l.reverse) μ1
  | _ => False) E
theorem own_at' {i : Nat} {xs : List Val} (a0 : At F A0 ω H σ σv) (hi : σ[i]? = some (.own xs)) : ∃ p ws, σv[i]? = some (some (.ref p)) ∧ H p = some (.lst ws) ∧ RelVs F (AO A0 σ σv) ω H xs ws := by
  obtain ⟨uo, h1, p, ws, rfl, h2, h3⟩ := a0.sl i _ hi
  exact ⟨p, ws, h1, h2, h3⟩
def mOwnIx (i : Nat) (m : ME) : ME := fun σ μ Q E => match σ[i]? with
  | some (.own xs) => m σ μ (fun j μ1 => match j with
    | .int k => match atI xs k with
      | some v => Q v μ1
      | none => False
    | _ => False) E
  | _ => False
theorem ie_ownIx {K : PySem.W.Frag} {i : Nat} (h : PE X e (tOp (rIx K) (tVar i) (denE F W me))) : IE X F W e (mOwnIx i me) := h.imp fun σv H Q ⟨A0, ω, σ, Qm, Em, a0, h, k, kx⟩ => by
  unfold mOwnIx at h
  split at h
  rotate_left
  · exact h.elim
  rename_i xs hi
  obtain ⟨q, ws, h1, h2, h3⟩ := own_at' a0 hi
  refine ⟨.ref q, h1, deE a0 h kx fun j ω1 H1 w q1 s1 a1 r1 => ?_⟩
  obtain ⟨q', ws', h1', h2', h3'⟩ := own_at' a1 hi
  rw [h1] at h1'
  cases h1'
  split at q1
  rotate_left
  · exact q1.elim
  split at q1
  · rename_i k' _ v hv
    obtain ⟨z, l1, l2⟩ := h3'.atI hv
    exact .inl ⟨q, ws', _, z, rfl, rv_int.mp r1, sq_of h2', l1, k _ ω1 H1 _ q1 s1 a1 l2⟩
  · exact q1.elim
def mOwnLen (i : Nat) : ME := fun σ μ Q _ => match σ[i]? with
  | some (.own xs) => Q (.int (xs.length : Nat)) μ
  | _ => False
end
end MW

set_option Elab.async false
set_option linter.all false
set_option maxRecDepth 100000
namespace MW
open PySem PySem.Spec PyProof.Rows L2 Evl SX HW
/-! ### what defs by mutual recursion give, as equations -/
theorem mt_nm (i : Nat) (v : Val) (σ : Lc) : Tg.mt (.nm i) v σ = some (σ.set i (.val v)) := by rw [Tg.mt]
theorem mt_tp (ts : List Tg) (vs : List Val) (σ : Lc) : Tg.mt (.tp ts) (.tup vs) σ = if vs.length = ts.length then Tg.mts ts vs σ else none := by rw [Tg.mt]
theorem mts_nil (σ : Lc) : Tg.mts [] [] σ = some σ := by rw [Tg.mts]
theorem mts_cons (t : Tg) (ts : List Tg) (v : Val) (vs : List Val) (σ : Lc) : Tg.mts (t :: ts) (v :: vs) σ = (Tg.mt t v σ).bind fun σ1 => Tg.mts ts vs σ1 := by
  rw [Tg.mts]
  cases Tg.mt t v σ <;> rfl
section
variable {μ : Sto} {n : Nat}
theorem deep_non : deep μ n .non = some .none := by rw [deep.eq_def]
theorem deep_bl (b : Bool) : deep μ n (.bl b) = some (.bool b) := by rw [deep.eq_def]
theorem deep_int (b : Int) : deep μ n (.int b) = some (.int b) := by rw [deep.eq_def]
theorem deep_str (b : List Nat) : deep μ n (.str b) = some (.str (S b)) := by rw [deep.eq_def]
theorem deep_tup (vs : List Val) : deep μ (n + 1) (.tup vs) = (deeps μ n vs).map .tuple := by rw [deep.eq_def]
theorem deep_lst (vs : List Val) : deep μ (n + 1) (.lst vs) = (deeps μ n vs).map .list := by rw [deep.eq_def]
theorem deeps_nil : deeps μ n [] = some [] := by rw [deeps.eq_def]
theorem deeps_cons (v : Val) (vs : List Val) : deeps μ n (v :: vs) = (deep μ n v).bind fun d => (deeps μ n vs).map (d :: ·) := by
  rw [deeps.eq_def]
  simp only []
  cases h : deep μ n v with
  | none => rfl
  | some d => cases h2 : deeps μ n vs <;> rfl
end
mutual
/-- data alone: no objects that may change -/
def plain : Val → Bool
  | .tup vs => plains vs
  | .lst vs => plains vs
  | .scr _ => false
  | .pmp _ => false
  | .ref _ => false
  | _ => true
def plains : List Val → Bool
  | [] => true
  | v :: vs => plain v && plains vs
end
theorem plain_tup (vs : List Val) : plain (.tup vs) = plains vs := by rw [plain]
theorem plain_lst (vs : List Val) : plain (.lst vs) = plains vs := by rw [plain]
theorem plains_nil : plains [] = true := by rw [plains]
theorem plains_cons (v : Val) (vs : List Val) : plains (v :: vs) = (plain v && plains vs) := by rw [plains]
theorem plain_int (i : Int) : plain (.int i) = true := by rw [plain] <;> simp
theorem plain_str (i : List Nat) : plain (.str i) = true := by rw [plain] <;> simp
theorem plain_bl (i : Bool) : plain (.bl i) = true := by rw [plain] <;> simp
theorem plain_non : plain .non = true := by rw [plain] <;> simp
theorem lt_one (a b : Nat) : (([a] : List Nat) < [b]) ↔ a < b := by simp [List.cons_lt_cons_iff]
theorem le_one (a b : Nat) : (([a] : List Nat) ≤ [b]) ↔ a ≤ b := by rw [← List.not_lt, lt_one, Nat.not_lt]
theorem put_same {μ : Sto} {a : Nat} {o : Ob} : (μ.put a o).o a = some o := if_pos rfl
theorem new_same {μ : Sto} {o : Ob} : (μ.new o).o μ.n = some o := if_pos rfl
end MW

set_option Elab.async false
set_option linter.all false
set_option maxRecDepth 100000
namespace MW
open PySem PySem.Spec PyProof.Rows L2 Evl SX HW
/-! ### stores that are in order -/
theorem put_o {μ : Sto} {a b : Nat} {o : Ob} : (μ.put a o).o b = if b = a then some o else μ.o b := rfl
theorem new_o {μ : Sto} {b : Nat} {o : Ob} : (μ.new o).o b = if b = μ.n then some o else μ.o b := rfl
end MW
namespace MW
open PySem PySem.Spec PyProof.Rows L2 Evl SX HW
/-! ### calls that simp leaves closed: what comes behind is not looked into -/
inductive Tag (Q : QV) (E : QX) : Type
  | mk
def stop (f : FnM) (vs : List Val) (μ : Sto) (Q : QV) (E : QX) (_ : Tag Q E) : Prop := f vs μ Q E
theorem stop_is {f : FnM} {vs : List Val} {μ : Sto} {Q : QV} {E : QX} {t : Tag Q E} : stop f vs μ Q E t = f vs μ Q E := rfl
theorem mCall_h {n : Nat} {f : FnM} {m : MA} {σ : Lc} {μ : Sto} {Q : QV} {E : QX} : mCall (ck n f) m σ μ Q E = m σ μ (fun vs μ1 => vs.length = n ∧ stop f vs μ1 Q E .mk) E := rfl
theorem mMeth_h {c : Cl} {n : Nat} {f : FnM} {mo : ME} {m : MA} {σ : Lc} {μ : Sto} {Q : QV} {E : QX} : mMeth c (ck n f) mo m σ μ Q E = mo σ μ (fun x μ1 => match seqI μ1 x with
  | some (_, c', _) => c' = c ∧ m σ μ1 (fun vs μ2 => (x :: vs).length = n ∧ stop f (x :: vs) μ2 Q E .mk) E
  | none => False) E := rfl
theorem mMake_h {c : Cl} {n : Nat} {f : FnM} {m : MA} {σ : Lc} {μ : Sto} {Q : QV} {E : QX} : mMake c (ck n f) m σ μ Q E = m σ μ (fun vs μ1 => (Val.ref μ1.n :: vs).length = n ∧ stop f (.ref μ1.n :: vs) (μ1.new (.ins c [])) (fun v μ2 => v = .non ∧ Q (.ref μ1.n) μ2) E .mk) E := rfl
end MW
namespace MW
open PySem PySem.Spec PyProof.Rows L2 Evl SX HW
/-! ### the same without «there is»: what comes behind is looked into once -/
theorem mB_h {m : ME} {σ : Lc} {μ : Sto} {Q : Bool → Sto → Prop} {E : QX} : mB m σ μ Q E = m σ μ (fun v μ1 => match v with
  | .bl b => Q b μ1
  | _ => False) E := by
  unfold mB
  congr 1
  funext v μ1
  cases v <;> simp
theorem oEq_h {x y : Val} {μ : Sto} {Q : QV} : oEq x y μ Q = match deep μ 60 x, deep μ 60 y with
  | some d, some e => Q (.bl (PyData.eqv d e)) μ
  | _, _ => False := by
  unfold oEq
  cases deep μ 60 x <;> cases deep μ 60 y <;> simp
theorem oNe_h {x y : Val} {μ : Sto} {Q : QV} : oNe x y μ Q = match deep μ 60 x, deep μ 60 y with
  | some d, some e => Q (.bl (!PyData.eqv d e)) μ
  | _, _ => False := by
  unfold oNe
  cases deep μ 60 x <;> cases deep μ 60 y <;> simp
end MW

set_option Elab.async false
set_option linter.all false
set_option maxRecDepth 100000
namespace MW
open PySem PySem.Spec PyProof.Rows L2 Evl SX HW
section
variable {X : Cx} {F : Cf} {has : Cl → Bool} {A A0 : Av} {ω ω' : Om} {H H' : Hp} {W : WX} {a b e o i value tg : Expr} {es : List Expr} {ma mb mc me mo mi mv mk : ME} {mas mbs : MA} {pos p apos cpos : Pos} {v : Val} {u : V} {vs : List Val} {us ws : List V} {σ : Lc} {σv : L2.St} {fe : Fe} {Em : QX} {Dm : MEnds} {D : Ends} {st : Stmt} {sts body : List Stmt} {ms mt mr mb' : MS} {tt : MT} {mI : MI} {t : Tg} {x : Str} {f : Fd} {c : Cl}
/-! ### x, y, z = a, b, c -/
def sPar3 (i j l : Nat) (m : MA) : MS := fun D σ μ E => m σ μ (fun vs μ1 => match vs with
  | [u, v, w] => D.nx (((σ.set i (.val u)).set j (.val v)).set l (.val w)) μ1
  | _ => False) E
/-! ### a dict of pairs of numbers, filled by the def -/
/-- i, j, l = {(x, y): z}, b, c -/
def sParP (i j l : Nat) (x y z b c : Int) : MS := fun D σ μ _ => i ≠ j ∧ i ≠ l ∧ D.nx (((σ.set i (.ownP [((x, y), z)])).set j (.val (.int b))).set l (.val (.int c))) μ
theorem upd_comm' {H : Hp} {p q : Addr} {o o1 o2 : HO} (h : q ≠ p) : upd (upd (upd H p o) q o1) p o2 = upd (upd H q o1) p o2 := by
  funext z
  by_cases e1 : z = p
  · subst e1; rw [upd_same, upd_same]
  · rw [upd_ne e1, upd_ne e1]
    by_cases e2 : z = q
    · subst e2; rw [upd_same, upd_same]
    · rw [upd_ne e2, upd_ne e2, upd_ne e1]
theorem is_parP {i j l : Nat} {x y z b c : Int} (h : PS X st (tPar3 i j l (tCons (tDispT1 (tTup (tCons (tC (.int x)) (tCons (tC (.int y)) tNil))) (tC (.int z))) (tCons (tC (.int b)) (tCons (tC (.int c)) tNil))))) : IS X F W st (sParP i j l x y z b c) := h.imp fun D σv H ⟨fe, ω, σ, Dm, Em, a0, h, kn, kr, kx⟩ => by
  intro p hp
  refine ⟨by show 2 ≤ sizeLine; decide, fun q hq => ?_⟩
  have hqp : q ≠ p := fun e => by rw [e, upd_same] at hq; cases hq
  have hq0 : H q = none := upd_none hq
  refine ⟨q, [.inl x, .inl y], rfl, upd_same, by rw [upd_ne hqp.symm, upd_same], _, _, _, rfl, ?_⟩
  rw [upd_comm' hqp]
  have b0 := a0.step (.fresh (o := .tup [.int x, .int y]) hq0) (a0.toAt.step (.fresh hq0) (a0.rel.fresh hq0))
  have hp' : upd H q (.tup [.int x, .int y]) p = none := by rw [upd_ne hqp.symm]; exact hp
  have b1 := b0.setOwn (i := i) (s := .ownP [((x, y), z)]) hp' (b0.st.t p hp') rfl (.inr ⟨[([.inl x, .inl y], .int z)], rfl⟩) ⟨p, rfl, upd_same⟩
  have b2 := b1.set (i := j) (s := .val (.int b)) rfl ⟨.int b, rfl, rv_int.mpr rfl⟩
  have b3 := b2.set (i := l) (s := .val (.int c)) rfl ⟨.int c, rfl, rv_int.mpr rfl⟩
  exact kn _ _ ω _ h.2.2 b3
/-- found[k] = n, k new -/
def sOwnPPut (i : Nat) (mk mv : ME) : MS := fun D σ μ E => mv σ μ (fun z μ1 => match σ[i]? with
  | some (.ownP kvs) => mk σ μ1 (fun kv μ2 => match pkOf kv, z with
    | some k, .int n => pGet kvs k = none ∧ kvs.length < lim ∧ D.nx (σ.set i (.ownP (kvs ++ [(k, n)]))) μ2
    | _, _ => False) E
  | _ => False) E
theorem ownP_at {i : Nat} {kvs : List ((Int × Int) × Int)} (a0 : AtF F fe ω H σ σv) (hi : σ[i]? = some (.ownP kvs)) : ∃ p, σv[i]? = some (some (.ref p)) ∧ H p = some (.dT (kvs.map fun kv => ([.inl kv.1.1, .inl kv.1.2], .int kv.2))) := by
  obtain ⟨uo, h1, p, rfl, h2⟩ := a0.sl i _ hi
  exact ⟨p, h1, h2⟩
theorem is_ownPPut {i : Nat} (h : PS X st (L2.sDPut (tVar i) (denE F W mk) (denE F W mv))) : IS X F W st (sOwnPPut i mk mv) := h.imp fun D σv H ⟨fe, ω, σ, Dm, Em, a0, h, kn, kr, kx⟩ => deE a0.toAt h (kx.ex a0) fun z ω1 H1 u q1 s1 a1 r1 => by
  split at q1
  rotate_left
  · exact q1.elim
  rename_i kvs hi
  have b1 := a0.step s1 a1
  obtain ⟨p, h1, h2⟩ := ownP_at b1 hi
  refine ⟨.ref p, h1, deE a1 q1 (kx.ex b1) fun kv ω2 H2 w q2 s2 a2 r2 => ?_⟩
  have b2 := b1.step s2 a2
  split at q2
  rotate_left
  · exact q2.elim
  rename_i k n hk
  obtain ⟨p', h1', h2'⟩ := ownP_at b2 hi
  rw [h1] at h1'
  cases h1'
  obtain ⟨bb, rfl, hb⟩ := pk_rel r2 hk
  obtain rfl := rv_int.mp r1
  refine ⟨p, _, rfl, DPut.t h2' hb (by rw [List.length_map]; exact lim_lt q2.2.1), ?_⟩
  have e : putK (kvs.map fun kv => (([.inl kv.1.1, .inl kv.1.2] : List Key), V.int kv.2)) [.inl k.1, .inl k.2] (.int n) = (kvs ++ [(k, n)]).map fun kv => ([.inl kv.1.1, .inl kv.1.2], .int kv.2) := by
    refine (putK_new _ ?_).trans ?_
    · rw [pget_rel, q2.1]; rfl
    · rw [List.map_append]; rfl
  rw [e]
  exact kn _ σv ω2 _ q2.2.2 (b2.chg (s' := .ownP (kvs ++ [(k, n)])) hi rfl h1 rfl (.inr ⟨_, rfl⟩) ⟨p, rfl, upd_same⟩)
theorem AtF.freezeP {i : Nat} {kvs : List ((Int × Int) × Int)} (a : AtF F fe ω H σ σv) (hi : σ[i]? = some (.ownP kvs)) : AtF F fe ω H (σ.set i (.val (.pmp kvs))) σv := by
  obtain ⟨uo, h1, p, rfl, h3⟩ := a.sl i _ hi
  have il : i < σ.length := (List.getElem?_eq_some_iff.mp hi).1
  have sub : ∀ q, AO fe.A0 (σ.set i (.val (.pmp kvs))) σv q → AO fe.A0 σ σv q ∧ q ≠ p := fun q h => by
    rcases h with h | ⟨j, ⟨t, k1, k2⟩, k3⟩
    · exact ⟨.inl h, fun z => a.na0 i p ⟨_, hi, rfl⟩ h1 (z ▸ h)⟩
    · rcases get_set k1 with ⟨rfl, rfl, hl⟩ | ⟨ne, k1⟩
      · cases k2
      · refine ⟨.inr ⟨j, ⟨t, k1, k2⟩, k3⟩, fun z => ?_⟩
        subst z
        exact ne (a.dis j i q ⟨t, k1, k2⟩ ⟨_, hi, rfl⟩ k3 h1)
  have ap : AO fe.A0 σ σv p := .inr ⟨i, ⟨_, hi, rfl⟩, h1⟩
  have mine : ∀ {j}, Mine (σ.set i (.val (.pmp kvs))) j → Mine σ j := fun {j} ⟨t, k1, k2⟩ => by
    rcases get_set k1 with ⟨rfl, rfl, hl⟩ | ⟨ne, k1⟩
    · cases k2
    · exact ⟨t, k1, k2⟩
  refine ⟨⟨a.rel.less fun q h => (sub q h).1, by rw [List.length_set]; exact a.len, fun j t ht => ?_, fun j q k1 k2 => a.na0 j q (mine k1) k2, fun j k q k1 k2 k3 k4 => a.dis j k q (mine k1) (mine k2) k3 k4⟩, a.st, fun j q k1 k2 => a.new j q (mine k1) k2⟩
  rcases get_set ht with ⟨rfl, rfl, hl⟩ | ⟨ne, ht⟩
  · exact ⟨_, h1, _, rfl, rv_pmp.mpr ⟨p, rfl, h3, ⟨fun z => (sub p z).2 rfl, a.rel.avA ap⟩⟩⟩
  · obtain ⟨u, k1, k2⟩ := a.sl j t ht
    exact ⟨u, k1, k2.less fun q z => (sub q z).1⟩
def sFrzP (i : Nat) (m : MS) : MS := fun D σ μ E => match σ[i]? with
  | some (.ownP kvs) => m D (σ.set i (.val (.pmp kvs))) μ E
  | _ => False
theorem is_frzP {i : Nat} (h : IS X F W st ms) : IS X F W st (sFrzP i ms) := h.imp fun D σv H ⟨fe, ω, σ, Dm, Em, a0, h, kn, kr, kx⟩ => by
  unfold sFrzP at h
  split at h
  · rename_i vs hq
    exact deS (a0.freezeP hq) h kn kr kx
  · exact h.elim
/-- a pair among the keys -/
def mDinP (neg : Bool) (mk md : ME) : ME := fun σ μ Q E => mk σ μ (fun kv μ1 => md σ μ1 (fun dv μ2 => match pkOf kv, dv with
  | some k, .pmp kvs => Q (.bl (if neg then !(pGet kvs k).isSome else (pGet kvs k).isSome)) μ2
  | _, _ => False) E) E
/-! ### tuple + tuple -/
def oTAdd : O2 := fun x y μ Q => match x, y with
  | .tup a, .tup b => a.length + b.length ≤ lim ∧ a ≠ [] ∧ Q (.tup (a ++ b)) μ
  | _, _ => False
/-! ### xs.pop() -/
def gPop : Nat → List Val → Sto → QV → Prop := fun a xs μ Q => match xs[xs.length - 1]? with
  | some y => Q y (μ.put a (.lst xs.dropLast))
  | none => False
/-! ### {k: v, ..} -/
def mergeD (kvs more : List (Ky × Val)) : List (Ky × Val) := more.foldl (fun acc kv => dPut acc kv.1 kv.2) kvs
def mPairs : List (ME × ME) → Lc → Sto → (List (Ky × Val) → Sto → Prop) → QX → Prop
  | [], _, μ, Q, _ => Q [] μ
  | (mk, mv) :: r, σ, μ, Q, E => mk σ μ (fun kv μ1 => mv σ μ1 (fun v μ2 => match kyOf kv with
    | some k => mPairs r σ μ2 (fun kvs μ3 => Q ((k, v) :: kvs) μ3) E
    | none => False) E) E
def denP (F : Cf) (W : WX) (ps : List (ME × ME)) : List (TE × TE) := ps.map fun p => (denE F W p.1, denE F W p.2)
theorem merge_rel : ∀ {more kvs : List (Ky × Val)} {ws zs : List V}, dNd kvs → RelVs F A ω H (kvs.map (·.2)) ws → RelVs F A ω H (more.map (·.2)) zs → dNd (mergeD kvs more) ∧ ∃ ws', mergeK (zk kvs ws) (zk more zs) = zk (mergeD kvs more) ws' ∧ RelVs F A ω H ((mergeD kvs more).map (·.2)) ws'
  | [], kvs, ws, zs, nd, h, h' => by
    rw [rvs_nil.mp h']
    exact ⟨nd, ws, rfl, h⟩
  | (k, v) :: more, kvs, ws, zs, nd, h, h' => by
    obtain ⟨z, r, rfl, h2, h3⟩ := rvs_cons.mp h'
    obtain ⟨ws1, k1, k2⟩ := putK_rel (k := k) h2 nd h
    obtain ⟨k3, ws2, k4, k5⟩ := merge_rel (more := more) (dPut_nd (k := k) (v := v) nd) k2 h3
    refine ⟨k3, ws2, ?_, k5⟩
    rw [show mergeD kvs ((k, v) :: more) = mergeD (dPut kvs k v) more from rfl, ← k4, ← k1]
    rfl
theorem mPairs_rel {ps : List (ME × ME)} : ∀ {ω : Om} {H : Hp} {Qm : List (Ky × Val) → Sto → Prop} {Q : List (V × V) → Hp → Prop}, At F A0 ω H σ σv → mPairs ps σ ω.μ Qm Em → KX F W A0 ω H σ σv Em →
    (∀ (kvs : List (Ky × Val)) ω' H' ws, Qm kvs ω'.μ → Stp ω H ω' H' → At F A0 ω' H' σ σv → kvs.length = ps.length → RelVs F (AO A0 σ σv) ω' H' (kvs.map (·.2)) ws → Q ((zk kvs ws).map fun kv => (kV kv.1, kv.2)) H') → tPairs (denP F W ps) σv H Q := by
  induction ps with
  | nil => intro ω H Qm Q a0 h kx k; exact k [] ω H [] h .refl a0 rfl (rvs_nil.mpr rfl)
  | cons p r ih =>
    intro ω H Qm Q a0 h kx k
    obtain ⟨mk, mv⟩ := p
    refine deE a0 h kx fun kv ω1 H1 u q1 s1 a1 r1 => deE a1 q1 (kx.step s1) fun v ω2 H2 w q2 s2 a2 r2 => ?_
    split at q2
    rotate_left
    · exact q2.elim
    rename_i ky hk
    refine ih a2 q2 (kx.step (s1.trans s2)) fun kvs ω3 H3 ws q3 s3 a3 hl r3 => ?_
    have := k ((ky, v) :: kvs) ω3 H3 (w :: ws) q3 (s1.trans (s2.trans s3)) a3 (by simp [hl]) (.cons (r2.step a2.rel.off_of s3) r3)
    rw [ky_rel r1 hk]
    exact this
def mDisp (ps : List (ME × ME)) : ME := fun σ μ Q E => mPairs ps σ (μ.new (.dic [])) (fun kvs μ1 => μ1.o μ.n = some (.dic []) ∧ Q (.ref μ.n) (μ1.put μ.n (.dic (mergeD [] kvs)))) E
theorem ie_disp {ps : List (ME × ME)} (h : PE X e (tDisp (denP F W ps))) (hl : ps.length ≤ 15 := by decide) : IE X F W e (mDisp ps) := h.imp fun σv H Q ⟨A0, ω, σ, Qm, Em, a0, h, k, kx⟩ => fun p hp => by
  have s : Stp ω H (ω.new p (.dic [])) (upd H p (.dK [])) := .new a0.rel hp
  have a1 := a0.step s (a0.rel.new hp ⟨List.nodup_nil, [], upd_same, rvs_nil.mpr rfl⟩)
  have em : (ω.new p (.dic [])).m ω.μ.n = p := if_pos rfl
  refine mPairs_rel a1 h (kx.step s) fun kvs ω2 H2 ws q2 s2 a2 hlen r2 => ?_
  have em2 : ω2.m ω.μ.n = p := (s2.m _ (Nat.lt_succ_self _)).trans em
  obtain ⟨nd, w0, h1, h2⟩ := (a2.rel.ob _ _ q2.1).2.2
  rw [em2] at h1
  have h1' : H2 p = some (.dK []) := by rw [h1]; rfl
  obtain ⟨nd', ws', k1, k2⟩ := merge_rel (kvs := []) (ws := []) List.nodup_nil (rvs_nil.mpr rfl) r2
  obtain ⟨st, rr⟩ := dic_put a2.rel q2.1 nd' k2
  rw [em2] at st rr
  have hzl : (zk kvs ws).length = kvs.length := by
    have := r2.len
    rw [List.length_zip, List.length_map, this, List.length_map, Nat.min_self]
  refine ⟨h1', zk kvs ws, rfl, by rw [hzl, hlen]; exact hl, ?_⟩
  rw [show mergeK [] (zk kvs ws) = _ from k1]
  exact k _ _ _ _ q2.2 (s.trans (s2.trans st)) (a2.step st rr) (rv_ref.mpr ⟨Nat.lt_of_lt_of_le (Nat.lt_succ_self _) (s2.trans st).n, by rw [show (ω2.put ω.μ.n (.dic (mergeD [] kvs))).m ω.μ.n = p from em2]⟩)
end
end MW

set_option Elab.async false
set_option linter.all false
set_option maxRecDepth 100000
namespace MW
open PySem PySem.Spec PyProof.Rows L2 Evl SX HW
/-! ### d.update(e) -/
section
variable {X : Cx} {F : Cf} {has : Cl → Bool} {A A0 : Av} {ω ω' : Om} {H H' : Hp} {W : WX} {a b e o i value tg : Expr} {es : List Expr} {ma mb mc me mo mi mv mk : ME} {mas mbs : MA} {pos p apos cpos : Pos} {v : Val} {u : V} {vs : List Val} {us ws : List V} {σ : Lc} {σv : L2.St} {fe : Fe} {Em : QX} {Dm : MEnds} {D : Ends} {st : Stmt} {sts body : List Stmt} {ms mt mr mb' : MS} {tt : MT} {mI : MI} {t : Tg} {x : Str} {f : Fd} {c : Cl}
def mDUpd (mo me : ME) : ME := fun σ μ Q E => mo σ μ (fun d μ1 => (seqD μ1 d).isSome = true ∧ me σ μ1 (fun x μ2 => match seqD μ2 d, seqD μ2 x with
  | some (a, kvs), some (b, more) => a ≠ b ∧ kvs.length + more.length ≤ lim ∧ Q .non (μ2.put a (.dic (mergeD kvs more)))
  | _, _ => False) E) E
/-! ### a dict is walked -/
def sLock (m : MS) : MS := fun D σ μ E => ∃ a kvs, μ.o a = some (.dic kvs) ∧ ∀ x, m ⟨fun σ' μ' => μ'.o a = some (.fdic kvs x) ∧ D.nx σ' (μ'.put a (.dic kvs)), fun v μ' => μ'.o a = some (.fdic kvs x) ∧ D.rt v (μ'.put a (.dic kvs))⟩ σ (μ.put a (.fdic kvs x)) E
/-- a dict that is walked -/
def seqF (μ : Sto) : Val → Option (Nat × List (Ky × Val) × HO)
  | .ref a => match μ.o a with
    | some (.fdic kvs x) => some (a, kvs, x)
    | _ => none
  | _ => none
/-- d[k], d walked -/
def oDGetF : O2 := fun d kv μ Q => match kyOf kv, seqF μ d with
  | some k, some (_, kvs, _) => match dGet kvs k with
    | some v => Q v μ
    | none => False
  | _, _ => False
end
end MW

set_option Elab.async false
set_option linter.all false
set_option maxRecDepth 100000
namespace MW
open PySem PySem.Spec PyProof.Rows L2 Evl SX HW
/-! ### dict([(k, v)]) -/
/-! ### sorted(d.items()), keys numbers that rise -/
section
variable {prog : Program} {w : World} {A : Around} {s : Shared} {E : Value → Shared → Prop}
end
section
variable {X : Cx} {e : Expr} {te : TE} {p apos cpos pos : Pos}
end
/-- a def that is never called -/
def GNo : FnM := fun _ _ _ _ => False
/-! ### in the small world -/
section
variable {X : Cx} {F : Cf} {A A0 : Av} {ω ω' : Om} {H H' : Hp} {W : WX} {e : Expr} {me mo : ME} {mas : MA} {v : Val} {u : V} {vs : List Val} {us ws : List V} {σ : Lc} {σv : L2.St}
/-- xs[::-1] -/
def lRev (mo : ME) : MA := fun σ μ Q E => mo σ μ (fun v μ1 => match seqL μ1 v with
  | some vs => Q vs.reverse μ1
  | none => False) E
/-- dict([(k, v)]) -/
def oDict1 : List Val → Sto → QV → Prop := fun xs μ Q => match xs with
  | [.lst [.tup [kv, y]]] => match kyOf kv with
    | some k => Q (.ref μ.n) (μ.new (.dic [(k, y)]))
    | none => False
  | _ => False
def mDict1 (m : MA) : ME := fun σ μ Q E => m σ μ (fun vs μ1 => oDict1 vs μ1 Q) E
/-- sorted(d.items()), keys numbers that rise -/
def kvT : Ky × Val → Val
  | (.i n, v) => .tup [.int n, v]
  | (.s l, v) => .tup [.str l, v]
def lSortIt (mo : ME) : MA := fun σ μ Q E => mo σ μ (fun d μ1 => match seqD μ1 d with
  | some (_, kvs) => match kyInts kvs with
    | some ns => ns.Pairwise (· < ·) ∧ Q (kvs.map kvT) μ1
    | none => False
  | none => False) E
theorem stp_more (r : Rel F A ω H) (hk : ∀ b o, H b = some o → H' b = some o) : Stp ω H ω H' := ⟨Nat.le_refl _, fun _ _ => rfl, fun p o h _ f => ⟨hk p o h, f⟩, fun p h => by
  cases e : H p with
  | none => rfl
  | some o => rw [hk p o e] at h; cases h⟩
theorem Rel.more (r : Rel F A ω H) (hk : ∀ b o, H b = some o → H' b = some o) : Rel F A ω H' := by
  have st := stp_more r hk
  refine ⟨fun a o e => ?_, r.inj, fun q hq => ?_, fun p hp => ?_⟩
  · obtain ⟨h1, h2, h3⟩ := r.ob a o e
    obtain ⟨x, hx, _⟩ := h3.obH
    exact ⟨h1, h2, h3.step r.off_of st (by rw [hx]; exact hk _ _ hx)⟩
  · obtain ⟨ps, h1, h2, h3⟩ := r.tabs q hq
    refine ⟨ps, hk _ _ h1, h2, fun pos cv hc => ?_⟩
    obtain ⟨c, e1, e2⟩ := h3 pos cv hc
    exact ⟨c, e1, hk _ _ e2⟩
  · obtain ⟨x, h1, h2⟩ := r.av p hp
    exact ⟨x, hk _ _ h1, h2⟩
end
end MW

set_option Elab.async false
set_option linter.all false
set_option maxRecDepth 100000
namespace MW
open PySem PySem.Spec PyProof.Rows L2 Evl SX HW
/-! ### the end -/
/-- a def that is never called stands under its name -/
theorem fn_no {P : Program} {w : World} {K : PySem.W.Frag} {mg : Str → Option Value} {base : Heap} {F : Cf} {k : Nat} {f : Addr} {fd : FuncData} {ps : List Str} : FnOk P w K mg base (L2.CX P w) k f fd ps (spM F ps.length GNo) :=
  ⟨fun _ _ _ _ z => z.1, fun _ _ _ _ _ _ _ _ _ _ _ _ _ z => by
    obtain ⟨_, _, _, _, _, _, _, _, no, _⟩ := z
    exact no.elim⟩
theorem cx_no {P : Program} {w : World} {o : List Env} {H : Hp} {s : Shared} {u : Value} {s' : Shared} (h : L2.CX P w o H s (fun _ _ _ => False) u s') : False := by
  obtain ⟨_, _, _, _, _, _, _, _, _, _, _, _, no⟩ := h
  exact no
end MW

set_option Elab.async false
set_option linter.all false
set_option maxRecDepth 100000
set_option maxHeartbeats 1000000
namespace HW
open PySem PySem.Spec PyProof.Rows L2 Evl SX
theorem upd_nil {H : Hp} {p q : Addr} {o : HO} (h : upd H p o q = none) : H q = none := by
  by_cases e : q = p
  · rw [e, upd_same] at h; cases h
  · rwa [upd_ne e] at h
section
variable {X : Cx} {pins : List (Addr × Obj)} {σ : L2.St} {H : Hp} {s : Shared}
theorem lam_newN {T : List (Addr × Str)} {c P : Addr} {params : Arguments} {body : Expr} {scope : Scope} {pos : Pos} {E : Value → Shared → Prop} {Q : Value → Shared → Prop} {dV : Value} {ds : Cl} {binds : List (Str × Value)} (I : Inv X pins σ H s) (TB : LamX.TabB X.base X.mg c P) (hcode : X.env.code = .ref c)
    (hm : (P, X.env.qual ++ "<lambda>") ∈ T) (hu : ∀ p ∈ T, p.1 = P → p.2 = X.env.qual ++ "<lambda>") (hT : LamX.Tabs T H) (hfree : ∀ y ∈ scope.names, y.2 = .free → ∃ c, X.env.cells.lookup y.1 = some c) (hds : LaidIn H ds)
    (hB : ∀ pm cdv ctv, DefOk X.prog X.w (lamFn (X.env.qual ++ "<lambda>") params body scope (cloFrom X.env.cells scope.names []) pm cdv ctv dV) scope ds binds)
    (h : ∀ (f : Addr) (H1 : Hp) (s' : Shared), Inv X pins σ H1 s' → LamX.ExtN H H1 → H f = none → LamX.Tabs T H1 → LamIs X params body scope f H1 → (∀ b, H1 b = none → H b = none) → Q (.ref f) s') :
    wpAny (model X.prog X.w) X.A (makeTail "<lambda>" (X.env.qual ++ "<lambda>") params (.expr body) scope X.env dV .none none pos pos.line) Q E s := by
  obtain ⟨ps, hP, ht, ha⟩ := hT _ hm
  have bP : s.heap.BuiltinsAt X.mg P := TB.bm.keeps I.bk
  have hP' : s.heap.get? P = some { cls := .none, data := .fields ps } := I.hok P _ hP
  cases hc : codeAmong pos ps.toList with
  | none =>
    refine mk_new (closure_ok hfree) I.ok.glob (I.mod.glob.keeps I.bk) hcode (TB.code.keeps I.bk) hP' ht hc TB.gP bP fun c' ctv h' tk hx hge hlt hrec htb => ?_
    obtain ⟨c2, oc, vs, t, e2, hoc, hd, hv⟩ := hrec
    cases e2
    have hsz : s.heap.objs.size ≤ h'.objs.size := Nat.le_trans hge (Nat.le_of_lt hlt)
    have nC : H c' = none := I.hok.fresh hge
    have nF : H h'.objs.size = none := I.hok.fresh hsz
    have I1 := LamX.inv_table (t' := tk) (more := #[rawInt pos.line, rawInt pos.col, .ref c']) (h' := h') I hP (fun b o hb e => hx b o hb e) htb hge ⟨oc, vs, t, hoc, hd, hv⟩
    have hE : LamX.ExtN H (upd (upd H P (.tbl (ps ++ #[rawInt pos.line, rawInt pos.col, .ref c']))) c' (LamX.CodeO c' (X.env.qual ++ "<lambda>"))) := fun b o e n => by
      rw [upd_ne (ne_of_none e nC), upd_ne (fun z => n ps (Option.some.inj (e.symm.trans (by rw [z]; exact hP))))]
      exact e
    have eL : (ps ++ #[rawInt pos.line, rawInt pos.col, .ref c']).toList = ps.toList ++ [rawInt pos.line, rawInt pos.col, .ref c'] := by simp
    have hT1 : LamX.Tabs T (upd (upd H P (.tbl (ps ++ #[rawInt pos.line, rawInt pos.col, .ref c']))) c' (LamX.CodeO c' (X.env.qual ++ "<lambda>"))) := fun p hp => by
      by_cases hb : p.1 = P
      · rw [hu p hp hb, hb]
        refine ⟨_, by rw [upd_ne (ne_of_none hP nC), upd_same], by rw [eL]; exact PySem.TriplesOk_snoc _ _ _ _ ht, fun p' cv hcv => ?_⟩
        rw [eL] at hcv
        rcases LamX.among_app _ ht hcv with z | z
        · obtain ⟨c0, a1, a2⟩ := ha p' cv z
          exact ⟨c0, a1, hE _ _ a2 LamX.codeO_ne⟩
        · exact ⟨c', z, upd_same⟩
      · obtain ⟨ps', a1, a2, a3⟩ := hT p hp
        refine ⟨ps', by rw [upd_ne (ne_of_none a1 nC), upd_ne hb]; exact a1, a2, fun p' cv hcv => ?_⟩
        obtain ⟨c0, b1, b2⟩ := a3 p' cv hcv
        exact ⟨c0, b1, hE _ _ b2 LamX.codeO_ne⟩
    have I2 := I1.laid (t' := tk) (a := h'.objs.size) (o := ObjO h'.objs.size (lamObj (X.env.qual ++ "<lambda>") params body scope (cloFrom X.env.cells scope.names []) ((X.mg "__name__").getD .none) (.ref c') ctv dV)) (h' := h'.push (lamObj (X.env.qual ++ "<lambda>") params body scope (cloFrom X.env.cells scope.names []) ((X.mg "__name__").getD .none) (.ref c') ctv dV)) (fun b u e => Heap.get?_push_of_some _ e) (Nat.le_refl _) (objO_ok (Heap.get?_push_size _ rfl))
    have n1 : h'.objs.size ≠ c' := Nat.ne_of_gt hlt
    have n2 : h'.objs.size ≠ P := Nat.ne_of_gt (Nat.lt_of_lt_of_le (Heap.lt_size hP') hsz)
    have nF1 : upd (upd H P (.tbl (ps ++ #[rawInt pos.line, rawInt pos.col, .ref c']))) c' (LamX.CodeO c' (X.env.qual ++ "<lambda>")) h'.objs.size = none := by
      rw [upd_ne n1, upd_ne n2]
      exact nF
    have eX : Ex _ _ := Ex.new (o := ObjO h'.objs.size (lamObj (X.env.qual ++ "<lambda>") params body scope (cloFrom X.env.cells scope.names []) ((X.mg "__name__").getD .none) (.ref c') ctv dV)) nF1
    refine h h'.objs.size _ _ I2 (hE.trans (.of eX)) nF (hT1.ext eX) ⟨_, ctv, dV, c', ds, binds, upd_same, eX _ _ upd_same, fun a o z => eX _ _ (hE _ _ (hds a o z) fun _ y => by cases y), hB _ _ _⟩ fun b z => upd_nil (upd_nil (upd_nil z))
  | some cv =>
    obtain ⟨c', e, hco⟩ := ha pos cv hc
    subst e
    refine mk_old (closure_ok hfree) I.ok.glob (I.mod.glob.keeps I.bk) hcode (TB.code.keeps I.bk) hP' ht hc bP fun ctv h' tk hx hsz => ?_
    have nF : H h'.objs.size = none := I.hok.fresh hsz
    have I2 := I.laid (t' := tk) (a := h'.objs.size) (o := ObjO h'.objs.size (lamObj (X.env.qual ++ "<lambda>") params body scope (cloFrom X.env.cells scope.names []) ((X.mg "__name__").getD .none) (.ref c') ctv dV)) (h' := h'.push (lamObj (X.env.qual ++ "<lambda>") params body scope (cloFrom X.env.cells scope.names []) ((X.mg "__name__").getD .none) (.ref c') ctv dV)) (fun b u e => Heap.get?_push_of_some _ (hx b u e)) hsz (objO_ok (Heap.get?_push_size _ rfl))
    have eX : Ex H _ := Ex.new (o := ObjO h'.objs.size (lamObj (X.env.qual ++ "<lambda>") params body scope (cloFrom X.env.cells scope.names []) ((X.mg "__name__").getD .none) (.ref c') ctv dV)) nF
    exact h h'.objs.size _ _ I2 (.of eX) nF (hT.ext eX) ⟨_, ctv, dV, c', ds, binds, upd_same, eX _ _ hco, hds.ex eX, hB _ _ _⟩ fun b z => upd_nil z
def tMkLamN (X : Cx) (T : List (Addr × Str)) (params : Arguments) (body : Expr) (scope : Scope) : TE := fun _ H Q => LamX.Tabs T H ∧ ∀ f H1, LamX.ExtN H H1 → H f = none → LamX.Tabs T H1 → LamIs X params body scope f H1 → (∀ b, H1 b = none → H b = none) → Q (.ref f) H1
/-- lambda: body -/
theorem pe_lamN {T : List (Addr × Str)} {c P : Addr} {params : Arguments} {body : Expr} {scope : Scope} {pos : Pos} (TB : LamX.TabB X.base X.mg c P) (hcode : X.env.code = .ref c) (hm : (P, X.env.qual ++ "<lambda>") ∈ T) (hu : ∀ p ∈ T, p.1 = P → p.2 = X.env.qual ++ "<lambda>") (L : LmS X.N X.env.scope scope)
    (hk : ∀ x, X.env.kindOf x = X.env.scope.names.lookup x) (hdef : defaultsOf params X.env = ([], [])) (hbind : ∀ (q : Str) (cl : List (Str × Addr)) (pm cv ctv : Value), bindArgs (lamFn q params body scope cl pm cv ctv .none) ⟨[], []⟩ = pure []) :
    PE X (.Lambda params body scope pos) (tMkLamN X T params body scope) := by
  refine ⟨fun pins s σ H Q I h => ?_⟩
  obtain ⟨hT, h⟩ := h
  refine PySem.W.kla_eval hdef ?_
  rw [makeFunction_eq]
  simp only [List.zip_nil_right, List.filterMap_nil, List.isEmpty_nil, if_true, pure_bind]
  exact lam_newN (ds := []) (binds := []) I TB hcode hm hu hT (fun y hy e => I.ok.has y.1 (by rw [hk]; exact L.free y hy e)) (fun c o z => by cases z) (fun pm cdv ctv => ⟨fun y hy => (by cases hy), fun A s Q E _ q => by rw [hbind]; exact wpAny_pure q⟩) fun f H1 s' I1 e1 n1 t1 l1 g1 => ⟨.ref f, H1, I1, rfl, h f H1 e1 n1 t1 l1 g1⟩
end
end HW

set_option Elab.async false
set_option linter.all false
set_option maxRecDepth 100000
namespace MW
open PySem PySem.Spec PyProof.Rows L2 Evl SX HW
/-! ### the word of a refusal -/
def nameL (j : Nat) : List Nat := (Str.ofString (wNames.getD j "")).cps.toList
theorem name_S (j : Nat) : S (nameL j) = Str.ofString (wNames.getD j "") := S_tl _
def wOut (j : Nat) (n : Int) : HW.D := .tup [.str (nameL j), .int n]
def XdFor (j : Nat) (fl : Option (List (Str × V))) (n : Int) : Prop := (j ≠ 2 ∧ j ≠ 13 ∧ fl = none ∧ n = 0) ∨ (j = 2 ∧ fl = some [(Str.ofString "number", V.int n)]) ∨ (j = 13 ∧ fl = some [(Str.ofString "row", V.int n)])
def XdAt (fl : Option (List (Str × V))) (d : Option Addr) (H : Hp) : Prop := match fl with
  | none => d = none
  | some fs => ∃ dd, d = some dd ∧ H dd = some (.xd fs)
/-- what the function at f does, whatever is wanted of it -/
def ActM (P : Program) (w : World) (K : PySem.W.Frag) (mg : Str → Option Value) (base : Heap) (k : Nat) (H : Hp) (f : Addr) (Q0 : VK) (X0 : XK) : Prop :=
  ∀ (Q : VK) (E : XK), (∀ v H', Q0 v H' → Q v H') → (∀ cls d H', X0 cls d H' → E cls d H') → Act P w K mg base k H f Q E
def spWord (P : Program) (w : World) (K : PySem.W.Frag) (mg : Str → Option Value) (base : Heap) (k : Nat) : Sp := fun vs H Q _ => ∃ f, vs = [.ref f] ∧ ActM P w K mg base k H f Q fun cls d H2 => ∃ C j fl n, cls = .ref C ∧ mg (Str.ofString (wNames.getD j "")) = some (.ref C) ∧ j < 14 ∧ XdFor j fl n ∧ XdAt fl d H2 ∧ ∀ v H', Ex H2 H' → Rp H' (wOut j n) v → Q v H'
def wIx : Cl → Option Nat
  | .BadSheet => some 0 | .BadPlace => some 1 | .BadEdit => some 2 | .BadFile => some 3 | .Opened => some 4 | .NoFile => some 5 | .TooMany => some 6 | .BadAsk => some 7 | .NoAsk => some 8 | .Old => some 9 | .Fallen => some 10 | .NotFallen => some 11 | .BadLetter => some 12 | .BadText => some 13
  | _ => none
def wordOf (x : Exc) : Option (Nat × Int) := match wIx x.c, x.f with
  | some 2, some (.number, n) => some (2, n)
  | some 2, _ => none
  | some 13, some (.row, n) => some (13, n)
  | some 13, _ => none
  | some j, none => some (j, 0)
  | _, _ => none
def wordV (j : Nat) (n : Int) : Val := .tup [.str (nameL j), .int n]
theorem wIx_lt {c : Cl} {j : Nat} (h : wIx c = some j) : j < 14 := by
  cases c <;> simp [wIx] at h <;> omega
theorem wordOf_is {F : Cf} {H : Hp} {x : Exc} {j : Nat} {n : Int} {cls : Value} {d : Option Addr} (h : wordOf x = some (j, n)) (e : ExR F H x cls d) : cls = .ref (F.cA x.c) ∧ wIx x.c = some j ∧ ∃ fl, XdFor j fl n ∧ XdAt fl d H := by
  obtain ⟨c, f⟩ := x
  obtain ⟨e1, e2⟩ := e
  refine ⟨e1, ?_⟩
  simp only [] at e2
  unfold wordOf at h
  simp only [] at h ⊢
  split at h
  · rename_i m hc
    cases h
    obtain ⟨dd, rfl, k⟩ := e2
    exact ⟨hc, _, .inr (.inl ⟨rfl, rfl⟩), dd, rfl, k⟩
  · cases h
  · rename_i m hc
    cases h
    obtain ⟨dd, rfl, k⟩ := e2
    exact ⟨hc, _, .inr (.inr ⟨rfl, rfl⟩), dd, rfl, k⟩
  · cases h
  · rename_i j' n2 n13 hc
    cases h
    exact ⟨hc, none, .inl ⟨n2, n13, rfl, rfl⟩, e2⟩
  · cases h
section
variable {X : Cx} {F : Cf} {A A0 : Av} {ω ω' : Om} {H H' : Hp} {W : WX} {me : ME} {σ : Lc} {σv : L2.St} {p pos lpos : Pos} {params : Arguments} {body : Expr} {scope : Scope}
theorem stp_extN (e : LamX.ExtN H H') (g : ∀ b, H' b = none → H b = none) : Stp ω H ω H' := ⟨Nat.le_refl _, fun _ _ => rfl, fun p o h nt f => ⟨e p o h nt, f⟩, g⟩
theorem Rel.extN (r : Rel F A ω H) (e : LamX.ExtN H H') (g : ∀ b, H' b = none → H b = none) (t : LamX.Tabs F.T H') : Rel F A ω H' := by
  have nt : ∀ {x : HO}, ObF x → ∀ ps, x ≠ .tbl ps := fun {x} h ps z => by subst z; exact h
  have nt2 : ∀ {x : HO}, (ObH x ∨ ∃ l, x = .dT l) → ∀ ps, x ≠ .tbl ps := fun {x} h ps z => by
    subst z
    rcases h with h | ⟨l, h⟩
    · exact h
    · cases h
  refine ⟨fun a o q => ?_, r.inj, t, fun p hp => ?_⟩
  · obtain ⟨h1, h2, h3⟩ := r.ob a o q
    obtain ⟨x, hx, k⟩ := h3.obH
    exact ⟨h1, h2, h3.step r.off_of (stp_extN e g) (by rw [hx]; exact e _ _ hx (nt k))⟩
  · obtain ⟨x, h1, h2⟩ := r.av p hp
    exact ⟨x, e _ _ h1 (nt2 h2), h2⟩
/-- what _law_word tells of a run -/
def mWord (m : ME) : ME := fun σ μ Q _ => m σ μ Q fun x μ1 => match wordOf x with
  | some (j, n) => Q (wordV j n) μ1
  | none => False
theorem ie_wordG {kw kl : Nat} (d : Df X.prog X.w X.K X.mg X.base "_law_word" ["_law_work"] kw (spWord X.prog X.w X.K X.mg X.base (kl + 1))) (hr : Room kw X.A) (hl : PE X (.Lambda params body scope lpos) (tMkLamN X F.T params body scope)) (hw : ∀ c j, wIx c = some j → X.mg (Str.ofString (wNames.getD j "")) = some (.ref (F.cA c)))
    (L : HW.LmS X.N X.env.scope scope) (hbody : ∀ (A : Around) (outer : List Env) (s : Shared) (H : Hp) (E : XK) (f c' : Addr), Room kl (A.deeper (LamX.lamEnv X scope s.heap.objs.size f c')) → IE (LamX.lamCx X A outer s H E scope f c') F (fun cls d _ H => E cls d H) body me)
    (hk : ∀ x, X.env.kindOf x = X.env.scope.names.lookup x := by exact fun _ => rfl) (hO : ∀ {pins σ H s}, Inv X pins σ H s → CelOut X X.env.cells) (hg : Gl X "_law_word" := by rfl)
    (he : starEach [.Lambda params body scope lpos] X.env = (false, eval (.Lambda params body scope lpos) X.env) :: starEach [] X.env := by rfl) : IE X F W (.Call (.Name "_law_word" p) [.Lambda params body scope lpos] [] pos) (mWord me) :=
  (Df.peCg d hr hk hO (pa_cons hl pa_nil he) hg (by decide) he rfl).imp fun σv H Q ⟨A0, ω, σ, Qm, Em, a0, h, k, kx⟩ => by
    refine ⟨a0.rel.tabs, fun f H1 e1 n1 t1 l1 g1 cs C hcs => ⟨f, rfl, fun Q1 E1 hQ hE => ?_⟩⟩
    have hfr : FreeOf H1 cs := hcs
    obtain ⟨pm, ctv, dV, c', ds, bs, h1, h2, h3, h4⟩ := (l1.mono (exO_lay hfr)).ex
    refine ⟨_, _, h1, ⟨_, _, _, _, rfl⟩, lam_run (t := fun E => denE F (fun cls d _ H => E cls d H) me) C L hk h4 (fun A outer s H E f hr => hbody A outer s H E f c' hr), h2, h3, laid_lay, ?_⟩
    rw [lay_bar hfr]
    have st : Stp ω H ω H1 := stp_extN e1 g1
    have a1 := a0.step st (a0.rel.extN e1 g1 t1)
    refine ⟨A0, ω, σ, Qm, _, a1, h, fun v ω2 H2 u qv s2 a2 rv hf => hQ _ _ ⟨laid_lay, ?_⟩, fun x ω2 H2 cls d' hx s2 a2 ex hf => hE _ _ _ ?_⟩
    · rw [lay_bar hf]
      exact k v ω2 H2 u qv (st.trans s2) a2 rv
    · dsimp only at hx
      split at hx
      rotate_left
      · exact hx.elim
      rename_i j n hj
      obtain ⟨k1, k2, fl, k3, k4⟩ := wordOf_is hj ex
      refine ⟨_, j, fl, n, k1, hw _ _ k2, wIx_lt k2, k3, ?_, fun v H3 e3 r3 => ⟨laid_lay.ex e3, ?_⟩⟩
      · cases fl with
        | none => exact k4
        | some fs =>
          obtain ⟨dd, m1, m2⟩ := k4
          exact ⟨dd, m1, by rw [lay_out (out_of hf m2)]; exact m2⟩
      · have e4 : Ex H2 (bar H3 cs) := ex_bar hf e3
        have s4 : Stp ω2 H2 ω2 (bar H3 cs) := stp_more a2.rel e4
        have a4 := a2.step s4 (a2.rel.more e4)
        refine k _ ω2 _ v hx (st.trans (s2.trans s4)) a4 ?_
        unfold wOut at r3
        obtain ⟨b3, vs3, rfl, g3, g4⟩ := rp_tup.mp r3
        obtain ⟨u1, r1, rfl, g5, g4⟩ := rps_cons.mp g4
        obtain ⟨u2, r2, rfl, g6, g4⟩ := rps_cons.mp g4
        obtain rfl := rps_nil.mp g4
        have lc : LaidIn H3 cs := laid_lay.ex e3
        refine rv_tup.mpr ⟨b3, _, rfl, by rw [bar_out (out_of' lc g3 fun o => ne_tup o)]; exact g3, .cons (rv_str.mpr ⟨rp_str.mp g5, ?_⟩) (.one (rv_int.mpr (rp_int.mp g6)))⟩
        have : ∀ j, j < 14 → SOk (nameL j) := by
          intro j hj
          have : (List.range 14).all (fun j => decide ((nameL j).length ≤ strLim) && (nameL j).all (fun c => decide (c < 0x110000))) = true := by decide +kernel
          have := List.all_eq_true.mp this j (List.mem_range.mpr hj)
          rw [Bool.and_eq_true, decide_eq_true_eq] at this
          exact this
        exact this j (wIx_lt k2)
theorem ie_word {kw kl : Nat} (d : Df X.prog X.w X.K X.mg X.base "_law_word" ["_law_work"] kw (spWord X.prog X.w X.K X.mg X.base (kl + 1))) (hr : Room kw X.A) (hl : PE X (.Lambda params body scope lpos) (tMkLamN X F.T params body scope)) (hw : ∀ c j, wIx c = some j → X.mg (Str.ofString (wNames.getD j "")) = some (.ref (F.cA c)))
    (L : HW.LmS X.N X.env.scope scope) (hbody : ∀ (A : Around) (outer : List Env) (s : Shared) (H : Hp) (E : XK) (f c' : Addr), Room kl (A.deeper (LamX.lamEnv X scope s.heap.objs.size f c')) → IE (LamX.lamCx X A outer s H E scope f c') F (fun cls d _ H => E cls d H) body me)
    (hk : ∀ x, X.env.kindOf x = X.env.scope.names.lookup x := by exact fun _ => rfl) (hfn : ∀ x, X.fn x = true := by exact fun _ => rfl) (hg : Gl X "_law_word" := by rfl)
    (he : starEach [.Lambda params body scope lpos] X.env = (false, eval (.Lambda params body scope lpos) X.env) :: starEach [] X.env := by rfl) : IE X F W (.Call (.Name "_law_word" p) [.Lambda params body scope lpos] [] pos) (mWord me) :=
  ie_wordG d hr hl hw L hbody hk (fun I => .of_fn I hfn) hg he
end
end MW

set_option Elab.async false
set_option linter.all false
set_option maxRecDepth 100000
namespace MW
open PySem PySem.Spec PyProof.Rows L2 Evl SX HW
/-! ### the fourteen words -/
def kdV (j : Nat) : List V := (List.range 14).map fun i => V.bl (decide (i = j))
def kdD (j : Nat) : List HW.D := (List.range 14).map fun i => HW.D.bl (decide (i = j))
def nmD : List HW.D := (List.range 14).map fun i => HW.D.str (nameL i)
theorem kd_count : ∀ j, j < 14 → (kdV j).countP (fun z => eqV z (.bl true)) = 1 := by decide
theorem kd_flat : ∀ j, j < 14 → (kdV j).all flatV = true := by decide
theorem kd_at : ∀ j, j < 14 → (kdV j)[j]? = some (.bl true) := by decide
theorem kd_no : ∀ j, j < 14 → ∀ m, m < j → (kdV j)[m]? = some (.bl false) := by decide
theorem kd_rp {H : Hp} {j : Nat} {v : V} (r : Rp H (.lst (kdD j)) v) : ∃ p, v = .ref p ∧ H p = some (.lst (kdV j)) := by
  obtain ⟨p, vs, rfl, h1, h2⟩ := rp_lst.mp r
  have e : kdD j = ((List.range 14).map fun i => decide (i = j)).map HW.D.bl := by unfold kdD; rw [List.map_map]; rfl
  rw [e] at h2
  rw [rps_bls h2, List.map_map] at h1
  exact ⟨p, rfl, h1⟩
theorem kc {H : Hp} {σ : L2.St} {s : String} {k : List Nat} (h : S k = Str.ofString s) : EvD (tC (.str (Str.ofString s))) σ H (.str k) := ed_s (by rw [h]; exact ev_c)
theorem ed_cat {σ : L2.St} {H : Hp} {ta tb : TE} {ds es : List HW.D} (h1 : EvD ta σ H (.lst ds)) (h2 : EvD tb σ H (.lst es)) (hl : ds.length + es.length ≤ 100000) : EvD (tOp rCat ta tb) σ H (.lst (ds ++ es)) := fun H1 e Q q =>
  h1 H1 e _ fun v H2 e2 r2 => h2 H2 (e.trans e2) _ fun w H3 e3 r3 => by
    obtain ⟨p, vs, rfl, g1, g2⟩ := rp_lst.mp (r2.ex e3)
    obtain ⟨p', ws, rfl, g3, g4⟩ := rp_lst.mp r3
    refine ⟨p, p', vs, ws, rfl, rfl, g1, g3, by rw [rps_len g2, rps_len g4]; exact sz_of hl, fun l hl => q _ _ ((e2.trans e3).trans (Ex.new hl)) (rp_lst.mpr ⟨l, _, rfl, upd_same, (rps_app g2 g4).ex (Ex.new hl)⟩)⟩
section
variable {P : Program} {w : World} {K : PySem.W.Frag} {mg : Str → Option Value} {base : Heap} {F : Cf}
/-- a def whose code object is known -/
theorem fn_okC {x qual : Str} {st : Stmt} {f c : Addr} {fd : FuncData} {N ps : List Str} {k : Nat} {mb : MS} (Fn : FunC K x qual st f fd c) (S : FnScope N ps (defScope st)) (hn : ps.length ≤ N.length)
    (hbody : ∀ (A : Around) (outer : List Env) (s : Shared) (H : Hp) (E : XK), Room k (A.deeper (envOfC qual (defScope st) s.heap.objs.size f (.ref c))) → ISs (cxOf (L2.CX P w) P w K mg base N qual (defScope st) f (.ref c) A outer s H E) F (fun cls d _ H => E cls d H) (defBody st) mb) :
    FnOk P w K mg base (L2.CX P w) (k + 1) f fd ps (spM F ps.length (fnM N.length ps.length mb)) := by
  obtain ⟨oc, od, kV, doc, pm, an, ct, osl, rfl, lk, hcd⟩ := Fn.ex
  refine fn_of lk hcd S (fun vs H Q E h => h.1) fun A outer s H vs Q E hr h => ?_
  refine ⟨_, hbody A outer s H E hr, ?_⟩
  obtain ⟨hl, A', ω, args, Qm, Em, r, rv, hf, k, kx⟩ := h
  exact ⟨⟨A', fun _ => False, ω, H⟩, ω, _, ⟨fun _ μ' => Qm .non μ', Qm⟩, Em, at_start r rv hl hn, hf,
      fun σ' σv' ω' H' q a => k .non ω' H' .non q ⟨a.st.n, a.st.m, fun p o h t f => a.st.h p o h t f id, a.st.t⟩ (a.rel.less AO.sub) (rv_non.mpr rfl),
      fun v ω' H' u q s r rv => k v ω' H' u q ⟨s.n, s.m, fun p o h t f => s.h p o h t f id, s.t⟩ r rv,
      fun x ω' H' cls d σ' σv' q a ex => kx x ω' H' cls d q ⟨a.st.n, a.st.m, fun p o h t f => a.st.h p o h t f id, a.st.t⟩ (a.rel.less AO.sub) ex⟩
/-- where no error may come, none comes -/
theorem fn_nox {k : Nat} {f : Addr} {fd : FuncData} {ps : List Str} {sp : Sp} (h : FnOk P w K mg base (L2.CX P w) k f fd ps sp) : FnOk P w K mg base L2.CX0 k f fd ps (fun vs H Q _ => sp vs H Q fun _ _ _ => False) :=
  ⟨fun vs H Q E z => h.1 _ _ _ _ z, fun A outer s H args us vs Q E hr e0 hb r z => codeAny_mono (h.2 A outer s H args us vs Q _ hr e0 hb r z) fun r s' q => by
    cases r with
    | error e => exact cx_no q
    | ok fl => cases fl <;> exact q⟩
end
end MW

set_option Elab.async false
set_option linter.all false
set_option maxRecDepth 100000
namespace MW
open PySem PySem.Spec PyProof.Rows L2 Evl SX HW
section
variable {X : Cx} {F : Cf} {A A0 : Av} {ω ω' : Om} {H H' : Hp} {W : WX} {kx vx iter tg e : Expr} {me mk mv : ME} {v : Val} {u : V} {vs : List Val} {us ws : List V} {σ : Lc} {σv : L2.St} {tt : MT} {mI : MI} {t : Tg}
/-- the items of a dict comprehension: d is the new dict -/
def dcL (t : Tg) (tt : MT) (mk mv : ME) (ok : Sto → Prop) (σ : Lc) (d : Nat) (Q : Sto → Prop) : List Val → Sto → Prop
  | [], μ => ok μ ∧ Q μ
  | v :: vs, μ => ok μ ∧ match t.mt v σ with
    | some σ1 => tt σ1 μ (fun k μ1 => if k = true then mk σ1 μ1 (fun kv μ2 => mv σ1 μ2 (fun y μ3 => match kyOf kv, μ3.o d with
      | some ky, some (.dic acc) => acc.length < lim ∧ dcL t tt mk mv ok σ d Q vs (μ3.put d (.dic (dPut acc ky y)))
      | _, _ => False) (fun _ _ => False)) (fun _ _ => False) else dcL t tt mk mv ok σ d Q vs μ1) (fun _ _ => False)
    | none => False
def mDComp (m : MI) (t : Tg) (is : List Nat) (tt : MT) (mk mv : ME) : ME := fun σ μ Q E => m σ μ (fun items ok μ1 => dcL t tt mk mv ok (wipeM σ is) μ1.n (fun μ2 => Q (.ref μ1.n) μ2) items (μ1.new (.dic []))) E
end
end MW

set_option Elab.async false
set_option linter.all false
set_option maxRecDepth 100000
namespace MW
open PySem PySem.Spec PyProof.Rows L2 Evl SX HW
/-! ### dict([(k, v), ..]) -/
def pairsOf : List Val → Option (List (Ky × Val))
  | [] => some []
  | .tup [kv, y] :: r => match kyOf kv, pairsOf r with
    | some k, some l => some ((k, y) :: l)
    | _, _ => none
  | _ :: _ => none
def oDictL : List Val → Sto → QV → Prop := fun xs μ Q => match xs with
  | [.lst vs] => match pairsOf vs with
    | some kvs => Q (.ref μ.n) (μ.new (.dic (mergeD [] kvs)))
    | none => False
  | _ => False
def mDictL (m : MA) : ME := fun σ μ Q E => m σ μ (fun vs μ1 => oDictL vs μ1 Q) E
section
variable {X : Cx} {F : Cf} {A : Av} {ω : Om} {H : Hp} {W : WX} {e : Expr} {mas : MA}
end
end MW

set_option Elab.async false
set_option linter.all false
set_option maxRecDepth 100000
set_option maxHeartbeats 1000000
namespace HW
open PySem PySem.Spec PyProof.Rows L2 Evl SX
/-! ### the end of a law with several defs that make lambdas -/
theorem law_tabs {P : Program} {w : World} {K : PySem.W.Frag} {mg mb : Str → Option Value} {k : Nat} {fa a : Addr} {CT : List (Addr × Addr)} {fd : FuncData} {x : Str} {sp : Sp} {s₁ : Shared} {vs : List Value} {ns : List Int}
    (KX : K.In s₁.heap) (hns : s₁.heap.Ns mainGlobals mg) (hb : s₁.heap.Ns builtinsNs mb) (hbb : ∀ x : Str, x ≠ "__name__" → mb x = bootBuiltins x) (hlim : s₁.heap.NoLimit) (hg : s₁.gens = #[])
    (hT : ∀ p ∈ CT, s₁.heap.get? p.2 = some { cls := .none, data := .fields #[] }) (nT : ∀ p ∈ CT, K.lookup p.2 = none) (C : ∀ p ∈ CT, PySem.W.CodeHd s₁.heap p.1 p.2)
    (hbm : ∃ (bm : Addr) (ob : Obj), mg "__builtins__" = some (.ref bm) ∧ bm ≠ builtinsNs ∧ s₁.heap.get? bm = some ob ∧ ob.cls = .type "module" ∧ ob.dict = some builtinsNs ∧ ob.data = .plain)
    (ha : s₁.heap.get? a = some { cls := .type "list", data := .seq vs.toArray }) (hi : IntsAre vs ns) (hl : ns.length ≤ sizeLine) (hr : Room k callerA)
    (F : ∀ base : Heap, K.In base → base.Ns mainGlobals mg → (∀ p ∈ CT, LamX.TabB base mg p.1 p.2) → FnOk P w K mg base L2.CX0 k fa fd [x] sp) (hbind : ∀ (s : Shared) (u : Value), BindsTo s fd ⟨[u], []⟩ [(x, u)])
    (hsp : ∀ H : Hp, (∀ p ∈ CT, H p.2 = some (.tbl #[])) → Scr K H a (ns.map V.int) → sp [.ref a] H (fun v _ => v = .bl true) L2.E0) :
    codeAny (model P w) callerA (.call (.ref fa) ⟨[.ref a], []⟩) (fun r s' => r = .ok (.ret (.bool true)) ∧ OldK s₁.heap s'.heap ∧ s'.os = s₁.os ∧ AllBare s'.gens) s₁ := by
  have rv := vals_ints hi
  have lenV := hi.length
  have hTs : ∀ b, b ∈ CT.map Prod.snd → s₁.heap.get? b = some { cls := .none, data := .fields #[] } := fun b hb => by
    obtain ⟨p, hp, rfl⟩ := List.mem_map.mp hb
    exact hT p hp
  have nTs : ∀ b, b ∈ CT.map Prod.snd → K.lookup b = none := fun b hb => by
    obtain ⟨p, hp, rfl⟩ := List.mem_map.mp hb
    exact nT p hp
  have mTs : ∀ p ∈ CT, p.2 ∈ CT.map Prod.snd := fun p hp => List.mem_map.mpr ⟨p, hp, rfl⟩
  have aT : a ∉ CT.map Prod.snd := fun z => by
    rw [hTs a z] at ha
    cases ha
  have main : ∀ H : Hp, (∀ b, b ∈ CT.map Prod.snd → H b = some (.tbl #[])) → (∀ b, b ∉ CT.map Prod.snd → H b = none ∨ (b = a ∧ K.lookup a = none ∧ H b = some (.frz { cls := .type "list", data := .seq vs.toArray } (.lst (ns.map V.int))))) → Scr K H a (ns.map V.int) → HOk P w H s₁.heap →
      codeAny (model P w) callerA (.call (.ref fa) ⟨[.ref a], []⟩) (fun r s' => r = .ok (.ret (.bool true)) ∧ OldK s₁.heap s'.heap ∧ s'.os = s₁.os ∧ AllBare s'.gens) s₁ := by
    intro H hH hO hS hok
    have toB : ∀ {b : Addr} {o : Obj}, s₁.heap.get? b = some o → H b = none → (hidT s₁.heap H).get? b = some o := fun e n => hidT_get e n
    have no : ∀ {b : Addr} {o : Obj}, s₁.heap.get? b = some o → (∀ vs n, o.data ≠ .seq vs n) → o.data ≠ .fields #[] → H b = none := fun {b o} e h1 h2 => by
      by_cases hbT : b ∈ CT.map Prod.snd
      · rw [hTs b hbT] at e
        cases e
        exact absurd rfl h2
      · rcases hO b hbT with z | ⟨z, _⟩
        · exact z
        · rw [z, ha] at e
          cases e
          exact absurd rfl (h1 _ _)
    have nsK : ∀ {b : Addr} {m : Str → Option Value}, s₁.heap.Ns b m → (hidT s₁.heap H).Ns b m := fun {b m} ⟨o, es, ep, e, d, r⟩ => ⟨o, es, ep, toB e (no e (fun vs n z => by rw [d] at z; cases z) fun z => by rw [d] at z; cases z), d, r⟩
    have hKb : K.In (hidT s₁.heap H) := fun b o e => toB (KX b o e) (by
      by_cases hbT : b ∈ CT.map Prod.snd
      · rw [nTs b hbT] at e
        cases e
      · rcases hO b hbT with z | ⟨z, z2, _⟩
        · exact z
        · rw [z, z2] at e
          cases e)
    have hM : L2.Mod K mg (hidT s₁.heap H) := ⟨hKb, nsK hns, ⟨mb, nsK hb, hbb⟩, let ⟨mc, h1, h2⟩ := hlim; ⟨mc, nsK h1, h2⟩⟩
    have TB : ∀ p ∈ CT, LamX.TabB (hidT s₁.heap H) mg p.1 p.2 := by
      intro p hp
      refine ⟨?_, ?_, fun z => ?_⟩
      · obtain ⟨o, us, file, tf, flags, tg, inF, text, tt, e1, r1, r2, r3, r4⟩ := C p hp
        refine ⟨o, us, file, tf, flags, tg, inF, text, tt, toB e1 (no e1 (fun vs n z => by rw [r2] at z; cases z) fun z => ?_), r1, r2, r3, r4⟩
        rw [r2] at z
        cases z
        simp at r3
      · obtain ⟨bm, ob, b1, b2, b3, b4, b5, b6⟩ := hbm
        refine ⟨bm, ob, b1, b2, fun q => ?_, fun q => ?_, toB b3 (no b3 (fun vs n z => by rw [b6] at z; cases z) fun z => by rw [b6] at z; cases z), b4, b5, b6⟩
        · obtain ⟨o, es, ep, e, hd, _⟩ := hns
          rw [q, e] at b3
          cases b3
          rw [hd] at b6
          cases b6
        · rw [q, hT p hp] at b3
          cases b3
          cases b6
      · obtain ⟨o, es, ep, e, hd, _⟩ := hns
        rw [z, hT p hp] at e
        cases e
        cases hd
    have e0 : Env0 P w K mg (hidT s₁.heap H) callerA [] s₁ H := ⟨rfl, hM, fun b o e => of_hidT e, Nat.le_of_eq (hidT_size _ _), trivial, fun b hb => absurd (show b ∈ ([] : List Addr) from hb) (by simp), hok, .of_eq hg⟩
    refine codeAny_mono ((F _ hKb (nsK hns) TB).run callerA [] s₁ H ⟨[.ref a], []⟩ [.ref a] [.ref a] _ _ hr e0 (hbind s₁ (.ref a)) (.cons rfl .nil) (hsp H (fun p hp => hH _ (mTs p hp)) hS)) fun r s' h => ?_
    cases r with
    | error e => exact False.elim h
    | ok fl =>
      cases fl with
      | next => exact False.elim h
      | brk => exact False.elim h
      | cont => exact False.elim h
      | ret u =>
        obtain ⟨v, H', os, bare, un, hok', r', q⟩ := h
        have q' : v = .bl true := q
        subst q'
        obtain rfl : u = Value.bool true := r'
        have key : ∀ b o, b ∉ CT.map Prod.snd → s₁.heap.get? b = some o → s'.heap.get? b = some o := fun b o nb e => by
          rcases hO b nb with z | ⟨_, _, z⟩
          · exact un.keep b o e z (fun y => by cases y) (by simp)
          · obtain ⟨e1, _⟩ := hok b _ z
            obtain ⟨e2, _⟩ := hok' b _ (un.frzs b _ _ z)
            rw [e] at e1
            cases e1
            exact e2
        have hm : ∀ b, b ∈ CT.map Prod.snd → ∃ more, s'.heap.get? b = some { cls := .none, data := .fields (#[] ++ more) } := fun b hb => by
          obtain ⟨more, hmore⟩ := un.tbls b #[] (hH b hb)
          exact ⟨more, hok' b _ hmore⟩
        refine ⟨rfl, ⟨fun b o e => ?_, fun b o e => ?_⟩, os, bare⟩
        · by_cases hbT : b ∈ CT.map Prod.snd
          · obtain ⟨p, hp, rfl⟩ := List.mem_map.mp hbT
            obtain ⟨more, hm⟩ := hm _ hbT
            rw [hT p hp] at e
            cases e
            exact .inr (.inl ⟨((C p hp).tab (hT p hp)).isCodeTable, rfl, #[], more, rfl, hm⟩)
          · exact .inl (key b o hbT e)
        · by_cases hbT : b ∈ CT.map Prod.snd
          · obtain ⟨more, hm⟩ := hm _ hbT
            exact ⟨_, hm⟩
          · exact ⟨o, key b o hbT e⟩
  cases hk : K.lookup a with
  | some o =>
    have e := KX a o hk
    rw [ha] at e
    cases e
    refine main (fun b => if b ∈ CT.map Prod.snd then some (.tbl #[]) else none) (fun b hb => if_pos hb) (fun b nb => .inl (if_neg nb)) (.inr ⟨_, vs.toArray, _, hk, rfl, rfl, rfl, by rw [List.size_toArray, lenV]; exact hl, by simpa using rv⟩) fun b u z => ?_
    by_cases hbT : b ∈ CT.map Prod.snd
    · have z' := (if_pos hbT).symm.trans z
      cases z'
      exact hTs b hbT
    · have z' := (if_neg hbT).symm.trans z
      cases z'
  | none =>
    refine main (fun b => if b ∈ CT.map Prod.snd then some (.tbl #[]) else if b = a then some (.frz { cls := .type "list", data := .seq vs.toArray } (.lst (ns.map V.int))) else none) (fun b hb => if_pos hb) (fun b nb => ?_) (.inl ⟨_, (if_neg aT).trans (if_pos rfl)⟩) fun b u z => ?_
    · by_cases hba : b = a
      · exact .inr ⟨hba, hk, (if_neg nb).trans (if_pos hba)⟩
      · exact .inl ((if_neg nb).trans (if_neg hba))
    · by_cases hbT : b ∈ CT.map Prod.snd
      · have z' := (if_pos hbT).symm.trans z
        cases z'
        exact hTs b hbT
      · have z1 := (if_neg hbT).symm.trans z
        by_cases hba : b = a
        · have z' := (if_pos hba).symm.trans z1
          cases z'
          rw [hba]
          exact ⟨ha, by rw [List.length_map]; exact hl, vs, _, rv, ha⟩
        · have z' := (if_neg hba).symm.trans z1
          cases z'
theorem walk_tabs {l : PySem.W.OpenLaw} {n k : Nat} {q : Program} {loose : List Str} {XP : (Str → Option Value) → Heap → Prop} {YP : World → Heap → Prop} {d : DefRec} {K : Params → PySem.W.Frag} {x : Str}
    (hn : l.most = some n) (hn2 : n ≤ sizeLine) (hdf : d.params.defaults = []) (hr : Room k callerA) (hY : ∀ (w : World) (h : Heap), YP w h → (K w.params).In h)
    (F : ∀ (w : World) (mg : Str → Option Value) (fa : Addr) (h : Heap), YP w h → (K w.params).In h → h.Ns mainGlobals mg → mg d.name = some (.ref fa) →
      ∃ (fd : FuncData) (CT : List (Addr × Addr)) (sp : Sp), (∀ p ∈ CT, PySem.W.codeHdIn (K w.params) p.1 p.2 = true ∧ h.get? p.2 = some { cls := .none, data := .fields #[] } ∧ (K w.params).lookup p.2 = none) ∧ (∀ (s : Shared) (u : Value), BindsTo s fd ⟨[u], []⟩ [(x, u)]) ∧
        (∀ (H : Hp) (a : Addr) (ns : List Int), (∀ p ∈ CT, H p.2 = some (.tbl #[])) → Scr (K w.params) H a (ns.map V.int) → sp [.ref a] H (fun v _ => v = .bl true) L2.E0) ∧
        ∀ base : Heap, (K w.params).In base → base.Ns mainGlobals mg → (∀ p ∈ CT, LamX.TabB base mg p.1 p.2) → FnOk l.prog w (K w.params) mg base L2.CX0 k fa fd [x] sp) :
    PySem.W.WalkO q loose XP YP l.row.toRowW d [] (fun f vs => PySem.call f vs) := by
  refine Att.attach_callB hn hdf fun w s₀ s₁ mg mb fa o pm cd doc a vs ns G Y ho hd' hcd hmg hobj hints hlen hbits hg => ?_
  have KX := hY w _ Y
  obtain ⟨fd, CT, sp, tb, hb, hsp, hF⟩ := F w mg fa _ Y KX G.T.g hmg
  exact law_tabs KX G.T.g G.T.b G.T.builtins G.T.nolimit hg (fun p hp => (tb p hp).2.1) (fun p hp => (tb p hp).2.2) (fun p hp => PySem.W.codeHd_of_K KX (tb p hp).1) G.T.bmain hobj hints (Nat.le_trans hlen hn2) hr hF hb fun H h1 h2 => hsp H a ns h1 h2
end HW
namespace MW
open PySem PySem.Spec PyProof.Rows L2 Evl SX HW
/-- the law's promise, at its start, with tables of code objects -/
theorem law_atTs {F : Cf} {H : Hp} {a : Addr} {CT : List (Addr × Addr)} {ns : List Int} (hT : ∀ p ∈ F.T, ∃ c, (c, p.1) ∈ CT) (h0 : ∀ p ∈ CT, H p.2 = some (.tbl #[])) (hS : HW.Scr F.K H a (ns.map V.int)) {G : FnM} (hG : ∀ μ, G [.scr ns] μ (fun v _ => v = .bl true) fun _ _ => False) : spM F 1 G [.ref a] H (fun v _ => v = .bl true) fun _ _ _ => False := by
  refine ⟨rfl, fun _ => False, ⟨fun _ => 0, ⟨0, fun _ => none⟩⟩, [.scr ns], _, _, ⟨(fun _ _ z => by cases z), (fun _ _ l _ _ => absurd rfl l), (fun p hp => by obtain ⟨c, hc⟩ := hT p hp; exact LamX.TabS.nil (h0 _ hc)), (fun _ z => z.elim)⟩, .one (rv_scr.mpr ⟨a, rfl, hS⟩), hG _, fun v ω' H' u q _ _ r => ?_, fun x ω' H' cls d z _ _ _ => z⟩
  have q : v = .bl true := q
  subst q
  exact rv_bl.mp r
end MW

set_option Elab.async false
set_option linter.all false
set_option maxRecDepth 100000
set_option maxHeartbeats 1000000
namespace MW
open PySem PySem.Spec PyProof.Rows L2 Evl SX HW
/-! ### _law_all([lambda: .., ..], (word, 0)): each is refused, with this word, and nothing changes -/
structure LamD where
  params : Arguments
  body : Expr
  scope : Scope
  me : ME
section
variable {X : Cx} {F : Cf} {A A0 : Av} {ω ω' : Om} {H H' : Hp} {W : WX} {σ : Lc} {σv : L2.St} {p pos lpos : Pos}
end
end MW

set_option Elab.async false
set_option linter.all false
set_option maxRecDepth 100000
set_option maxHeartbeats 1000000
namespace HW
open PySem PySem.Spec PyProof.Rows L2 Evl SX
section
variable {P : Program} {w : World} {H H' : Hp} {cs : Cl} {outer : List Env} {s s' : Shared} {E : XK} {u : Value}
end
end HW
namespace MW
open PySem PySem.Spec PyProof.Rows L2 Evl SX HW
/-! ### a dict of lambdas, filled in three statements, one of which is called -/
section
variable {X : Cx} {F : Cf} {has cat : Cl → Bool} {A A0 : Av} {ω ω' : Om} {H H' : Hp} {W : WX} {σ : Lc} {σv : L2.St} {p : Addr}
variable {kl i : Nat} {ls1 ls2 : List (Str × LamD)} {k3 : Str} {l3 l0 : LamD} {mk : ME} {kn : List (List Nat)} {S1 S2 S3 S4 : Stmt}
end
end MW

set_option Elab.async false
set_option linter.all false
set_option maxRecDepth 100000
set_option maxHeartbeats 4000000
namespace HW
open PySem PySem.Spec PyProof.Rows L2
end HW
namespace MW
open PySem PySem.Spec PyProof.Rows L2 Evl SX HW
section
variable {F : Cf}
/-! ### tuple + tuple, tuple * number, of any length -/
def oTAddA : O2 := fun x y μ Q => match x, y with
  | .tup a, .tup b => a.length + b.length ≤ lim ∧ Q (.tup (a ++ b)) μ
  | _, _ => False
def oTMul : O2 := fun x y μ Q => match x, y with
  | .tup a, .int n => (2 ≤ n ∧ n ≤ 1000 ∧ a.length ≤ 1000) ∧ Q (.tup (List.replicate n.toNat a).flatten) μ
  | _, _ => False
end
end MW

set_option Elab.async false
set_option linter.all false
set_option maxRecDepth 100000
set_option maxHeartbeats 1000000
namespace HW
open PySem PySem.Spec PyProof.Rows L2 Evl SX
/-! ### a lambda within a list comprehension: the block's cells lie apart from the frames -/
section
variable {X : Cx} {pins : List (Addr × Obj)} {σ : L2.St} {H : Hp} {s : Shared}
end
end HW

set_option Elab.async false
set_option linter.all false
set_option maxRecDepth 100000
set_option maxHeartbeats 4000000
namespace HW
open PySem PySem.Spec PyProof.Rows L2
/-! ### zip of a text (of plain signs) and a list -/
section
variable {prog : Program} {w : World} {A : Around} {E : Value → Shared → Prop} {s : Shared}
abbrev AscI (h : Heap) (it : Addr) (x : Str) (u : Tok) (i : Nat) : Prop := h.IsStrIter it "str_ascii_iterator" x u i
theorem asc_item {it : Addr} {x : Str} {u : Tok} {i c : Nat} {Q : Value → Shared → Prop} (hit : AscI s.heap it x u i) (hx : x.cps[i]? = some c)
    (hQ : ∀ h', AscI h' it x u (i + 1) → Heap.SameBut it s.heap h' → Q (.str ⟨#[c]⟩ s.toks) { s with heap := h', toks := s.toks + 1 }) :
    wpAny (model prog w) A (Builtin.SmallTypes.nextOf (.ref it)) Q E s := by
  obtain ⟨o, ho, hc, hd⟩ := id hit
  unfold Builtin.SmallTypes.nextOf
  refine wpAny_bind (wpAny_callSpecial?_slot (name := Str.ofString "__next__") hit.typeIs F.slot_str_ascii_iterator_next
    (wpAny_call_entry F.slot_str_ascii_iterator_next hit.typeIs F.entry_str_ascii_iterator_next ?_ (F.args_str_ascii_iterator_next_1 _)))
  show wpAny _ _ (field (.ref it) 0 >>= _) _ _ s
  refine wpAny_bind (wpAny_field ho hd (x := .str x u) rfl ?_)
  show wpAny _ _ (field (.ref it) 1 >>= _) _ _ s
  refine wpAny_bind (wpAny_field ho hd (x := .int i 0) rfl ?_)
  simp only [Int.toNat_natCast, hx]
  refine wpAny_bind (wpAny_setField ho hd (by simp) (wpAny_bind (wpAny_mkStr (wpAny_pure ⟨_, rfl, wpAny_pure (hQ _ ?_ (Heap.SameBut.update ..))⟩) (by show 1 ≤ sizeLine; decide))))
  exact ⟨_, Heap.get?_update_self _ ho (Obj.isFreed_of_fields (Obj.data_mapFields hd _)), (Obj.cls_mapFields ..).trans hc, by
    rw [Obj.data_mapFields hd]; simp [rawInt]⟩
theorem asc_end {it : Addr} {x : Str} {u : Tok} {i : Nat} {Q : Value → Shared → Prop} (hh : A.handled = none) (hit : AscI s.heap it x u i) (hx : x.cps[i]? = none)
    (hE : ∀ h' e, Heap.ExtBut it s.heap h' → (∃ o, h'.get? e = some o ∧ o.cls = .type "StopIteration") → E (.ref e) { s with heap := h' }) :
    wpAny (model prog w) A (Builtin.SmallTypes.nextOf (.ref it)) Q E s := by
  obtain ⟨o, ho, hc, hd⟩ := id hit
  unfold Builtin.SmallTypes.nextOf
  refine wpAny_bind (wpAny_callSpecial?_slot (name := Str.ofString "__next__") hit.typeIs F.slot_str_ascii_iterator_next
    (wpAny_call_entry F.slot_str_ascii_iterator_next hit.typeIs F.entry_str_ascii_iterator_next ?_ (F.args_str_ascii_iterator_next_1 _)))
  show wpAny _ _ (field (.ref it) 0 >>= _) _ _ s
  refine wpAny_bind (wpAny_field ho hd (x := .str x u) rfl ?_)
  show wpAny _ _ (field (.ref it) 1 >>= _) _ _ s
  refine wpAny_bind (wpAny_field ho hd (x := .int i 0) rfl ?_)
  simp only [Int.toNat_natCast, hx]
  refine wpAny_bind (wpAny_rule (wpAny_bind (wpAny_setField ho hd (by simp) (wpAny_bind (wpAny_letGo ?_)))))
  show wpAny _ _ (newExc (.type "StopIteration") [] >>= _) _ _ _
  refine wpAny_bind ?_
  simp only [newExc, newTuple]
  refine wpAny_bind (wpAny_newObj_type ?_ (by size_fits))
  refine wpAny_bind (m := firstArgMember _ _) (wpAny_of_eq (a := Value.none) (by first | rfl | (simp only [firstArgMember]; rfl)) ?_)
  refine wpAny_newObj_type ?_ (by size_fits)
  simp only [raiseNew]
  refine wpAny_bind (wpAny_handled ?_)
  first | rw [show A.in1.handled = none from hh] | rw [hh]
  refine wpAny_bind (wpAny_pure (wpAny_throw ?_))
  exact hE _ _ (((Heap.SameBut.update ..).extBut.push _).push _) ⟨_, Heap.get?_push_size _ rfl, rfl⟩

theorem zipS_item {z TI TO i1 i2 l2 : Addr} {k : Nat} {t : Str} {u : Tok} {ys : Array Value} {c : Nat} {y a b : Value} {Q : Value → Shared → Prop} (D : ZipApart z TI TO i1 i2 l2 l2)
    (hz : IsZip s.heap z TI TO .none) (hTI : IsPair s.heap TI (.ref i1) (.ref i2)) (hTO : IsPair s.heap TO a b)
    (h1 : AscI s.heap i1 t u k) (h2 : s.heap.IsListIter i2 l2 k) (hl2 : s.heap.IsList l2 ys) (hx : t.cps[k]? = some c) (hy : ys[k]? = some y)
    (hQ : ∀ h' tk, IsZip h' z TI TO (rawInt s.heap.objs.size) → (∃ x, IsPair h' TO x y) → AscI h' i1 t u (k + 1) → h'.IsListIter i2 l2 (k + 1) → (∃ tc, IsPair h' s.heap.objs.size (.str ⟨#[c]⟩ tc) y) →
      (∀ c o, c ≠ z → c ≠ TO → c ≠ i1 → c ≠ i2 → s.heap.get? c = some o → h'.get? c = some o) → Q (.ref s.heap.objs.size) { s with heap := h', toks := tk }) :
    wpAny (model prog w) A (Builtin.«zip.__next__» ⟨[.ref z], []⟩) (fun fin s' => ∃ v, fin = .done (.ret v) ∧ Q v s') E s := by
  show wpAny _ _ (field (.ref z) 2 >>= _) _ _ _
  refine wpAny_bind (wpAny_field hz rfl (x := .bool false) rfl ?_)
  show wpAny _ _ (field (.ref z) 3 >>= _) _ _ _
  refine wpAny_bind (wpAny_field hz rfl (x := .ref TI) rfl ?_)
  refine wpAny_bind (wpAny_seqItems hTI rfl ?_)
  show wpAny _ _ (Builtin.SmallTypes.ownedTupleIsFree (.ref z) >>= _) _ _ _
  refine wpAny_bind ?_
  unfold Builtin.SmallTypes.ownedTupleIsFree
  refine wpAny_bind (wpAny_field hz rfl (x := .none) rfl (wpAny_pure ?_))
  simp only [if_true]
  refine wpAny_bind (wpAny_rule ?_)
  refine wpAny_bind (wpAny_field hz rfl (x := .ref TO) rfl ?_)
  refine wpAny_bind (wpAny_setField_rec hz (by simp) fun h₁ hz₁ hs₁ => ?_)
  replace hz₁ : IsZip h₁ z TI TO .ellipsis := hz₁
  refine wpAny_bind ?_
  simp only [List.zipIdx_cons, List.zipIdx_nil, List.forIn_cons, List.forIn_nil]
  refine wpAny_bind (wpAny_bind (wpAny_onRaise ?_))
  show wpAny _ _ (Builtin.SmallTypes.nextOf (.ref i1) >>= _) _ _ _
  refine wpAny_bind (asc_item (h1.extBut hs₁.extBut D.i1z) hx fun h₂ h1₂ hs₂ => wpAny_pure ?_)
  have hTO₂ : IsPair h₂ TO a b := hs₂.extBut _ _ D.TOi1 (hs₁.extBut _ _ D.TOz hTO)
  refine wpAny_bind (wpAny_seqItems hTO₂ rfl ?_)
  refine wpAny_bind (wpAny_updateSeq_pair hTO₂ fun h₃ hTO₃ hs₃ => ?_)
  replace hTO₃ : IsPair h₃ TO (.str ⟨#[c]⟩ s.toks) b := hTO₃
  refine wpAny_bind (wpAny_letGo (wpAny_pure ?_))
  refine wpAny_bind (wpAny_bind (wpAny_onRaise ?_))
  show wpAny _ _ (Builtin.SmallTypes.nextOf (.ref i2) >>= _) _ _ _
  refine wpAny_bind (wpAny_nextOf_list_item (((h2.extBut hs₁.extBut D.i2z).extBut hs₂.extBut D.i12.symm).extBut hs₃.extBut D.TOi2.symm)
    (((hl2.extBut hs₁.extBut D.l2z).extBut hs₂.extBut D.l2i1).extBut hs₃.extBut D.l2TO) hy fun h₄ h2₄ hs₄ => wpAny_pure ?_)
  have hTO₄ : IsPair h₄ TO (.str ⟨#[c]⟩ s.toks) b := hs₄.extBut _ _ D.TOi2 hTO₃
  refine wpAny_bind (wpAny_seqItems hTO₄ rfl ?_)
  refine wpAny_bind (wpAny_updateSeq_pair hTO₄ fun h₅ hTO₅ hs₅ => ?_)
  replace hTO₅ : IsPair h₅ TO (.str ⟨#[c]⟩ s.toks) y := hTO₅
  refine wpAny_bind (wpAny_letGo (wpAny_pure (wpAny_pure ?_)))
  refine wpAny_bind (wpAny_seqItems hTO₅ rfl ?_)
  refine wpAny_bind (wpAny_newTuple ?_)
  have hsz : h₅.objs.size = s.heap.objs.size := by rw [hs₅.1, hs₄.1, hs₃.1, hs₂.1, hs₁.1]
  have hz₅ : IsZip h₅ z TI TO .ellipsis := hs₅.extBut _ _ D.TOz.symm (hs₄.extBut _ _ D.i2z.symm (hs₃.extBut _ _ D.TOz.symm (hs₂.extBut _ _ D.i1z.symm hz₁)))
  have hk₅ : ∀ c o, c ≠ z → c ≠ TO → c ≠ i1 → c ≠ i2 → s.heap.get? c = some o → h₅.get? c = some o := fun c o c1 c2 c3 c4 e =>
    hs₅.extBut _ _ c2 (hs₄.extBut _ _ c4 (hs₃.extBut _ _ c2 (hs₂.extBut _ _ c3 (hs₁.extBut _ _ c1 e))))
  have h1₅ : AscI h₅ i1 t u (k + 1) := ((h1₂.extBut hs₃.extBut D.TOi1.symm).extBut hs₄.extBut D.i12).extBut hs₅.extBut D.TOi1.symm
  have h2₅ : h₅.IsListIter i2 l2 (k + 1) := h2₄.extBut hs₅.extBut D.TOi2.symm
  have hzlt : z < h₅.objs.size := Heap.lt_size hz₅
  show wpAny _ _ (Builtin.SmallTypes.ownedTupleHandOut (.ref z) (.ref h₅.objs.size) >>= _) _ _ _
  refine wpAny_bind ?_
  unfold Builtin.SmallTypes.ownedTupleHandOut
  have hz₆ : IsZip (h₅.push { cls := .type "tuple", data := .seq #[.str ⟨#[c]⟩ s.toks, y] }) z TI TO .ellipsis := Heap.get?_push_of_some _ hz₅
  refine wpAny_bind (wpAny_setField_rec hz₆ (by simp) fun h₇ hz₇ hs₇ => ?_)
  replace hz₇ : IsZip h₇ z TI TO (rawInt h₅.objs.size) := hz₇
  refine wpAny_setField_rec hz₇ (by simp) fun h₈ hz₈ hs₈ => ?_
  replace hz₈ : IsZip h₈ z TI TO (rawInt h₅.objs.size) := hz₈
  have up : ∀ c o, c ≠ z → h₅.get? c = some o → h₈.get? c = some o := fun c o c1 e => hs₈.extBut _ _ c1 (hs₇.extBut _ _ c1 (Heap.get?_push_of_some _ e))
  have hT₈ : IsPair h₈ h₅.objs.size (.str ⟨#[c]⟩ s.toks) y := hs₈.extBut _ _ (Nat.ne_of_gt hzlt) (hs₇.extBut _ _ (Nat.ne_of_gt hzlt) (Heap.get?_push_size _ rfl))
  rw [hsz] at hz₈ hT₈
  refine wpAny_pure ⟨_, rfl, ?_⟩
  show Q (.ref h₅.objs.size) _
  rw [hsz]
  exact hQ h₈ _ hz₈ ⟨_, up _ _ D.TOz hTO₅⟩ (let ⟨o, e, r⟩ := h1₅; ⟨o, up _ o D.i1z e, r⟩) (h2₅.at fun o e => up _ o D.i2z e) ⟨_, hT₈⟩ fun c o c1 c2 c3 c4 e => up c o c1 (hk₅ c o c1 c2 c3 c4 e)

theorem zipS_end {z TI TO i1 i2 l2 : Addr} {k : Nat} {t : Str} {u : Tok} {ys : Array Value} {a b : Value} {Q : Fin → Shared → Prop} (hh : A.handled = none) (D : ZipApart z TI TO i1 i2 l2 l2)
    (hz : IsZip s.heap z TI TO .none) (hTI : IsPair s.heap TI (.ref i1) (.ref i2)) (hTO : IsPair s.heap TO a b)
    (h1 : AscI s.heap i1 t u k) (h2 : s.heap.IsListIter i2 l2 k) (hl2 : s.heap.IsList l2 ys) (hend : t.cps[k]? = none)
    (hE : ∀ h' e, (∀ c o, c ≠ z → c ≠ TO → c ≠ i1 → c ≠ i2 → s.heap.get? c = some o → h'.get? c = some o) → (∃ o, h'.get? e = some o ∧ o.cls = .type "StopIteration") → E (.ref e) { s with heap := h' }) :
    wpAny (model prog w) A (Builtin.«zip.__next__» ⟨[.ref z], []⟩) Q E s := by
  show wpAny _ _ (field (.ref z) 2 >>= _) _ _ _
  refine wpAny_bind (wpAny_field hz rfl (x := .bool false) rfl ?_)
  show wpAny _ _ (field (.ref z) 3 >>= _) _ _ _
  refine wpAny_bind (wpAny_field hz rfl (x := .ref TI) rfl ?_)
  refine wpAny_bind (wpAny_seqItems hTI rfl ?_)
  show wpAny _ _ (Builtin.SmallTypes.ownedTupleIsFree (.ref z) >>= _) _ _ _
  refine wpAny_bind ?_
  unfold Builtin.SmallTypes.ownedTupleIsFree
  refine wpAny_bind (wpAny_field hz rfl (x := .none) rfl (wpAny_pure ?_))
  simp only [if_true]
  refine wpAny_bind (wpAny_rule ?_)
  refine wpAny_bind (wpAny_field hz rfl (x := .ref TO) rfl ?_)
  refine wpAny_bind (wpAny_setField_rec hz (by simp) fun h₁ hz₁ hs₁ => ?_)
  replace hz₁ : IsZip h₁ z TI TO .ellipsis := hz₁
  refine wpAny_bind ?_
  simp only [List.zipIdx_cons, List.zipIdx_nil, List.forIn_cons, List.forIn_nil]
  refine wpAny_bind (wpAny_bind (wpAny_onRaise ?_))
  show wpAny _ _ (Builtin.SmallTypes.nextOf (.ref i1) >>= _) _ _ _
  refine wpAny_bind (asc_end hh (h1.extBut hs₁.extBut D.i1z) hend fun h₂ e hs₂ he => ?_)
  obtain ⟨oe, hoe, hce⟩ := he
  have hz₂ : IsZip h₂ z TI TO .ellipsis := hs₂ _ _ D.i1z.symm hz₁
  have hez : e ≠ z := fun x => by subst x; rw [hz₂] at hoe; cases hoe; simp at hce
  refine wpAny_setField_rec hz₂ (by simp) fun h₃ _ hs₃ => hE h₃ e (fun c o c1 _ c3 _ x => hs₃.extBut _ _ c1 (hs₂ _ _ c3 (hs₁.extBut _ _ c1 x))) ⟨oe, hs₃.extBut _ _ hez hoe, hce⟩

abbrev zsH1 (h : Heap) (t : Str) (u : Tok) : Heap := h.push { cls := .type "str_ascii_iterator", data := .fields #[.str t u, .int 0 0] }
abbrev zsH2 (h : Heap) (t : Str) (u : Tok) (l2 : Addr) : Heap := (zsH1 h t u).push { cls := .type "list_iterator", data := .fields #[.ref l2, .int 0 0] }
abbrev zsH3 (h : Heap) (t : Str) (u : Tok) (l2 : Addr) : Heap := (zsH2 h t u l2).push { cls := .type "tuple", data := .seq #[.ref h.objs.size, .ref (zsH1 h t u).objs.size] }
abbrev zsH4 (h : Heap) (t : Str) (u : Tok) (l2 : Addr) : Heap := (zsH3 h t u l2).push { cls := .type "tuple", data := .seq #[.none, .none] }
abbrev zsH5 (h : Heap) (t : Str) (u : Tok) (l2 : Addr) : Heap := (zsH4 h t u l2).push { cls := .type "zip", data := .fields #[.none, .bool false, .bool false, .ref (zsH2 h t u l2).objs.size, .ref (zsH3 h t u l2).objs.size] }
theorem meets_zipS_new (t : Str) (u : Tok) (l2 : Addr) (ys : Array Value) (ha : t.cps.all (· < 128) = true) :
    Meets (Builtin.«zip.__new__» ⟨[.type "zip", .str t u, .ref l2], []⟩) (fun _ R s => s.heap.IsList l2 ys ∧
      R (.ok (.ret (.ref (zsH4 s.heap t u l2).objs.size))) { s with heap := zsH5 s.heap t u l2 }) :=
  .of_wp fun prog w A R s h => by
    obtain ⟨hp, g, d, tk, os⟩ := s; obtain ⟨hl2, h⟩ := h
    have hsub := sub_zip
    have hL2 : Heap.IsList (Shared.heap ⟨hp.push { cls := .type "str_ascii_iterator", data := .fields #[.str t u, .int 0 0] }, g, d, tk, os⟩) l2 ys := Heap.IsList.push hl2 _
    wp_walk using wpAny_pyIter_ascii ha, wpAny_pyIter_list hL2
    exact ⟨_, rfl, h⟩
theorem call_zipS {t : Str} {u : Tok} {l2 : Addr} {ys : Array Value} {Q : Value → Shared → Prop} (ha : t.cps.all (· < 128) = true) (hl2 : s.heap.IsList l2 ys)
    (h : ∀ h', IsZip h' (s.heap.objs.size + 4) (s.heap.objs.size + 2) (s.heap.objs.size + 3) .none → IsPair h' (s.heap.objs.size + 2) (.ref s.heap.objs.size) (.ref (s.heap.objs.size + 1)) →
      IsPair h' (s.heap.objs.size + 3) .none .none → AscI h' s.heap.objs.size t u 0 → h'.IsListIter (s.heap.objs.size + 1) l2 0 → h'.objs.size = s.heap.objs.size + 5 →
      (∀ c o, s.heap.get? c = some o → h'.get? c = some o) → Q (.ref (s.heap.objs.size + 4)) { s with heap := h' }) :
    wpAny (model prog w) A (call (.type "zip") [.str t u, .ref l2]) Q E s := by
  refine callType_new F.called_zip (by decide) (F.typeCall_zip_2 _ _) (F.newCall_zip_2 _ _) (fun obj => F.args_object_init_3 obj _ _) F.entry_zip_new
    (meets_zipS_new t u l2 ys ha) ⟨hl2, ?_⟩
  have z1 : (zsH1 s.heap t u).objs.size = s.heap.objs.size + 1 := Heap.size_push ..
  have z2 : (zsH2 s.heap t u l2).objs.size = s.heap.objs.size + 2 := by rw [Heap.size_push, z1]
  have z3 : (zsH3 s.heap t u l2).objs.size = s.heap.objs.size + 3 := by rw [Heap.size_push, z2]
  have z4 : (zsH4 s.heap t u l2).objs.size = s.heap.objs.size + 4 := by rw [Heap.size_push, z3]
  have z5 : (zsH5 s.heap t u l2).objs.size = s.heap.objs.size + 5 := by rw [Heap.size_push, z4]
  have g5 : (zsH5 s.heap t u l2).get? (zsH4 s.heap t u l2).objs.size = some _ := Heap.get?_push_size _ rfl
  have g4 : (zsH5 s.heap t u l2).get? (zsH3 s.heap t u l2).objs.size = some _ := Heap.get?_push_of_some _ (Heap.get?_push_size _ rfl)
  have g3 : (zsH5 s.heap t u l2).get? (zsH2 s.heap t u l2).objs.size = some _ := Heap.get?_push_of_some _ (Heap.get?_push_of_some _ (Heap.get?_push_size _ rfl))
  have g2 : (zsH5 s.heap t u l2).get? (zsH1 s.heap t u).objs.size = some _ := Heap.get?_push_of_some _ (Heap.get?_push_of_some _ (Heap.get?_push_of_some _ (Heap.get?_push_size _ rfl)))
  have g1 : (zsH5 s.heap t u l2).get? s.heap.objs.size = some _ := Heap.get?_push_of_some _ (Heap.get?_push_of_some _ (Heap.get?_push_of_some _ (Heap.get?_push_of_some _ (Heap.get?_push_size _ rfl))))
  show _ ∧ _
  rw [z2, z3, z4] at g5
  rw [z1, z2] at g3
  rw [z3] at g4
  rw [z1] at g2
  rw [z4]
  exact ⟨⟨_, g5, rfl⟩, h _ g5 g3 g4 ⟨_, g1, rfl, rfl⟩ ⟨_, g2, rfl, rfl⟩ z5 fun c o x =>
    Heap.get?_push_of_some _ (Heap.get?_push_of_some _ (Heap.get?_push_of_some _ (Heap.get?_push_of_some _ (Heap.get?_push_of_some _ x))))⟩
theorem next_zipS_item {z TI TO i1 i2 l2 : Addr} {k : Nat} {t : Str} {u : Tok} {ys : Array Value} {c : Nat} {y a b : Value} {Q : Option Value → Shared → Prop} (D : ZipApart z TI TO i1 i2 l2 l2)
    (hz : IsZip s.heap z TI TO .none) (hTI : IsPair s.heap TI (.ref i1) (.ref i2)) (hTO : IsPair s.heap TO a b)
    (h1 : AscI s.heap i1 t u k) (h2 : s.heap.IsListIter i2 l2 k) (hl2 : s.heap.IsList l2 ys) (hx : t.cps[k]? = some c) (hy : ys[k]? = some y)
    (hQ : ∀ h' tk, IsZip h' z TI TO (rawInt s.heap.objs.size) → (∃ x, IsPair h' TO x y) → AscI h' i1 t u (k + 1) → h'.IsListIter i2 l2 (k + 1) → (∃ tc, IsPair h' s.heap.objs.size (.str ⟨#[c]⟩ tc) y) →
      (∀ c o, c ≠ z → c ≠ TO → c ≠ i1 → c ≠ i2 → s.heap.get? c = some o → h'.get? c = some o) → Q (some (.ref s.heap.objs.size)) { s with heap := h', toks := tk }) :
    wpAny (model prog w) A (pyNext (.ref z)) Q E s := by
  have hT : s.TypeIs (.ref z) "zip" := ⟨_, hz, rfl⟩
  unfold pyNext
  exact wpAny_bind (wpAny_attempt (wpAny_callSpecial?_slot (name := Str.ofString "__next__") hT F.slot_zip_next
    (wpAny_call_entry F.slot_zip_next hT F.entry_zip_next
      (zipS_item D hz hTI hTO h1 h2 hl2 hx hy fun h' tk a1 a2 a3 a4 a5 a6 => wpAny_pure (hQ h' tk a1 a2 a3 a4 a5 a6)) (F.args_zip_next_1 _))))
theorem next_zipS_end {z TI TO i1 i2 l2 : Addr} {k : Nat} {t : Str} {u : Tok} {ys : Array Value} {a b : Value} {Q : Option Value → Shared → Prop} (hh : A.handled = none) (D : ZipApart z TI TO i1 i2 l2 l2)
    (hz : IsZip s.heap z TI TO .none) (hTI : IsPair s.heap TI (.ref i1) (.ref i2)) (hTO : IsPair s.heap TO a b)
    (h1 : AscI s.heap i1 t u k) (h2 : s.heap.IsListIter i2 l2 k) (hl2 : s.heap.IsList l2 ys) (hend : t.cps[k]? = none)
    (hQ : ∀ h', (∀ c o, c ≠ z → c ≠ TO → c ≠ i1 → c ≠ i2 → s.heap.get? c = some o → h'.get? c = some o) → Q none { s with heap := h' }) : wpAny (model prog w) A (pyNext (.ref z)) Q E s := by
  have hT : s.TypeIs (.ref z) "zip" := ⟨_, hz, rfl⟩
  unfold pyNext
  refine wpAny_bind (wpAny_attempt (wpAny_callSpecial?_slot (name := Str.ofString "__next__") hT F.slot_zip_next
    (wpAny_call_entry F.slot_zip_next hT F.entry_zip_next (zipS_end hh D hz hTI hTO h1 h2 hl2 hend fun h' e hk he => ?_) (F.args_zip_next_1 _))))
  obtain ⟨o, ho, hc⟩ := he
  refine wpAny_bind (wpAny_isInstance (T := "StopIteration") (b := true) ⟨o, ho, hc⟩ isSubtype_stop ?_)
  exact wpAny_pure (hQ _ hk)
end
/-- a text's signs and a list's items, as it stands at each turn, in new pairs -/
def ItzS (K : PySem.W.Frag) (t : Str) (b : Addr) : It :=
  ⟨fun i H => ∃ (ys : List V) (y : V), i < t.cps.size ∧ SqL K H b ys ∧ ys[i]? = some y,
    fun i H v H' => ∃ T c y, v = .ref T ∧ H T = none ∧ H' = upd H T (.tup [.str ⟨#[c]⟩, y]) ∧ t.cps[i]? = some c ∧ ∀ ys, SqL K H b ys → ys[i]? = some y,
    fun i H => t.cps.size ≤ i ∧ ∃ ys : List V, SqL K H b ys⟩
theorem turn_zipS {P : Program} {w : World} {K : PySem.W.Frag} {elts : List Expr} {kk : Nat} {tpos : Pos} {t : Str} {tu : Tok} {b z TI TO i1 i2 : Addr} (D : ZipApart z TI TO i1 i2 b b) :
    Turn P w K (.Tuple elts kk tpos) (ItzS K t b) [z, TI, TO, i1, i2] z (fun i h => IsZip h z TI TO .none ∧ IsPair h TI (.ref i1) (.ref i2) ∧ (∃ x y, IsPair h TO x y) ∧ AscI h i1 t tu i ∧ h.IsListIter i2 b i) where
  mem := by simp
  obj := fun i h st c hc => by
    obtain ⟨hz, hTI, ⟨x, y, hTO⟩, ⟨o1, e1, _, d1⟩, ⟨o2, e2, _, d2⟩⟩ := st
    have e' : c = z ∨ c = TI ∨ c = TO ∨ c = i1 ∨ c = i2 := by simpa using hc
    rcases e' with q | q | q | q | q
    · rw [q]; exact ⟨_, hz, fun v q => nomatch q⟩
    · rw [q]; exact ⟨_, hTI, fun v q => nomatch q⟩
    · rw [q]; exact ⟨_, hTO, fun v q => nomatch q⟩
    · rw [q]; exact ⟨o1, e1, fun v q => by rw [d1] at q; cases q⟩
    · rw [q]; exact ⟨o2, e2, fun v q => by rw [d2] at q; cases q⟩
  keep := fun i h h' st k => by
    obtain ⟨hz, hTI, ⟨x, y, hTO⟩, h1, h2⟩ := st
    exact ⟨k z (by simp) _ hz, k TI (by simp) _ hTI, ⟨x, y, k TO (by simp) _ hTO⟩, (let ⟨o, e, r⟩ := h1; ⟨o, k i1 (by simp) o e, r⟩), h2.at fun o q => k i2 (by simp) o q⟩
  item := by
    intro X hP hw hK hc i pins s σ H E I hf st hg
    subst hP hw hK
    obtain ⟨hz, hTI, ⟨x0, y0, hTO⟩, h1, h2⟩ := st
    obtain ⟨ys, y, hi, hqy, hy⟩ := hg
    obtain ⟨its2, rv2, p2, _⟩ := I.list hqy
    obtain ⟨u2, hu2, ru2⟩ := rv2.get hy
    have hzl : z < s.heap.objs.size := Heap.lt_size hz
    refine next_zipS_item D hz hTI hTO h1 h2 p2.isList (Array.getElem?_eq_getElem hi) (y := u2) (by simpa using hu2) fun h' tk z' TO' h1' h2' hT hk => ?_
    obtain ⟨tc, hT⟩ := hT
    refine ⟨_, rfl, wpAny_letOwnedTupleGo_zip (s := { s with heap := h', toks := tk }) z' fun h'' z'' sb => ?_⟩
    have hT2 : h''.get? s.heap.objs.size = some { cls := .type "tuple", data := .seq #[.str ⟨#[t.cps[i]]⟩ tc, u2] } := (sb.2 _ (Nat.ne_of_gt hzl)).trans hT
    have new : ObjOk X.prog X.w (upd H s.heap.objs.size (.tup [.str ⟨#[t.cps[i]]⟩, y])) h'' s.heap.objs.size (.tup [.str ⟨#[t.cps[i]]⟩, y]) :=
      ⟨by show 2 ≤ sizeLine; decide, [.str ⟨#[t.cps[i]]⟩ tc, u2], .cons ⟨tc, rfl⟩ (.cons ru2 .nil), ⟨_, hT2, rfl, _, rfl⟩⟩
    have I1 : Inv X pins σ (upd H s.heap.objs.size (.tup [.str ⟨#[t.cps[i]]⟩, y])) { s with heap := h'', toks := tk } :=
      I.turnedNew (t' := tk) (ch := [z, TI, TO, i1, i2]) (fun c o hb q => (sb.2 c (fun q' => hb (by simp [q']))).trans (hk c o (fun q' => hb (by simp [q'])) (fun q' => hb (by simp [q'])) (fun q' => hb (by simp [q'])) (fun q' => hb (by simp [q'])) q)) hf (Nat.le_refl _) new
    refine ⟨.ref s.heap.objs.size, _, I1, rfl, ⟨_, t.cps[i], y, rfl, I.hok.fresh (Nat.le_refl _), rfl, Array.getElem?_eq_getElem hi, fun l hl => by rw [I.list_inj hl hqy]; exact hy⟩, ⟨z'', ?_, ?_, ?_, ?_⟩, fun c hcm => ?_⟩
    · exact (sb.2 _ D.TIz).trans (hk _ _ D.TIz D.TITO D.TIi1 D.TIi2 hTI)
    · obtain ⟨x', TO'⟩ := TO'
      exact ⟨x', u2, (sb.2 _ D.TOz).trans TO'⟩
    · obtain ⟨o, e, r⟩ := h1'
      exact ⟨o, (sb.2 _ D.i1z).trans e, r⟩
    · exact h2'.at fun o q => (sb.2 _ D.i2z).trans q
    · have hlt : c < s.heap.objs.size := by
        have e' : c = z ∨ c = TI ∨ c = TO ∨ c = i1 ∨ c = i2 := by simpa using hcm
        rcases e' with q | q | q | q | q
        · rw [q]; exact hzl
        · rw [q]; exact Heap.lt_size hTI
        · rw [q]; exact Heap.lt_size hTO
        · rw [q]; obtain ⟨_, e1, _⟩ := h1; exact Heap.lt_size e1
        · rw [q]; obtain ⟨_, e2, _⟩ := h2; exact Heap.lt_size e2
      rw [upd_ne (Nat.ne_of_lt hlt)]
      exact (hf c hcm).1
  done := by
    intro X hP hw hK hc i pins s σ H E I hf st hg
    subst hP hw hK
    obtain ⟨hz, hTI, ⟨x0, y0, hTO⟩, h1, h2⟩ := st
    obtain ⟨hend, ys, hqy⟩ := hg
    obtain ⟨its2, rv2, p2, _⟩ := I.list hqy
    exact next_zipS_end (I.ok.hd hc) D hz hTI hTO h1 h2 p2.isList (Array.getElem?_eq_none hend) fun h' hk => ⟨rfl, I.turnedL (t' := s.toks) (ch := [z, TI, TO, i1, i2]) (fun c o hb q =>
      hk c o (fun q' => hb (by simp [q'])) (fun q' => hb (by simp [q'])) (fun q' => hb (by simp [q'])) (fun q' => hb (by simp [q'])) q) hf⟩
  self := fun A i s Q E st h => wpAny_pyIter_zip st.1 h
def iZipS (K : PySem.W.Frag) (ta : TA) : TI := fun σ H R => ta σ H fun vs H1 => ∃ t b ys, vs = [.str t, .ref b] ∧ t.cps.all (· < 128) = true ∧ SqL K H1 b ys ∧ R (ItzS K t b) H1
theorem pi_zipS {X : Cx} {e e2 : Expr} {ta : TA} {p pos tpos : Pos} {elts : List Expr} {kk : Nat} (hg : Gl X "zip") (hm : X.mg "zip" = none) (ha : PA X [e, e2] ta)
    (hs : starEach [e, e2] X.env = (false, eval e X.env) :: starEach [e2] X.env := by rfl) (hpl : (backTo pos (starEach [e2] X.env)).any (·.1) = false := by rfl) :
    PI X (.Tuple elts kk tpos) (.Call (.Name "zip" p) [e, e2] [] pos) (iZipS X.K ta) := by
  refine ⟨fun pins s σ H R I h => ?_⟩
  refine Call_ (ld_blt I hg hm PyProof.Rows.boot_zip (PyProof.Rows.callWith_type1 (thn (ha.run pos pins s σ H _ I h) fun us s1 ⟨vs, H1, I1, r1, q1⟩ => ?_) hs hpl))
  obtain ⟨t, b, ys, ex, hasc, hqy, q⟩ := q1
  subst ex
  cases r1 with
  | cons r rr =>
    cases rr with
    | cons r' rr =>
      cases rr
      obtain ⟨tu, rfl⟩ := r
      cases r'
      obtain ⟨its2, rv2, p2, _⟩ := I1.list hqy
      have lb : b < s1.heap.objs.size := p2.lt
      refine call_zipS hasc p2.isList fun h' hz hTI hTO h1 h2 hsz hk => wpAny_pyIter_zip hz ?_
      have I2 : Inv X pins σ H1 { s1 with heap := h' } := I1.kept (t' := s1.toks) hk
      refine ⟨s1.heap.objs.size + 4, [s1.heap.objs.size + 4, s1.heap.objs.size + 2, s1.heap.objs.size + 3, s1.heap.objs.size, s1.heap.objs.size + 1], _, _, H1, rfl, I2, turn_zipS (PySem.W.ktu_apart s1.heap.objs.size b b lb lb), ⟨hz, hTI, ⟨_, _, hTO⟩, h1, h2⟩, fun c hcm => ?_, q⟩
      have e' : c = s1.heap.objs.size + 4 ∨ c = s1.heap.objs.size + 2 ∨ c = s1.heap.objs.size + 3 ∨ c = s1.heap.objs.size ∨ c = s1.heap.objs.size + 1 := by simpa using hcm
      have hle : s1.heap.objs.size ≤ c := by
        rcases e' with z | z | z | z | z
        · rw [z]; exact Nat.le_add_right _ _
        · rw [z]; exact Nat.le_add_right _ _
        · rw [z]; exact Nat.le_add_right _ _
        · rw [z]; exact Nat.le_refl _
        · rw [z]; exact Nat.le_add_right _ _
      exact I1.fpOk hle (I1.hok.fresh hle)
end HW

set_option Elab.async false
set_option linter.all false
set_option maxRecDepth 100000
set_option maxHeartbeats 4000000
namespace MW
open PySem PySem.Spec PyProof.Rows L2 Evl SX HW
/-! ### a written text, a written table -/
def tGet : List (List Nat × List Nat) → List Nat → Option (List Nat)
  | [], _ => none
  | p :: r, k => if p.1 = k then some p.2 else tGet r k
/-- the entries are these -/
def wdB : List DictEntry → List (List Nat × List Nat) → Bool
  | [], [] => true
  | e :: es, p :: ps => (match e.key, e.val with
    | .str k _, .str v _ => k.cps.toList == p.1 && v.cps.toList == p.2
    | _, _ => false) && wdB es ps
  | _, _ => false
theorem wdB_find {z : List Nat} : ∀ {es : List DictEntry} {tb : List (List Nat × List Nat)}, wdB es tb = true →
    (es.any (·.refKey) = false) ∧ (match tGet tb z with
      | some l => ∃ e t, es.find? (·.key.isStr (S z)) = some e ∧ e.val = .str (S l) t
      | none => es.find? (·.key.isStr (S z)) = none)
  | [], [], _ => ⟨rfl, rfl⟩
  | [], _ :: _, h => by cases h
  | _ :: _, [], h => by cases h
  | e :: es, p :: ps, h => by
    rw [wdB, Bool.and_eq_true] at h
    obtain ⟨h1, h2⟩ := h
    obtain ⟨k1, k2⟩ := wdB_find (z := z) h2
    split at h1
    rotate_left
    · cases h1
    rename_i k tk v tv ek ev
    rw [Bool.and_eq_true] at h1
    obtain ⟨h1, h3⟩ := h1
    have e1 : k = S p.1 := by rw [← eq_of_beq h1, S_tl]
    have e2 : v = S p.2 := by rw [← eq_of_beq h3, S_tl]
    subst e1 e2
    refine ⟨by rw [List.any_cons, k1]; unfold DictEntry.refKey; rw [ek]; rfl, ?_⟩
    rw [tGet]
    have hf : e.key.isStr (S z) = (p.1 == z) := by rw [ek]; exact S_beq p.1 z
    by_cases hz : p.1 = z
    · rw [if_pos hz]
      exact ⟨e, tv, by rw [List.find?_cons, hf, beq_iff_eq.mpr hz], ev⟩
    · rw [if_neg hz]
      have hfn : (e :: es).find? (·.key.isStr (S z)) = es.find? (·.key.isStr (S z)) := by rw [List.find?_cons, hf, beq_eq_false_iff_ne.mpr hz]
      cases q : tGet ps z with
      | none => rw [q] at k2; exact hfn.trans k2
      | some l => rw [q] at k2; obtain ⟨e', t, k3, k4⟩ := k2; exact ⟨e', t, hfn.trans k3, k4⟩
structure WDict (K : PySem.W.Frag) (w : World) (mg : Str → Option Value) (x : Str) (tb : List (List Nat × List Nat)) : Prop where
  at_ : ∃ d es n, mg x = some (.ref d) ∧ KDict K w d es n ∧ wdB es.toList tb = true
  ok : ∀ p ∈ tb, SOk p.2
theorem tGet_mem {z l : List Nat} : ∀ {tb : List (List Nat × List Nat)}, tGet tb z = some l → ∃ p ∈ tb, p.2 = l
  | [], h => by cases h
  | p :: r, h => by
    rw [tGet] at h
    by_cases e : p.1 = z
    · rw [if_pos e] at h; exact ⟨p, List.mem_cons_self, Option.some.inj h⟩
    · rw [if_neg e] at h
      obtain ⟨q, h1, h2⟩ := tGet_mem h
      exact ⟨q, List.mem_cons_of_mem _ h1, h2⟩
theorem WDict.sok {K : PySem.W.Frag} {w : World} {mg : Str → Option Value} {x : Str} {tb : List (List Nat × List Nat)} (D : WDict K w mg x tb) {z l : List Nat} (h : tGet tb z = some l) : SOk l := by
  obtain ⟨p, h1, rfl⟩ := tGet_mem h
  exact D.ok p h1
theorem wd_look {K : PySem.W.Frag} {w : World} {d : Addr} {es : Array DictEntry} {n : Nat} {tb : List (List Nat × List Nat)} (D : KDict K w d es n) (h : wdB es.toList tb = true) (z : List Nat) :
    ∃ r, PySem.W.nsIn K d (S z) = some r ∧ (match tGet tb z with
      | some l => ∃ t, r = some (.str (S l) t)
      | none => r = none) := by
  obtain ⟨k1, k2⟩ := wdB_find (z := z) h
  unfold PySem.W.nsIn
  rw [D.at_]
  show ∃ r, (match es.toList.find? (·.key.isStr (S z)) with
      | some e => some (some e.val)
      | none => if es.toList.any (·.refKey) then none else some none) = some r ∧ _
  cases q : tGet tb z with
  | none => rw [q] at k2; rw [k2, k1]; exact ⟨none, rfl, rfl⟩
  | some l => rw [q] at k2; obtain ⟨e, t, k3, k4⟩ := k2; rw [k3]; exact ⟨_, rfl, t, by rw [k4]⟩
section
variable {X : Cx} {F : Cf} {A A0 : Av} {ω ω' : Om} {H H' : Hp} {W : WX} {a b c e o : Expr} {es : List Expr} {ma mb mc me mo : ME} {mas mbs : MA} {pos p p2 apos cpos : Pos} {v : Val} {u : V} {vs : List Val} {us : List V} {x : Str} {id T : String} {tb : List (List Nat × List Nat)}
theorem ie_globS {l : List Nat} {t : Tok} (hg : Gl X x) (hm : X.mg x = some (.str (S l) t)) (hl : SOk l := by exact ⟨by decide, by decide⟩) (hd : (x == ("__debug__" : Str)) = false := by decide) : IE X F W (.Name x pos) (mC (.str l)) := ie_cst (u := .str (S l)) (pe_glob hg hm ⟨t, rfl⟩ hd) fun _ _ _ => rv_str.mpr ⟨rfl, hl⟩
def mTIn (neg : Bool) (tb : List (List Nat × List Nat)) (m : ME) : ME := fun σ μ Q E => m σ μ (fun v μ1 => match v with
  | .str l => Q (.bl (if neg then !(tGet tb l).isSome else (tGet tb l).isSome)) μ1
  | _ => False) E
theorem wd_some {r : Option Value} {z : List Nat} (h : match tGet tb z with
      | some l => ∃ t, r = some (.str (S l) t)
      | none => r = none) : r.isSome = (tGet tb z).isSome := by
  split at h
  · rename_i l q; obtain ⟨t, rfl⟩ := h; rw [q]; rfl
  · rename_i q; rw [h, q]; rfl
theorem it_tnotin (D : WDict X.K X.w X.mg x tb) (hg : Gl X x) (ha : IE X F W a ma) (hd : (x == ("__debug__" : Str)) = false := by decide) : IT X F W (.Compare a [.NotIn] [.Name x p] pos) (mB (mTIn true tb ma)) := by
  obtain ⟨d, es, n, hm, KD, hw⟩ := D.at_
  refine (pt_cmpR (op_notIn_kd KD) ha (pe_glob (v := V.ref d) hg hm rfl hd) rfl).imp fun σv H Q ⟨A0, ω, σ, Qm, Em, a0, h, k, kx⟩ => ?_
  refine deE a0 h kx fun v ω1 H1 u q1 s1 a1 r1 => ?_
  split at q1
  rotate_left
  · exact q1.elim
  rename_i l
  obtain ⟨rfl, h2⟩ := rv_str.mp r1
  obtain ⟨r, e1, e2⟩ := wd_look KD hw l
  obtain ⟨b, e, q⟩ := q1
  injection e with e
  refine ⟨S l, r, rfl, rfl, e1, b, ?_, k b ω1 H1 q s1 a1⟩
  rw [wd_some e2, ← e]; rfl
def mTIx (tb : List (List Nat × List Nat)) (m : ME) : ME := fun σ μ Q E => m σ μ (fun v μ1 => match v with
  | .str l => match tGet tb l with
    | some r => Q (.str r) μ1
    | none => False
  | _ => False) E
theorem ie_tix (D : WDict X.K X.w X.mg x tb) (hg : Gl X x) (ha : IE X F W a ma) (hs : PlainIx a) (hd : (x == ("__debug__" : Str)) = false := by decide) : IE X F W (.Subscript (.Name x p) a pos) (mTIx tb ma) := by
  obtain ⟨d, es, n, hm, KD, hw⟩ := D.at_
  refine (pe_ix ix_kdict (pe_glob (v := V.ref d) hg hm rfl hd) ha hs).imp fun σv H Q ⟨A0, ω, σ, Qm, Em, a0, h, k, kx⟩ => ?_
  refine deE a0 h kx fun v ω1 H1 u q1 s1 a1 r1 => ?_
  split at q1
  rotate_left
  · exact q1.elim
  rename_i l
  obtain ⟨rfl, h2⟩ := rv_str.mp r1
  obtain ⟨r, e1, e2⟩ := wd_look KD hw l
  split at q1
  rotate_left
  · exact q1.elim
  rename_i v hv
  rw [hv] at e2
  obtain ⟨t, rfl⟩ := e2
  exact ⟨d, S l, .str (S v), rfl, rfl, ⟨es, n, _, KD.at_, KD.lit, e1, ⟨t, rfl⟩⟩, k _ ω1 H1 _ q1 s1 a1 (rv_str.mpr ⟨rfl, D.sok hv⟩)⟩
/-- d.get(key) of a written table -/
theorem pe_wget {ty : TE} {d : Addr} {es : Array DictEntry} {n : Nat} {td : TE} (KD : KDict X.K X.w d es n) (ho : PE X o (tC (.ref d))) (he : PE X e ty) (m : M1 X o "get" apos e cpos) :
    PE X (.Call (.Attribute o "get" apos) [e] [] cpos) (fun σ H Q => ty σ H fun y H1 => ∃ z r, y = .str z ∧ PySem.W.nsIn X.K d z = some r ∧ ∃ v : V, L2.RelV v (r.getD .none) ∧ Q v H1) := by
  refine ⟨fun pins s σ H Q I h => ?_⟩
  have ho' := ho.run pins s σ H (fun v H1 => v = .ref d ∧ H1 = H) I ⟨rfl, rfl⟩
  refine wpAny_Call_method m.base m.few m.line PySem.F.plainAttrs_dict PySem.F.slot_dict_get PySem.F.type_dict_get (thn ho' fun u s1 ⟨x, H1, I1, rx, ex, eh⟩ => ?_)
  subst ex eh
  obtain rfl : u = Value.ref d := rx
  have hm := PySem.W.mapOf_K (prog := X.prog) (w := X.w) I1.kIn KD.at_ KD.lit
  refine ⟨hm.typeIs, fun b q => ?_, ?_⟩
  · cases q
    obtain ⟨ob, _, _, h1, h2, _⟩ := hm
    exact ⟨ob, h1, h2.2.1⟩
  rw [m.trees]
  refine Calls.callWith_builtin rfl (Calls.evalArgs_plain (Calls.spliced_cons (thn (he.run pins s1 σ H1 _ I1 h) fun iv s2 ⟨y, H2, I2, ry, z, r, ey, er, v, rv, q2⟩ => Calls.spliced_nil ?_)))
  subst ey
  obtain ⟨t, rfl⟩ := ry
  have hm2 := PySem.W.mapOf_K (prog := X.prog) (w := X.w) I2.kIn KD.at_ KD.lit
  refine call_meetsIn PySem.F.slot_dict_get hm2.typeIs PySem.F.entry_dict_get (PySem.F.args_dict_get_2 _ _) (meets_dict_get (strKind X.prog X.w) d (strKind_is X.prog X.w z t) KD.low) ⟨_, hm2, ?_⟩
  rw [PySem.W.find_K KD.at_ er]
  exact ⟨v, H2, I2.tok _, rv, q2⟩
def mTGet (tb : List (List Nat × List Nat)) (m : ME) : ME := fun σ μ Q E => m σ μ (fun v μ1 => match v with
  | .str l => Q (match tGet tb l with
    | some r => .str r
    | none => .non) μ1
  | _ => False) E
theorem ie_tget (D : WDict X.K X.w X.mg x tb) (hg : Gl X x) (he : IE X F W e me) (m : M1 X (.Name x p) "get" apos e cpos) (hd : (x == ("__debug__" : Str)) = false := by decide) : IE X F W (.Call (.Attribute (.Name x p) "get" apos) [e] [] cpos) (mTGet tb me) := by
  obtain ⟨d, es, n, hm, KD, hw⟩ := D.at_
  refine (pe_wget (td := tC (.ref d)) KD (pe_glob (v := V.ref d) hg hm rfl hd) he m).imp fun σv H Q ⟨A0, ω, σ, Qm, Em, a0, h, k, kx⟩ => ?_
  refine deE a0 h kx fun v ω1 H1 u q1 s1 a1 r1 => ?_
  split at q1
  rotate_left
  · exact q1.elim
  rename_i l
  obtain ⟨rfl, h2⟩ := rv_str.mp r1
  obtain ⟨r, e1, e2⟩ := wd_look KD hw l
  refine ⟨S l, r, rfl, e1, ?_⟩
  cases hv : tGet tb l with
  | none =>
    rw [hv] at e2 q1
    subst e2
    exact ⟨.non, rfl, k _ ω1 H1 _ q1 s1 a1 (rv_non.mpr rfl)⟩
  | some v =>
    rw [hv] at e2 q1
    obtain ⟨t, rfl⟩ := e2
    exact ⟨.str (S v), ⟨t, rfl⟩, k _ ω1 H1 _ q1 s1 a1 (rv_str.mpr ⟨rfl, D.sok hv⟩)⟩
/-! ### (a, *b) -/
def aStar (a : ME) (r : MA) : MA := fun σ μ Q E => a σ μ (fun v μ1 => match v with
  | .lst xs => r σ μ1 (fun vs μ2 => Q (xs ++ vs) μ2) E
  | .tup xs => r σ μ1 (fun vs μ2 => Q (xs ++ vs) μ2) E
  | _ => False) E
theorem ia_star (hK : X.K = F.K) (ha : IE X F W e me) (hr : IA X F W es mas) (hs : starEach (.Starred e p :: es) X.env = (true, eval e X.env) :: starEach es X.env := by rfl) : IA X F W (.Starred e p :: es) (aStar me mas) := (StX.pa_star ha hr hs).imp fun σv H Q ⟨A0, ω, σ, Qm, Em, a0, h, k, kx⟩ =>
  deE a0 h kx fun x ω1 H1 u q1 s1 a1 r1 => by
    split at q1
    · rename_i xs
      obtain ⟨q, ws, rfl, h2, h3, h4⟩ := rv_lst.mp r1
      exact ⟨q, ws, rfl, .inr (sq_of h2), deA a1 q1 (kx.step s1) fun vs ω2 H2 us q2 s2 a2 r2 => k _ ω2 H2 _ q2 (s1.trans s2) a2 ((h4.step a1.rel.off_of s2).app r2)⟩
    · rename_i xs
      obtain ⟨q, ws, rfl, h2, h4⟩ := rv_tup.mp r1
      exact ⟨q, ws, rfl, .inl (st_of h2), deA a1 q1 (kx.step s1) fun vs ω2 H2 us q2 s2 a2 r2 => k _ ω2 H2 _ q2 (s1.trans s2) a2 ((h4.step a1.rel.off_of s2).app r2)⟩
    · exact q1.elim
/-! ### a number as text, a text as number -/
def numS (n : Nat) : List Nat := (Nat.toDigits 10 n).map Char.toNat
theorem numS_is (n : Nat) : Str.ofString (toString (n : Int)) = S (numS n) := by
  rw [Str.ofString_eq_toList]
  have : (toString (n : Int)).toList = Nat.toDigits 10 n := by
    show (Nat.repr n).toList = _
    simp [Nat.repr]
  rw [this]
  rfl
theorem numS_one {n : Nat} (h : n < 10) : numS n = [48 + n] := by
  unfold numS
  rw [Nat.toDigits_of_lt_base h]
  revert n
  decide
theorem numS_more {n : Nat} (h : 10 ≤ n) : numS n = numS (n / 10) ++ [48 + n % 10] := by
  unfold numS
  have h1 := Nat.toDigits_append_toDigits (b := 10) (n := n / 10) (d := n % 10) (by decide) (by omega) (Nat.mod_lt _ (by decide))
  have h2 : 10 * (n / 10) + n % 10 = n := Nat.div_add_mod n 10
  rw [h2] at h1
  rw [← h1, List.map_append]
  congr 1
  exact numS_one (n := n % 10) (Nat.mod_lt _ (by decide))
theorem numS_ok : ∀ (k n : Nat), n < 10 ^ (k + 1) → (numS n).length ≤ k + 1 ∧ ∀ c ∈ numS n, 48 ≤ c ∧ c < 58
  | 0, n, h => by
    rw [numS_one h]
    exact ⟨Nat.le_refl _, fun c hc => by rw [List.mem_singleton.mp hc]; omega⟩
  | k + 1, n, h => by
    by_cases h10 : n < 10
    · rw [numS_one h10]
      exact ⟨by simp, fun c hc => by rw [List.mem_singleton.mp hc]; omega⟩
    · rw [numS_more (by omega)]
      have hk : n / 10 < 10 ^ (k + 1) := by rw [Nat.pow_succ] at h; omega
      obtain ⟨k1, k2⟩ := numS_ok k _ hk
      refine ⟨by rw [List.length_append, List.length_singleton]; omega, fun c hc => ?_⟩
      rcases List.mem_append.mp hc with hc | hc
      · exact k2 c hc
      · rw [List.mem_singleton.mp hc]; omega
theorem numS_sok {n : Nat} (h : n < 10 ^ 9) : SOk (numS n) := by
  obtain ⟨h1, h2⟩ := numS_ok 8 n h
  exact ⟨Nat.le_trans h1 (by unfold strLim; decide), List.all_eq_true.mpr fun c hc => by have := h2 c hc; exact decide_eq_true (by omega)⟩
def oStr1 : List Val → Sto → QV → Prop := fun xs μ Q => match xs with
  | [.int i] => (0 ≤ i ∧ i < 1000000000) ∧ Q (.str (numS i.toNat)) μ
  | _ => False
theorem cs_str1 : CalS F (fun xs H Q => ∃ i : Int, xs = [.int i] ∧ i.natAbs.log2 < 1920 ∧ Q (.str (toString i)) H) oStr1 := fun A ω H xs us Qm Q r rx h k => by
  unfold oStr1 at h
  split at h
  rotate_left
  · exact h.elim
  rename_i i
  obtain ⟨⟨h0, h1⟩, h⟩ := h
  obtain ⟨u, _, rfl, r1, hn⟩ := rvs_cons.mp rx
  obtain rfl := rvs_nil.mp hn
  have hi : i = ((i.toNat : Nat) : Int) := by omega
  refine ⟨i, by rw [rv_int.mp r1], ?_, ?_⟩
  · have : i.natAbs < 2 ^ 1920 := Nat.lt_of_lt_of_le (show i.natAbs < 2 ^ 30 by omega) (Nat.pow_le_pow_right (by decide) (by decide))
    by_cases z : i.natAbs = 0
    · rw [z]; decide
    · exact (Nat.log2_lt z).mpr this
  · have e : Str.ofString (toString i) = S (numS i.toNat) := by
      have := numS_is i.toNat
      rw [← hi] at this
      exact this
    show Q (.str (Str.ofString (toString i))) H
    rw [e]
    exact k _ ω H _ h .refl r (rv_str.mpr ⟨rfl, numS_sok (by omega)⟩)
/-- up to three figures -/
def figs (l : List Nat) : Option Nat := match l with
  | [a] => if 48 ≤ a ∧ a < 58 then some (a - 48) else none
  | [a, b] => if (48 ≤ a ∧ a < 58) ∧ (48 ≤ b ∧ b < 58) then some ((a - 48) * 10 + (b - 48)) else none
  | [a, b, c] => if (48 ≤ a ∧ a < 58) ∧ (48 ≤ b ∧ b < 58) ∧ (48 ≤ c ∧ c < 58) then some ((a - 48) * 100 + (b - 48) * 10 + (c - 48)) else none
  | _ => none
theorem figs1 : ∀ a : Fin 10, PySem.intText? (S [48 + a.val]) = some (a.val : Int) := by decide +kernel
theorem figs2 : ∀ a b : Fin 10, PySem.intText? (S [48 + a.val, 48 + b.val]) = some ((a.val * 10 + b.val : Nat) : Int) := by decide +kernel
theorem figs3 : ∀ a b c : Fin 10, PySem.intText? (S [48 + a.val, 48 + b.val, 48 + c.val]) = some ((a.val * 100 + b.val * 10 + c.val : Nat) : Int) := by decide +kernel
theorem figs_is {l : List Nat} {n : Nat} (h : figs l = some n) : PySem.intText? (S l) = some (n : Int) ∧ l.length ≤ 3 := by
  unfold figs at h
  split at h
  · rename_i a
    split at h
    · rename_i q
      cases h
      have := figs1 ⟨a - 48, by omega⟩
      simp only [show 48 + (a - 48) = a by omega] at this
      exact ⟨this, by simp⟩
    · cases h
  · rename_i a b
    split at h
    · rename_i q
      cases h
      have := figs2 ⟨a - 48, by omega⟩ ⟨b - 48, by omega⟩
      simp only [show 48 + (a - 48) = a by omega, show 48 + (b - 48) = b by omega] at this
      exact ⟨this, by simp⟩
    · cases h
  · rename_i a b c
    split at h
    · rename_i q
      cases h
      have := figs3 ⟨a - 48, by omega⟩ ⟨b - 48, by omega⟩ ⟨c - 48, by omega⟩
      simp only [show 48 + (a - 48) = a by omega, show 48 + (b - 48) = b by omega, show 48 + (c - 48) = c by omega] at this
      exact ⟨this, by simp⟩
    · cases h
  · cases h
def oIntS : List Val → Sto → QV → Prop := fun xs μ Q => match xs with
  | [.str l] => match figs l with
    | some n => Q (.int n) μ
    | none => False
  | _ => False
theorem cs_intS : CalS F (fun xs H Q => ∃ a n, xs = [.str a] ∧ PySem.intText? a = some n ∧ a.length ≤ 640 ∧ Q (.int n) H) oIntS := fun A ω H xs us Qm Q r rx h k => by
  unfold oIntS at h
  split at h
  rotate_left
  · exact h.elim
  rename_i l
  obtain ⟨u, _, rfl, r1, hn⟩ := rvs_cons.mp rx
  obtain rfl := rvs_nil.mp hn
  split at h
  rotate_left
  · exact h.elim
  rename_i n hn
  obtain ⟨rfl, h2⟩ := rv_str.mp r1
  obtain ⟨k1, k2⟩ := figs_is hn
  exact ⟨S l, n, rfl, k1, by rw [S_len]; omega, k _ ω H _ h .refl r (rv_int.mpr rfl)⟩
/-! ### range(a, b, c), zip(text, list) -/
def rngC (lo hi c : Int) : List Val := (List.range (if lo < hi then (hi - lo - 1) / c + 1 else 0).toNat).map fun k => .int (lo + (k : Nat) * c)
def iRg3 (m m' m'' : ME) : MI := fun σ μ R E => m σ μ (fun v μ1 => m' σ μ1 (fun w μ2 => m'' σ μ2 (fun z μ3 => match v, w, z with
  | .int a, .int b, .int c => ((0 ≤ a ∧ a ≤ lim) ∧ (0 ≤ b ∧ b ≤ lim) ∧ 1 ≤ c ∧ c ≤ 1000) ∧ R (rngC a b c) (fun _ => True) μ3
  | _, _, _ => False) E) E) E
theorem ii_rg3 {tg : Expr} (h : PI X tg e (iRng3 (tCons (denE F W ma) (tCons (denE F W mb) (tCons (denE F W mc) tNil))))) : II X F W tg e (iRg3 ma mb mc) := h.imp fun σv H R ⟨A0, ω, σ, Rm, Em, a0, h, k, kx⟩ => deE a0 h kx fun v ω1 H1 u q1 s1 a1 r1 => deE a1 q1 (kx.step s1) fun w ω2 H2 z q2 s2 a2 r2 => deE a2 q2 (kx.step (s1.trans s2)) fun w3 ω3 H3 z3 q3 s3 a3 r3 => by
  split at q3
  rotate_left
  · exact q3.elim
  rename_i x y c
  obtain rfl := rv_int.mp r1
  obtain rfl := rv_int.mp r2
  obtain rfl := rv_int.mp r3
  obtain ⟨⟨⟨n1, n2⟩, ⟨n3, n4⟩, n5, n6⟩, q3⟩ := q3
  unfold lim at n2 n4
  have hn : (if x < y then (y - x - 1) / c + 1 else 0) ≤ 1000000 ∧ 0 ≤ (if x < y then (y - x - 1) / c + 1 else 0) := by
    split
    · have h1 : (y - x - 1) / c ≤ y - x - 1 := Int.ediv_le_self _ (by omega)
      have h2 : 0 ≤ (y - x - 1) / c := Int.ediv_nonneg (by omega) (by omega)
      exact ⟨by omega, by omega⟩
    · exact ⟨by decide, by decide⟩
  have hl : (rngC x y c).length = (if x < y then (y - x - 1) / c + 1 else 0).toNat := by unfold rngC; rw [List.length_map, List.length_range]
  have hrs : Builtin.Range.rangeSize x y c = ((if x < y then (y - x - 1) / c + 1 else 0).toNat : Nat) := by
    unfold Builtin.Range.rangeSize
    rw [if_pos (by omega)]
    omega
  refine ⟨x, y, c, _, rfl, ⟨by omega, by omega, ?_, hrs⟩, k _ _ ω3 H3 _ (fun _ => True) _ q3 (s1.trans (s2.trans s3)) a3 (by rw [hl]; exact walk_rangeC) (by rw [hl]; exact lim_le (by unfold lim; omega)) ?_⟩
  · unfold Builtin.Range.small
    rw [hrs]
    have h12 : 0 ≤ ((if x < y then (y - x - 1) / c + 1 else 0).toNat : Int) := by omega
    have h9 : ((if x < y then (y - x - 1) / c + 1 else 0).toNat : Int) ≤ 1000000 := by omega
    generalize ((if x < y then (y - x - 1) / c + 1 else 0).toNat : Int) = N at h9 h12
    rw [if_pos (show c > 0 by omega)]
    simp only [Builtin.Range.rangeFitsLong, Bool.and_eq_true, Bool.or_eq_true, decide_eq_true_eq, beq_iff_eq]
    refine ⟨⟨⟨⟨⟨?_, ?_⟩, ⟨?_, ?_⟩⟩, ⟨?_, ?_⟩⟩, ⟨?_, ?_⟩⟩, .inr ⟨?_, ?_⟩⟩ <;> omega
  · intro O A2 ω2' H2' hO hA2 r2' s2' _
    refine ⟨trivial, fun i z H3 hi y' => ?_⟩
    obtain ⟨rfl, rfl⟩ := y'
    rw [hl] at hi
    refine ⟨.int (x + (i : Nat) * c), ?_, .refl, r2', rv_int.mpr rfl⟩
    unfold rngC
    rw [List.getElem?_map, List.getElem?_range hi]
    rfl
/-- pairs of a text's signs and items -/
def zipL : List Nat → List Val → List Val
  | c :: l, v :: vs => .tup [.str [c], v] :: zipL l vs
  | _, _ => []
theorem zipL_len : ∀ {l : List Nat} {vs : List Val}, l.length = vs.length → (zipL l vs).length = vs.length
  | [], [], _ => rfl
  | [], _ :: _, h => by cases h
  | _ :: _, [], h => by cases h
  | c :: l, v :: vs, h => by
    show (zipL l vs).length + 1 = vs.length + 1
    rw [zipL_len (Nat.succ.inj h)]
theorem zipL_get : ∀ {l : List Nat} {vs : List Val} {i : Nat} {c : Nat} {v : Val}, l[i]? = some c → vs[i]? = some v → (zipL l vs)[i]? = some (.tup [.str [c], v])
  | [], _, _, _, _, h, _ => by simp at h
  | _ :: _, [], _, _, _, _, h => by simp at h
  | c :: l, v :: vs, 0, _, _, h1, h2 => by
    cases h1; cases h2; rfl
  | c :: l, v :: vs, i + 1, _, _, h1, h2 => zipL_get (l := l) (vs := vs) (i := i) h1 h2
/-- zip of a text of plain signs and a list that stays, of one length -/
def iZipL (m m' : ME) : MI := fun σ μ R E => m σ μ (fun v μ1 => m' σ μ1 (fun w μ2 => match v, w with
  | .str l, .lst vs => (l.length = vs.length ∧ l.all (· < 128) = true) ∧ R (zipL l vs) (fun _ => True) μ2
  | _, _ => False) E) E
theorem ii_zip {elts : List Expr} {kk : Nat} {tpos : Pos} (hg : Gl X "zip") (hm : X.mg "zip" = none) (ha : IE X F W a ma) (hb : IE X F W b mb)
    (hs : starEach [a, b] X.env = (false, eval a X.env) :: starEach [b] X.env := by rfl) (hs2 : starEach [b] X.env = (false, eval b X.env) :: starEach [] X.env := by rfl) (hpl : (backTo pos (starEach [b] X.env)).any (·.1) = false := by rfl) :
    II X F W (.Tuple elts kk tpos) (.Call (.Name "zip" p) [a, b] [] pos) (iZipL ma mb) := (pi_zipS hg hm (pa_cons ha (pa_cons (pe_sz hb) pa_nil hs2) hs) hs hpl).imp fun σv H R ⟨A0, ω, σ, Rm, Em, a0, h, k, kx⟩ => deE a0 h kx fun v ω1 H1 u q1 s1 a1 r1 => deE a1 q1 (kx.step s1) fun w ω2 H2 z q2 s2 a2 r2 => by
  intro sz
  split at q2
  rotate_left
  · exact q2.elim
  rename_i l vs
  obtain ⟨⟨hl, hasc⟩, q2⟩ := q2
  obtain ⟨rfl, hs⟩ := rv_str.mp r1
  obtain ⟨q, ws, rfl, h2, h3, h4⟩ := rv_lst.mp r2
  have hsz : (S l).cps.size = vs.length := by rw [← hl]; simp [S]
  refine ⟨S l, q, ws, rfl, by simpa [S] using hasc, sq_of h2, k _ _ ω2 H2 _ (fun H => SqL X.K H q ws) (fun i H x H' => ∃ T c y, x = .ref T ∧ H T = none ∧ H' = upd H T (.tup [.str ⟨#[c]⟩, y]) ∧ (S l).cps[i]? = some c ∧ ws[i]? = some y) q2 (s1.trans s2) a2 ?_ (by rw [zipL_len hl, ← h4.len]; exact sz q ws rfl (.inl (sq_of h2))) ?_⟩
  · rw [zipL_len hl]
    refine ⟨fun i H hi hq => ⟨ws, ws[i]'(by rw [h4.len]; exact hi), by rw [hsz]; exact hi, hq, List.getElem?_eq_getElem _⟩, fun H hq => ⟨by rw [hsz]; exact Nat.le_refl _, ws, hq⟩, fun i H x H' hi hq y => ?_⟩
    obtain ⟨T, c, y, e1, e2, e3, e4, e5⟩ := y
    exact ⟨T, c, y, e1, e2, e3, e4, e5 ws hq⟩
  · intro O A2 ω2' H2' hO hA2 r2' s2' _
    have hq' := (s2'.h q _ h2 (fun _ z => by cases z) h3.2 fun z => h3.1 (hO q z)).1
    refine ⟨sq_of hq', fun i x H3 hi y => ?_⟩
    obtain ⟨T, c, y, rfl, hT, rfl, e4, e5⟩ := y
    rw [zipL_len hl] at hi
    obtain ⟨u, hu, rr⟩ := h4.get (List.getElem?_eq_getElem hi)
    rw [hu] at e5
    cases e5
    have hc : l[i]? = some c := by simpa [S] using e4
    obtain ⟨k1, k2, k3⟩ := pair_new (v := .str [c]) r2' hT (rv_str.mpr ⟨rfl, hs.one (List.mem_of_getElem? hc)⟩) (later a2.rel hO hA2 s2' rr)
    exact ⟨_, zipL_get hc (List.getElem?_eq_getElem hi), k1, k2, k3⟩
end
end MW
namespace MW
def tb_STEP_FORMS : List (List Nat × List Nat) := [([111, 112, 101, 110], [110, 116]), ([99, 108, 111, 115, 101], [110]), ([111, 102, 102], [110]), ([116, 97, 107, 101], [110]), ([99, 97, 114, 114, 121], []), ([98, 114, 105, 110, 103], []), ([119, 111, 114, 107], [110]), ([102, 97, 108, 108], []), ([97, 110, 101, 119], []), ([115, 101, 116, 116, 108, 101], [])]
def tb_ASK_FORMS : List (List Nat × List Nat) := [([102, 105, 110, 100], [116]), ([114, 111, 119, 115], [116]), ([119, 111, 114, 100], [110, 110]), ([114, 101, 110, 97, 109, 101], [110, 110, 116])]
def tb_SIGNS : List (List Nat × List Nat) := [([126, 95], [32]), ([126, 47], [10]), ([126, 126], [126])]
end MW

set_option Elab.async false
set_option linter.all false
set_option maxRecDepth 100000
set_option maxHeartbeats 4000000
namespace MW
open PySem PySem.Spec PyProof.Rows L2 Evl SX HW
section
variable {X : Cx} {F : Cf} {A A0 : Av} {ω ω' : Om} {H H' : Hp} {W : WX} {a b e : Expr} {es : List Expr} {ma mb mc me mo : ME} {pos p : Pos} {v : Val} {u : V} {vs : List Val} {us ws : List V} {σ : Lc} {σv : L2.St} {mI mI1 : MI} {t t1 : Tg}
/-! ### [e for x in xs for y in ys] -/
def lcI (t : Tg) (me : ME) (ok : Sto → Prop) (σ : Lc) (Z : List Val → Sto → Prop) : List Val → List Val → Sto → Prop
  | [], acc, μ => ok μ ∧ Z acc μ
  | v :: vs, acc, μ => ok μ ∧ acc.length < lim ∧ match t.mt v σ with
    | some σ1 => me σ1 μ (fun y μ1 => lcI t me ok σ Z vs (acc ++ [y]) μ1) (fun _ _ => False)
    | none => False
theorem lcI_ok {ok : Sto → Prop} {Z : List Val → Sto → Prop} {μ : Sto} {acc : List Val} : ∀ {vs : List Val}, lcI t me ok σ Z vs acc μ → ok μ
  | [], h => h.1
  | _ :: _, h => h.1
def lcL2 (t : Tg) (mI1 : MI) (t1 : Tg) (is1 : List Nat) (me : ME) (ok : Sto → Prop) (σ : Lc) (Q : List Val → Sto → Prop) : List Val → List Val → Sto → Prop
  | [], acc, μ => ok μ ∧ Q acc μ
  | v :: vs, acc, μ => ok μ ∧ match t.mt v σ with
    | some σ1 => mI1 σ1 μ (fun items ok1 μ1 => lcI t1 me ok1 (wipeM σ1 is1) (fun acc1 μ2 => lcL2 t mI1 t1 is1 me ok σ Q vs acc1 μ2) items acc μ1) (fun _ _ => False)
    | none => False
theorem lcL2_ok {is1 : List Nat} {ok : Sto → Prop} {Q : List Val → Sto → Prop} {μ : Sto} {acc : List Val} : ∀ {vs : List Val}, lcL2 t mI1 t1 is1 me ok σ Q vs acc μ → ok μ
  | [], h => h.1
  | _ :: _, h => h.1
def lComp2 (m : MI) (t : Tg) (is : List Nat) (mI1 : MI) (t1 : Tg) (is1 : List Nat) (me : ME) : MA := fun σ μ Q E => m σ μ (fun items ok μ1 => lcL2 t mI1 t1 is1 me ok (wipeM σ is) Q items [] μ1) E
/-- a walk within a walk -/
theorem in_it {J : It} {n : Nat} {G : Hp → Prop} {Y : Nat → Hp → V → Hp → Prop} (w : Walk J n G Y) {g : TG} {tt : TT} {te : TE} {is : List Nat} {σ : L2.St} {H1 : Hp} {D : Addr} {Z : Hp → Prop} (Pv : Nat → Hp → Prop) (h0 : Pv 0 H1) (hG : ∀ i H, i ≤ n → Pv i H → G H)
    (hs : ∀ i x H H', i < n → Pv i H → Y i H x H' → g x (wipe σ is) H' fun σ2 H2 => wipe σ2 is = wipe σ is ∧ tt σ2 H2 fun b H3 =>
      if b = true then te σ2 H3 fun y H4 => ∃ acc, H4 D = some (.lst acc) ∧ acc.length < sizeLine ∧ Pv (i + 1) (upd H4 D (.lst (acc ++ [y]))) else Pv (i + 1) H3) (hd : ∀ H, Pv n H → Z H) :
    ∃ W : Nat → Nat → Hp → Prop, (∃ m, W 0 m H1) ∧ ∀ i m H, W i m H →
      (J.stop i H ∧ Z H) ∨ (J.go i H ∧ ∃ Nx : Hp → Prop, (∀ H', Nx H' → ∃ m', m' < m ∧ W (i + 1) m' H') ∧ ∀ x H', J.yld i H x H' → g x (wipe σ is) H' fun σ2 H2 => wipe σ2 is = wipe σ is ∧ tt σ2 H2 fun b H3 =>
        if b = true then te σ2 H3 fun y H4 => ∃ acc, H4 D = some (.lst acc) ∧ acc.length < sizeLine ∧ Nx (upd H4 D (.lst (acc ++ [y]))) else Nx H3) := by
  refine ⟨fun i m H => m = n - i ∧ i ≤ n ∧ Pv i H, ⟨n, by simp, Nat.zero_le _, h0⟩, ?_⟩
  rintro i m H ⟨rfl, hi, p⟩
  have q := hG i H hi p
  by_cases hlt : i < n
  · exact .inr ⟨w.goes i H hlt q, Pv (i + 1), fun H' p' => ⟨n - (i + 1), by omega, rfl, hlt, p'⟩, fun x H' y => hs i x H H' hlt p (w.yields i H x H' hlt q y)⟩
  · have e : i = n := by omega
    subst e
    exact .inl ⟨w.stops H q, hd H p⟩
/-- the frame of a walk within: what is among O may have changed -/
theorem At.innerX {AD O : Av} {ω2 : Om} {H2 : Hp} (is : List Nat) (a1 : At F A0 ω H σ σv) (hO : ∀ p, O p → AO A0 σ σv p) (hA : ∀ p, AD p → AO A0 σ σv p ∨ H p = none) (s : StpX O ω H ω2 H2) (r : Rel F AD ω2 H2) : At F AD ω2 H2 (wipeM σ is) (wipe σv is) := by
  have nm : ∀ {j}, ¬ Mine (wipeM σ is) j := fun {j} ⟨s, h1, h2⟩ => by rw [(wipeM_slot h1).1] at h2; cases h2
  have eA : ∀ p, AO AD (wipeM σ is) (wipe σv is) p → AD p := fun p hp => by
    rcases hp with hp | ⟨j, hj, _⟩
    · exact hp
    · exact absurd hj nm
  refine ⟨r.less eA, by rw [wipeM_len, wipe_length, a1.len], fun j s hj => ?_, fun j p hj _ => absurd hj nm, fun j k p hj _ _ _ => absurd hj nm⟩
  obtain ⟨k1, k2⟩ := wipeM_slot hj
  rcases k2 with rfl | ⟨k2, k3⟩
  · have hl : j < σv.length := by rw [← a1.len, ← wipeM_len (is := is)]; exact (List.getElem?_eq_some_iff.mp hj).1
    obtain ⟨u, hu⟩ := wipe_some' is hl
    exact ⟨u, hu, trivial⟩
  · obtain ⟨u, h1, h2⟩ := a1.sl j s k3
    refine ⟨u, by rw [wipe_get k2]; exact h1, ?_⟩
    cases s with
    | no => trivial
    | val v => obtain ⟨x, e, rv⟩ := h2; exact ⟨x, e, (later a1.rel hO hA s rv).av fun p z => .inl (eA p z)⟩
    | own _ => cases k1
    | ownP _ => cases k1
theorem mine_wipe {is : List Nat} {j : Nat} : ¬ Mine (wipeM σ is) j := fun ⟨s, h1, h2⟩ => by rw [(wipeM_slot h1).1] at h2; cases h2
theorem ao_wipe {AD : Av} {is : List Nat} {q : Addr} {σv' : L2.St} (h : AO AD (wipeM σ is) σv' q) : AD q := by
  rcases h with h | ⟨j, hj, _⟩
  · exact h
  · exact absurd hj mine_wipe
theorem StpX.chg {O : Av} {ω1 ω2 : Om} {H1 H2 : Hp} {q : Addr} {x : HO} (s : StpX O ω1 H1 ω2 H2) (h : O q) : StpX O ω1 H1 ω2 (upd H2 q x) := ⟨s.n, s.m, fun p o e t f no => by
  obtain ⟨k1, k2⟩ := s.h p o e t f no
  exact ⟨by rw [upd_ne (fun z : p = q => no (by rw [z]; exact h))]; exact k1, k2⟩, fun p e => s.t p (upd_none e)⟩
theorem lc2_imp {is is1 : List Nat} {K : PySem.W.Frag} {Q : VK} (hK : K = F.K) (ht : ∀ K u σv H Q, Tg.g K t u (wipe σv is) H Q → Tg.g K t u (wipe σv is) H (fun σ2 H2 => wipe σ2 is = wipe σv is ∧ Q σ2 H2))
    (ht1 : ∀ K u σv H Q, Tg.g K t1 u (wipe σv is1) H Q → Tg.g K t1 u (wipe σv is1) H (fun σ2 H2 => wipe σ2 is1 = wipe σv is1 ∧ Q σ2 H2)) (hd : denL F W (lComp2 mI t is mI1 t1 is1 me) σv H Q) :
    tLc2 (denI F W mI) (t.g K) (denT F W0 mYes) (denI F W0 mI1) (t1.g K) (denT F W0 mYes) (denE F W0 me) is is1 σv H Q := by
  obtain ⟨A0, ω, σ, Qm, Em, a0, h, k, kx⟩ := hd
  exact ⟨A0, ω, σ, _, Em, a0, h, fun items ok ω1 H1 J G Y q1 s1 a1 wk hz wS Dl hD => by
    have nA : ¬ AO A0 σ σv Dl := a1.rel.notA hD
    have inc : ∀ {ω2 : Om} {H2 : Hp}, Stp ω1 H1 ω2 H2 → StpX (fun _ => False) ω1 H1 ω2 H2 := fun s => ⟨s.n, s.m, fun p o h t f _ => s.h p o h t f, s.t⟩
    have hA2 : ∀ p, (AO A0 σ σv p ∨ p = Dl) → AO A0 σ σv p ∨ H1 p = none := fun p hp => by
      rcases hp with hp | hp
      · exact .inl hp
      · exact .inr (by rw [hp]; exact hD)
    refine ⟨fun i m H' => m = items.length - i ∧ i ≤ items.length ∧ ∃ ω2 acc us, H' Dl = some (.lst us) ∧ Stp ω1 H1 ω2 H' ∧ Rel F (fun p => AO A0 σ σv p ∨ p = Dl) ω2 H' ∧ RelVs F (fun p => AO A0 σ σv p ∨ p = Dl) ω2 H' acc us ∧ lcL2 t mI1 t1 is1 me ok (wipeM σ is) Qm (items.drop i) acc ω2.μ,
      ⟨items.length, rfl, Nat.zero_le _, ω1, [], [], upd_same, .fresh hD, a1.rel.grow hD (.inl trivial), rvs_nil.mpr rfl, q1⟩, ?_⟩
    rintro i m H' ⟨rfl, hi, ω2, acc, us, hD2, s2, r2, ra, f2⟩
    have hG := (wS (fun _ => False) _ ω2 H' (fun p z => z.elim) hA2 r2 (inc s2) (lcL2_ok f2)).1
    by_cases hlt : i < items.length
    rotate_left
    · have e : i = items.length := by omega
      subst e
      rw [List.drop_length] at f2
      have := k acc ω2 (MW.dl H' Dl) us Dl f2.2 (s1.trans (s2.dl hD)) (a0.step (s1.trans (s2.dl hD)) (r2.dl hD2 nA)) (ra.dl hD2) dl_same
      rw [dl_upd hD2] at this
      exact .inl ⟨wk.stops _ hG, this⟩
    refine .inr ⟨wk.goes i H' hlt hG, fun H' => ∃ ω2 acc us, H' Dl = some (.lst us) ∧ Stp ω1 H1 ω2 H' ∧ Rel F (fun p => AO A0 σ σv p ∨ p = Dl) ω2 H' ∧ RelVs F (fun p => AO A0 σ σv p ∨ p = Dl) ω2 H' acc us ∧ lcL2 t mI1 t1 is1 me ok (wipeM σ is) Qm (items.drop (i + 1)) acc ω2.μ, fun H' p' => ⟨items.length - (i + 1), by omega, rfl, hlt, p'⟩, fun x H'' y => ?_⟩
    obtain ⟨v, hv, s3, r3, rv⟩ := (wS (fun _ => False) _ ω2 H' (fun p z => z.elim) hA2 r2 (inc s2) (lcL2_ok f2)).2 i x H'' hlt (wk.yields i H' x H'' hlt hG y)
    have hD3 : H'' Dl = some (.lst us) := (s3.h Dl _ hD2 (fun _ z => by cases z) (r2.avA (.inr rfl))).1
    rw [List.drop_eq_getElem_cons hlt] at f2
    have hv' : items[i] = v := by rw [List.getElem?_eq_getElem hlt] at hv; exact Option.some.inj hv
    rw [hv'] at f2
    obtain ⟨_, f4⟩ := f2
    split at f4
    rotate_left
    · exact f4.elim
    rename_i σ3 hq
    have s23 := s2.trans s3
    have aw : At F (fun p => AO A0 σ σv p ∨ p = Dl) ω2 H'' (wipeM σ is) (wipe σv is) := a1.inner is hA2 (inc s23) r3
    have af : AtF F ⟨fun p => AO A0 σ σv p ∨ p = Dl, fun _ => False, ω2, H''⟩ ω2 H'' (wipeM σ is) (wipe σv is) := ⟨aw, .refl, fun j p hj hp => absurd hj mine_wipe⟩
    have rv' : RelV F (AO (fun p => AO A0 σ σv p ∨ p = Dl) (wipeM σ is) (wipe σv is)) ω2 H'' v x := rv.av fun p z => .inl (ao_wipe z)
    refine ht K x σv H'' _ (Tg.ok hK t af rv' hq fun σv3 a3 sub => ?_)
    have ra3 := ra.step r2.off_of s3
    refine deT (ta := mYes) (Em := fun _ _ => False) (Qm := fun b μ => b = true ∧ mI1 σ3 μ (fun items1 ok1 μ1 => lcI t1 me ok1 (wipeM σ3 is1) (fun acc1 μ2 => lcL2 t mI1 t1 is1 me ok (wipeM σ is) Qm (items.drop (i + 1)) acc1 μ2) items1 acc μ1) (fun _ _ => False)) a3.toAt ⟨rfl, f4⟩ (fun _ _ _ _ _ z => z.elim) fun b ω4 H4 q4 s4 a4 => ?_
    obtain ⟨rfl, q4⟩ := q4
    have r4 : Rel F (fun p => AO A0 σ σv p ∨ p = Dl) ω4 H4 := a4.rel.less AO.sub
    have ra4 := ra3.step r3.off_of s4
    have hD4 : H4 Dl = some (.lst us) := (s4.h Dl _ hD3 (fun _ z => by cases z) (r3.avA (.inr rfl))).1
    refine iteT ⟨_, ω4, σ3, _, _, a4, q4, fun items1 ok1 ω5 H5 J1 G1 Y1 q5 s5 a5 wk1 hz1 wS1 => ?_, fun _ _ _ _ _ z => z.elim⟩
    have r5 : Rel F (fun p => AO A0 σ σv p ∨ p = Dl) ω5 H5 := a5.rel.less AO.sub
    have hD5 : H5 Dl = some (.lst us) := (s5.h Dl _ hD4 (fun _ z => by cases z) (r4.avA (.inr rfl))).1
    have hO1 : ∀ p, p = Dl → AO (fun p => AO A0 σ σv p ∨ p = Dl) σ3 σv3 p := fun p hp => .inl (.inr hp)
    have hA1 : ∀ p, (AO A0 σ σv p ∨ p = Dl) → AO (fun p => AO A0 σ σv p ∨ p = Dl) σ3 σv3 p ∨ H5 p = none := fun p hp => .inl (.inl hp)
    refine in_it wk1 (fun j H' => ∃ ω6 acc us, H' Dl = some (.lst us) ∧ StpX (fun p => p = Dl) ω5 H5 ω6 H' ∧ Stp ω1 H1 ω6 H' ∧ Rel F (fun p => AO A0 σ σv p ∨ p = Dl) ω6 H' ∧ RelVs F (fun p => AO A0 σ σv p ∨ p = Dl) ω6 H' acc us ∧ lcI t1 me ok1 (wipeM σ3 is1) (fun acc1 μ2 => lcL2 t mI1 t1 is1 me ok (wipeM σ is) Qm (items.drop (i + 1)) acc1 μ2) (items1.drop j) acc ω6.μ)
      ⟨ω5, acc, us, hD5, .refl, s23.trans (s4.trans s5), r5, ra4.step r4.off_of s5, q5⟩ ?_ ?_ ?_
    · rintro j H6 hj ⟨ω6, acc6, us6, hD6, sx, s16, r6, ra6, f6⟩
      exact (wS1 (fun p => p = Dl) _ ω6 H6 hO1 hA1 r6 sx (lcI_ok f6)).1
    · rintro j x1 H6 H7 hj ⟨ω6, acc6, us6, hD6, sx, s16, r6, ra6, f6⟩ y1
      obtain ⟨v1, hv1, s7, r7, rv1⟩ := (wS1 (fun p => p = Dl) _ ω6 H6 hO1 hA1 r6 sx (lcI_ok f6)).2 j x1 H7 hj y1
      have hD7 : H7 Dl = some (.lst us6) := (s7.h Dl _ hD6 (fun _ z => by cases z) (r6.avA (.inr rfl))).1
      rw [List.drop_eq_getElem_cons hj] at f6
      have hv1' : items1[j] = v1 := by rw [List.getElem?_eq_getElem hj] at hv1; exact Option.some.inj hv1
      rw [hv1'] at f6
      obtain ⟨_, hlim, f7⟩ := f6
      split at f7
      rotate_left
      · exact f7.elim
      rename_i σ4 hq1
      have aw1 : At F (fun p => AO A0 σ σv p ∨ p = Dl) ω6 H7 (wipeM σ3 is1) (wipe σv3 is1) := At.innerX is1 a5 hO1 hA1 (sx.thn s7) r7
      have af1 : AtF F ⟨fun p => AO A0 σ σv p ∨ p = Dl, fun _ => False, ω6, H7⟩ ω6 H7 (wipeM σ3 is1) (wipe σv3 is1) := ⟨aw1, .refl, fun j p hj hp => absurd hj mine_wipe⟩
      have rv1' : RelV F (AO (fun p => AO A0 σ σv p ∨ p = Dl) (wipeM σ3 is1) (wipe σv3 is1)) ω6 H7 v1 x1 := rv1.av fun p z => .inl (ao_wipe z)
      refine ht1 K x1 σv3 H7 _ (Tg.ok hK t1 af1 rv1' hq1 fun σv4 a7 sub1 => ?_)
      have ra7 := ra6.step r6.off_of s7
      refine deT (ta := mYes) (Em := fun _ _ => False) (Qm := fun b μ => b = true ∧ me σ4 μ (fun y μ1 => lcI t1 me ok1 (wipeM σ3 is1) (fun acc1 μ2 => lcL2 t mI1 t1 is1 me ok (wipeM σ is) Qm (items.drop (i + 1)) acc1 μ2) (items1.drop (j + 1)) (acc6 ++ [y]) μ1) (fun _ _ => False)) a7.toAt ⟨rfl, f7⟩ (fun _ _ _ _ _ z => z.elim) fun b ω8 H8 q8 s8 a8 => ?_
      obtain ⟨rfl, q8⟩ := q8
      have r8 : Rel F (fun p => AO A0 σ σv p ∨ p = Dl) ω8 H8 := a8.rel.less AO.sub
      have ra8 := ra7.step r7.off_of s8
      have hD8 : H8 Dl = some (.lst us6) := (s8.h Dl _ hD7 (fun _ z => by cases z) (r7.avA (.inr rfl))).1
      refine iteT (deE a8 q8 (fun _ _ _ _ _ z => z.elim) fun y ω9 H9 u q9 s9 a9 r9v => ?_)
      have r9 : Rel F (fun p => AO A0 σ σv p ∨ p = Dl) ω9 H9 := a9.rel.less AO.sub
      have hD9 : H9 Dl = some (.lst us6) := (s9.h Dl _ hD8 (fun _ z => by cases z) (r8.avA (.inr rfl))).1
      have ra9 := (ra8.step r8.off_of s9).app (.one (r9v.av fun p z => .inl (AO.sub p z)))
      exact ⟨us6, hD9, by rw [ra6.len]; exact lim_lt hlim, ω9, acc6 ++ [y], us6 ++ [u], upd_same, (sx.thn (s7.trans (s8.trans s9))).chg rfl, (s16.trans (s7.trans (s8.trans s9))).chg hD, r9.chg hD9, ra9.chg hD9, q9⟩
    · rintro H6 ⟨ω6, acc6, us6, hD6, sx, s16, r6, ra6, f6⟩
      rw [List.drop_length] at f6
      exact ⟨ω6, acc6, us6, hD6, s16, r6, ra6, f6.2⟩, kx⟩
theorem ILc2 {is is1 : List Nat} (hK : X.K = F.K) (h : PE X e (tLc2 (denI F W mI) (t.g X.K) (denT F W0 mYes) (denI F W0 mI1) (t1.g X.K) (denT F W0 mYes) (denE F W0 me) is is1)) (hi : t.inn is = true := by decide) (hi1 : t1.inn is1 = true := by decide) : IL X F W e (lComp2 mI t is mI1 t1 is1 me) := h.imp fun _ _ _ q => lc2_imp hK (Tg.wiped hi) (Tg.wiped hi1) q
end
end MW

namespace MW
open PySem PySem.Spec PyProof.Rows L2 Evl SX HW
/-! ### text.replace(..).replace(..).replace(..) -/
def rp1 (c : Nat) (z : List Nat) : List Nat → List Nat
  | [] => []
  | d :: l => if d = c then z ++ rp1 c z l else d :: rp1 c z l
theorem replL_one {c : Nat} {z : List Nat} : ∀ l : List Nat, StrLaws.replL [c] z l = rp1 c z l
  | [] => StrLaws.replL_nil
  | d :: l => by
    rw [rp1]
    by_cases h : d = c
    · subst h
      rw [if_pos rfl, StrLaws.replL_hit (by simp) (by simp)]
      show z ++ StrLaws.replL [d] z l = _
      rw [replL_one l]
    · rw [if_neg h, StrLaws.replL_miss (by simpa using h), replL_one l]
theorem rp1_app {c : Nat} {z : List Nat} : ∀ a b : List Nat, rp1 c z (a ++ b) = rp1 c z a ++ rp1 c z b
  | [], _ => rfl
  | d :: a, b => by
    rw [List.cons_append, rp1, rp1, rp1_app a b]
    split
    · rw [List.append_assoc]
    · rfl
def qt1 (c : Nat) : List Nat := if c = 126 then [126, 126] else if c = 32 then [126, 95] else if c = 10 then [126, 47] else [c]
def qts (l : List Nat) : List Nat := l.flatMap qt1
def qtS (l : List Nat) : List Nat := if l = [] then [126, 46] else qts l
theorem rp_qts : ∀ l : List Nat, rp1 10 [126, 47] (rp1 32 [126, 95] (rp1 126 [126, 126] l)) = qts l
  | [] => rfl
  | c :: l => by
    have h := rp_qts l
    unfold qts at h ⊢
    rw [List.flatMap_cons, ← h, rp1]
    unfold qt1
    by_cases h1 : c = 126
    · rw [if_pos h1, if_pos h1, rp1_app, rp1_app]; rfl
    · rw [if_neg h1, if_neg h1, rp1]
      by_cases h2 : c = 32
      · rw [if_pos h2, if_pos h2, rp1_app]; rfl
      · rw [if_neg h2, if_neg h2, rp1]
        by_cases h3 : c = 10
        · rw [if_pos h3, if_pos h3]
        · rw [if_neg h3, if_neg h3]; rfl
theorem rp1_len {c : Nat} {z : List Nat} (hz : z.length = 2) : ∀ l : List Nat, (rp1 c z l).length ≤ 2 * l.length
  | [] => Nat.le_refl _
  | d :: l => by
    have := rp1_len (c := c) hz l
    rw [rp1]
    split
    · rw [List.length_append, List.length_cons]; omega
    · rw [List.length_cons, List.length_cons]; omega
theorem qts_ok {l : List Nat} (h : SOk l) (hl : l.length ≤ 1000) : SOk (qts l) ∧ (qts l).length ≤ 2 * l.length := by
  have hlen : ∀ l : List Nat, (qts l).length ≤ 2 * l.length := by
    intro l
    induction l with
    | nil => exact Nat.le_refl _
    | cons c l ih =>
      unfold qts at ih ⊢
      rw [List.flatMap_cons, List.length_append, List.length_cons]
      have : (qt1 c).length ≤ 2 := by
        unfold qt1
        repeat' split
        all_goals simp
      omega
  refine ⟨⟨Nat.le_trans (hlen l) (by unfold strLim; omega), List.all_eq_true.mpr fun c hc => ?_⟩, hlen l⟩
  unfold qts at hc
  obtain ⟨d, hd, hc⟩ := List.mem_flatMap.mp hc
  have hd' := of_decide_eq_true (List.all_eq_true.mp h.2 d hd)
  unfold qt1 at hc
  refine decide_eq_true ?_
  split at hc
  · simp at hc; omega
  · split at hc
    · simp at hc; omega
    · split at hc
      · simp at hc; omega
      · simp at hc; omega
theorem replace_S {c : Nat} {z l : List Nat} : Txt.replace (S l) (S [c]) (S z) = S (rp1 c z l) := by
  have h := StrLaws.replace_list (x := S l) (y := S [c]) (z := S z) (by rw [S_len]; exact Nat.le_refl 1)
  have e1 : ∀ q : List Nat, (S q).cps.toList = q := fun q => by simp [S]
  rw [e1, e1, e1, replL_one] at h
  rw [← h, S_tl]
def G_written_text : FnM := fun vs μ Q _ => match vs with
  | [.str l] => l.length ≤ 1000 ∧ Q (.str (qtS l)) μ
  | _ => False
section
variable {P : Program} {w : World} {mg : Str → Option Value} {base : Heap} {F : Cf}
theorem fn_okT {x qual : Str} {st : Stmt} {f : Addr} {fd : FuncData} {N ps : List Str} {k : Nat} {sp : Sp} (Fn : Fun F.K x qual st f fd) (S : FnScope N ps (defScope st)) (hnc : ∀ y ∈ (defScope st).names, y.2 ≠ .cell) (hps : 1 ≤ ps.length) (len : ∀ vs H Q E, sp vs H Q E → vs.length = ps.length)
    (hbody : ∀ (cdv : Value) (A : Around) (outer : List Env) (s : Shared) (H : Hp) (vs : List V) (Q : VK) (E : XK), Room k (A.deeper (envOfC qual (defScope st) s.heap.objs.size f cdv)) → sp vs H Q E →
      ∃ t, PSsT (cxOf (L2.CX P w) P w F.K mg base N qual (defScope st) f cdv A outer s H E) (defBody st) t ∧ t { nx := fun _ H' => Q .non H', rt := Q } (start N vs) H) : FnOk P w F.K mg base (L2.CX P w) (k + 1) f fd ps sp := by
  obtain ⟨oc, od, kV, doc, pm, an, cdv, ct, osl, rfl, lk, hcd⟩ := Fn.ex
  exact fn_ofT lk hcd S hnc hps len fun A outer s H vs Q E hr hsp => hbody cdv A outer s H vs Q E hr hsp
theorem wt_reads {us : List V} {H : Hp} {Q : VK} {E : XK} {W : WX} {D : Ends} (hrt : D.rt = Q) (h : spM F 1 G_written_text us H Q E) :
    tSeq (tIfS (denT F W (mB (mOp oEq (mVar 0) (mC (.str []))))) (tSeq (tRet (tC (.str (S [126, 46])))) tNext) tNext) (tSeq (tRet (CwR.tReplC (CwR.tReplC (CwR.tReplC (tVar 0) "~" "~~") " " "~_") "\n" "~/")) tNext) D (start ["text"] us) H := by
  obtain ⟨hl, A', ω, args, Qm, Em, r, rv, hf, k, kx⟩ := h
  unfold G_written_text at hf
  split at hf
  rotate_left
  · exact hf.elim
  rename_i l
  obtain ⟨hl2, hf⟩ := hf
  have a0 := at_start (N := ["text"]) r rv hl (by decide)
  obtain ⟨u, _, rfl, r1, hn⟩ := rvs_cons.mp rv
  obtain rfl := rvs_nil.mp hn
  obtain ⟨rfl, hs⟩ := rv_str.mp r1
  have sok : SOk (qtS l) := by
    unfold qtS
    split
    · exact ⟨by decide, by decide⟩
    · exact (qts_ok hs hl2).1
  refine deT (Em := fun _ _ => False) (Qm := fun b μ => b = decide (l = []) ∧ μ = ω.μ) a0.toAt ?_ (fun _ _ _ _ _ z => z.elim) fun b ω1 H1 q s1 a1 => ?_
  · refine ⟨.str (S l), .str (S []), deep_str l, deep_str [], _, rfl, ?_, rfl⟩
    cases l <;> simp [PyData.eqv, S_beq]
  obtain ⟨rfl, e1⟩ := q
  have r1' := a1.rel.less (A' := A') fun p z => .inl z
  have hf1 : Qm (.str (qtS l)) ω1.μ := by rw [e1]; exact hf
  have fin : Q (.str (S (qtS l))) H1 := k _ ω1 H1 _ hf1 s1 r1' (rv_str.mpr ⟨rfl, sok⟩)
  by_cases hz : l = []
  · rw [decide_eq_true hz]
    refine iteT ?_
    have e : qtS l = [126, 46] := if_pos hz
    rw [e] at fin
    show D.rt _ _
    rw [hrt]
    exact fin
  · rw [decide_eq_false hz]
    refine iteF ?_
    have e : qtS l = qts l := if_neg hz
    rw [e, ← rp_qts] at fin
    have t1 : (("~" : Str)) = S [126] := by decide +kernel
    have t2 : (("~~" : Str)) = S [126, 126] := by decide +kernel
    have t3 : ((" " : Str)) = S [32] := by decide +kernel
    have t4 : (("~_" : Str)) = S [126, 95] := by decide +kernel
    have t5 : (("\n" : Str)) = S [10] := by decide +kernel
    have t6 : (("~/" : Str)) = S [126, 47] := by decide +kernel
    show ∃ v, _ ∧ ∃ x, _
    refine ⟨.str (S l), rfl, S l, rfl, ?_, _, rfl, ?_, _, rfl, ?_, ?_⟩
    all_goals simp only [t1, t2, t3, t4, t5, t6, replace_S, S_len, List.length_cons, List.length_nil]
    · omega
    · have := rp1_len (c := 126) (z := [126, 126]) rfl l
      omega
    · have := rp1_len (c := 126) (z := [126, 126]) rfl l
      have := rp1_len (c := 32) (z := [126, 95]) rfl (rp1 126 [126, 126] l)
      omega
    show D.rt _ _
    rw [hrt]
    exact fin
end
end MW
namespace MW
theorem tb_STEP_FORMS_ok : ∀ p ∈ tb_STEP_FORMS, SOk p.2 := by unfold tb_STEP_FORMS SOk strLim; decide
theorem tb_ASK_FORMS_ok : ∀ p ∈ tb_ASK_FORMS, SOk p.2 := by unfold tb_ASK_FORMS SOk strLim; decide
theorem tb_SIGNS_ok : ∀ p ∈ tb_SIGNS, SOk p.2 := by unfold tb_SIGNS SOk strLim; decide
end MW
namespace MW
open PySem PySem.Spec PyProof.Rows L2 Evl SX HW
section
variable {X : Cx} {F : Cf} {W : WX} {me : ME} {e : Expr} {st : Stmt}
/-- x += e, texts -/
def sAugT (i : Nat) (m : ME) : MS := fun D σ μ E => match σ[i]? with
  | some (.val v) => m σ μ (fun w μ1 => match v, w with
    | .str a, .str b => a.length + b.length ≤ strLim ∧ D.nx (σ.set i (.val (.str (a ++ b)))) μ1
    | _, _ => False) E
  | _ => False
theorem is_augT {i : Nat} (h : PS X st (tAug i (denE F W me) (fun x y H Q => ∃ i j, x = .str i ∧ y = .str j ∧ i.length + j.length ≤ sizeLine ∧ Q (.str (i ++ j)) H))) : IS X F W st (sAugT i me) := h.imp fun D σv H ⟨fe, ω, σ, Dm, Em, a0, h, kn, kr, kx⟩ => by
  unfold sAugT at h
  split at h
  rotate_left
  · exact h.elim
  rename_i v hq
  obtain ⟨u, h1, h2⟩ := a0.toAt.val hq
  refine ⟨u, h1, deE a0.toAt h (kx.ex a0) fun w ω1 H1 z q1 s1 a1 r1 => ?_⟩
  split at q1
  · rename_i a b
    obtain ⟨hl, q1⟩ := q1
    obtain ⟨rfl, ha⟩ := rv_str.mp h2
    obtain ⟨rfl, hb⟩ := rv_str.mp r1
    refine ⟨S a, S b, rfl, rfl, by rw [S_len, S_len]; exact Nat.le_trans hl (by unfold strLim; decide), ?_⟩
    rw [S_app]
    exact kn _ _ ω1 H1 q1 ((a0.step s1 a1).set rfl ⟨_, rfl, rv_str.mpr ⟨rfl, ha.app hb hl⟩⟩)
  · exact q1.elim
end
end MW

set_option Elab.async false
set_option linter.all false
set_option maxRecDepth 100000
namespace MW
open PySem PySem.Spec PyProof.Rows L2 Evl SX HW
/-! ### try: return E, except WireError as e: return ("BadText", e.row) if isinstance(e, BadText) else "other" -/
def sTryT (b : MS) : MS := fun D σ μ E => b D σ μ fun x μ' => x.c = .BadText ∧ match x.f with
  | some (.row, n) => D.rt (.tup [.str [66, 97, 100, 84, 101, 120, 116], .int n]) μ'
  | _ => False
section
variable {X : Cx} {F : Cf} {W : WX} {st : Stmt} {mb : MS} {CW : Addr}
/-! ### list(range(n)) -/
def lLRg (m : ME) : MA := fun σ μ Q E => m σ μ (fun v μ1 => match v with
  | .int n => n ≤ lim ∧ -(lim : Int) ≤ n ∧ Q (rng 0 n) μ1
  | _ => False) E
end
end MW

set_option Elab.async false
set_option linter.all false
set_option maxRecDepth 100000
namespace MW
open PySem PySem.Spec PyProof.Rows L2 Evl SX HW
/-! ### x in l, l.index(x), of items of any depth -/
def oInD : O2 := fun x y μ Q => ∃ d ds, deep μ 60 x = some d ∧ deep μ 60 y = some (.list ds) ∧ Q (.bl (ds.any fun z => PyData.eqv z d)) μ
section
variable {X : Cx} {F : Cf} {W : WX} {e : Expr} {mo my : ME}
theorem os_inD : OpS F (rInD F.K) oInD := fun A ω H x y u w Qm Q r rx ry h k => by
  obtain ⟨d, ds, h1, h2, q⟩ := h
  obtain ⟨k1, k2, k3⟩ := deep_rel r rx h1
  obtain ⟨l1, l2, l3⟩ := deep_rel r ry h2
  exact ⟨d, ds, k1, l1, shaped_of k2 k3 (by decide), shaped_of l2 l3 (by decide), k _ ω H _ q .refl r (rv_bl.mpr rfl)⟩
theorem hu65 {A : Around} {k : Nat} (hr : Room k A) : A.units + 65 < cLine := by have := hr.un; omega
def mIndexD (mo my : ME) : ME := fun σ μ Q E => mo σ μ (fun x μ1 => (seqL μ1 x).isSome = true ∧ my σ μ1 (fun y μ2 => ∃ d ds j z, deep μ2 60 x = some (.list ds) ∧ deep μ2 60 y = some d ∧ ds[j]? = some z ∧ PyData.eqv z d = true ∧ (∀ (m : Nat) (z' : PyData), m < j → ds[m]? = some z' → PyData.eqv z' d = false) ∧ Q (.int (j : Nat)) μ2) E) E
theorem ie_indexD (h : PE X e (tBM F.K "list" (rIndexD F.K) (denE F W mo) (tCons (denE F W my) tNil))) : IE X F W e (mIndexD mo my) := h.imp fun σv H Q ⟨A0, ω, σ, Qm, Em, a0, h, k, kx⟩ => deE a0 h kx fun x ω1 H1 u q1 s1 a1 r1 => by
  obtain ⟨⟨vs, hq⟩, q1⟩ := And.intro (Option.isSome_iff_exists.mp q1.1) q1.2
  obtain ⟨p, ws, rfl, h2, h3⟩ := seqL_rel a1.rel r1 hq
  refine ⟨.inl ⟨rfl, ws, sq_of h2⟩, deE a1 q1 (kx.step s1) fun y ω2 H2 w q2 s2 a2 r2 => ?_⟩
  obtain ⟨d, ds, j, z, d1, d2, hz, he, hn, q2⟩ := q2
  obtain ⟨k1, k2, k3⟩ := deep_rel a2.rel (r1.step a1.rel.off_of s2) d1
  obtain ⟨l1, l2, l3⟩ := deep_rel a2.rel r2 d2
  exact ⟨p, w, d, ds, j, z, rfl, rfl, k1, l1, shaped_of k2 k3 (by decide), shaped_of l2 l3 (by decide), hz, he, hn, k _ ω2 H2 _ q2 (s1.trans s2) a2 (rv_int.mpr rfl)⟩
theorem oInD_h {x y : Val} {μ : Sto} {Q : QV} : oInD x y μ Q = match deep μ 60 x, deep μ 60 y with
  | some d, some (.list ds) => Q (.bl (ds.any fun z => PyData.eqv z d)) μ
  | _, _ => False := by
  unfold oInD
  cases deep μ 60 x with
  | none => simp
  | some d =>
    cases deep μ 60 y with
    | none => simp
    | some e => cases e <;> simp
end
end MW

set_option Elab.async false
set_option linter.all false
set_option maxRecDepth 100000
namespace MW
open PySem PySem.Spec PyProof.Rows L2 Evl SX HW
local macro_rules
  | `(tactic| simp [zEV]) => `(tactic| simp [fnM, sNil, sSeq, sPass, sExpr, sRet, sRetN, sIf, sAsg, sPar, sOwn, sFrz, sRaise, sRaiseN, MW.sFld, sFldA, MW.sDput, MW.sDdel, sOwnApp, sOwnSet, sSetIx, sTry, sAug, mVar, mC, mOp, mB, mCh, mUn, oNeg, mNotT, mAndT, mOrT, mAnd, mOr, mNot, mIfE, aNil, aCons, mTup, lDsp, mFrz, mNew, mFld, mDin, mDGet1, mDGet2, mDPop1, mDPop2, mLm, mLm0, gAppend, gExtend, gClear, gPop0, mSm, lSm, gCount, gRfind, gSplit, gJoin, mCall, ck, mMeth, mMake, mCB, oLen, lenV, mTru, truth, mSl, oSl, lSlc, lSl, pNone, pSome, lAdd, lMul, oIx, oDGet, oDGet1, oAdd, oMul, oSub, oInt, oMod, oDiv, oPow, oLt, oLe, oGt, oGe, oEq, oNe, deep_non, deep_bl, deep_int, deep_str, deep_tup, deep_lst, deeps_nil, deeps_cons, oIsN, oNotN, isNon, oIn, flatSc, inSc, eqSc, mt_nm, mt_tp, mts_nil, mts_cons, mIsi, isTn, tyN, mIsiS, lCal, lList, lSorted, lSortedD, seqL, seqD, seqI, seqA, refL, kyOf, isDct, getF, setF, dGet, Cl.flds, isO, isX, catOf, mYes, mDNew, mRevS, mOwnIx, mOwnLen, oAll, oSum, o1L, oMin2, oInt1, oTuple, intsOf, blsOf, strsOf, put_same, new_same, Slot.mine, atI, ixN, PyData.eqv, PyData.eqvAll, S_beq, lt_one, le_one, plain_tup, plain_lst, plains_nil, plains_cons, plain_int, plain_str, plain_bl, plain_non, sPar3, sParP, sOwnPPut, sFrzP, mDinP, oTAdd, gPop, mDisp, mPairs, mDUpd, sLock, seqF, oDGetF, mDict1, oDict1, lSortIt, lRev, mDComp, mDictL, oDictL, oTAddA, oTMul, mTGet, mTIn, mTIx, sAugT, aStar, sTryT, lLRg, mIndexD, oStr1, oInD_h])
  | `(tactic| simp [zEV, $xs,*]) => `(tactic| simp [fnM, sNil, sSeq, sPass, sExpr, sRet, sRetN, sIf, sAsg, sPar, sOwn, sFrz, sRaise, sRaiseN, MW.sFld, sFldA, MW.sDput, MW.sDdel, sOwnApp, sOwnSet, sSetIx, sTry, sAug, mVar, mC, mOp, mB, mCh, mUn, oNeg, mNotT, mAndT, mOrT, mAnd, mOr, mNot, mIfE, aNil, aCons, mTup, lDsp, mFrz, mNew, mFld, mDin, mDGet1, mDGet2, mDPop1, mDPop2, mLm, mLm0, gAppend, gExtend, gClear, gPop0, mSm, lSm, gCount, gRfind, gSplit, gJoin, mCall, ck, mMeth, mMake, mCB, oLen, lenV, mTru, truth, mSl, oSl, lSlc, lSl, pNone, pSome, lAdd, lMul, oIx, oDGet, oDGet1, oAdd, oMul, oSub, oInt, oMod, oDiv, oPow, oLt, oLe, oGt, oGe, oEq, oNe, deep_non, deep_bl, deep_int, deep_str, deep_tup, deep_lst, deeps_nil, deeps_cons, oIsN, oNotN, isNon, oIn, flatSc, inSc, eqSc, mt_nm, mt_tp, mts_nil, mts_cons, mIsi, isTn, tyN, mIsiS, lCal, lList, lSorted, lSortedD, seqL, seqD, seqI, seqA, refL, kyOf, isDct, getF, setF, dGet, Cl.flds, isO, isX, catOf, mYes, mDNew, mRevS, mOwnIx, mOwnLen, oAll, oSum, o1L, oMin2, oInt1, oTuple, intsOf, blsOf, strsOf, put_same, new_same, Slot.mine, atI, ixN, PyData.eqv, PyData.eqvAll, S_beq, lt_one, le_one, plain_tup, plain_lst, plains_nil, plains_cons, plain_int, plain_str, plain_bl, plain_non, sPar3, sParP, sOwnPPut, sFrzP, mDinP, oTAdd, gPop, mDisp, mPairs, mDUpd, sLock, seqF, oDGetF, mDict1, oDict1, lSortIt, lRev, mDComp, mDictL, oDictL, oTAddA, oTMul, mTGet, mTIn, mTIx, sAugT, aStar, sTryT, lLRg, mIndexD, oStr1, oInD_h, $xs,*])
  | `(tactic| simp [zEV, $xs,*] $loc:location) => `(tactic| simp [fnM, sNil, sSeq, sPass, sExpr, sRet, sRetN, sIf, sAsg, sPar, sOwn, sFrz, sRaise, sRaiseN, MW.sFld, sFldA, MW.sDput, MW.sDdel, sOwnApp, sOwnSet, sSetIx, sTry, sAug, mVar, mC, mOp, mB, mCh, mUn, oNeg, mNotT, mAndT, mOrT, mAnd, mOr, mNot, mIfE, aNil, aCons, mTup, lDsp, mFrz, mNew, mFld, mDin, mDGet1, mDGet2, mDPop1, mDPop2, mLm, mLm0, gAppend, gExtend, gClear, gPop0, mSm, lSm, gCount, gRfind, gSplit, gJoin, mCall, ck, mMeth, mMake, mCB, oLen, lenV, mTru, truth, mSl, oSl, lSlc, lSl, pNone, pSome, lAdd, lMul, oIx, oDGet, oDGet1, oAdd, oMul, oSub, oInt, oMod, oDiv, oPow, oLt, oLe, oGt, oGe, oEq, oNe, deep_non, deep_bl, deep_int, deep_str, deep_tup, deep_lst, deeps_nil, deeps_cons, oIsN, oNotN, isNon, oIn, flatSc, inSc, eqSc, mt_nm, mt_tp, mts_nil, mts_cons, mIsi, isTn, tyN, mIsiS, lCal, lList, lSorted, lSortedD, seqL, seqD, seqI, seqA, refL, kyOf, isDct, getF, setF, dGet, Cl.flds, isO, isX, catOf, mYes, mDNew, mRevS, mOwnIx, mOwnLen, oAll, oSum, o1L, oMin2, oInt1, oTuple, intsOf, blsOf, strsOf, put_same, new_same, Slot.mine, atI, ixN, PyData.eqv, PyData.eqvAll, S_beq, lt_one, le_one, plain_tup, plain_lst, plains_nil, plains_cons, plain_int, plain_str, plain_bl, plain_non, sPar3, sParP, sOwnPPut, sFrzP, mDinP, oTAdd, gPop, mDisp, mPairs, mDUpd, sLock, seqF, oDGetF, mDict1, oDict1, lSortIt, lRev, mDComp, mDictL, oDictL, oTAddA, oTMul, mTGet, mTIn, mTIx, sAugT, aStar, sTryT, lLRg, mIndexD, oStr1, oInD_h, $xs,*] $loc:location)
local macro_rules
  | `(tactic| simp [zEW]) => `(tactic| simp [↓fnM.eq_1, ↓sNil.eq_1, ↓sSeq.eq_1, ↓sPass.eq_1, ↓sExpr.eq_1, ↓sRet.eq_1, ↓sRetN.eq_1, ↓sIf.eq_1, ↓sAsg.eq_1, ↓sPar.eq_1, ↓sOwn.eq_1, ↓sFrz.eq_1, ↓sRaise.eq_1, ↓sRaiseN.eq_1, ↓MW.sFld.eq_1, ↓sFldA.eq_1, ↓MW.sDput.eq_1, ↓MW.sDdel.eq_1, ↓sOwnApp.eq_1, ↓sOwnSet.eq_1, ↓sSetIx.eq_1, ↓sTry.eq_1, ↓sAug.eq_1, ↓mVar.eq_1, ↓mC.eq_1, ↓mOp.eq_1, ↓mB.eq_1, ↓mCh.eq_1, ↓mUn.eq_1, oNeg, ↓mNotT.eq_1, ↓mAndT.eq_1, ↓mOrT.eq_1, ↓mAnd.eq_1, ↓mOr.eq_1, ↓mNot.eq_1, ↓mIfE.eq_1, ↓aNil.eq_1, ↓aCons.eq_1, ↓mTup.eq_1, ↓lDsp.eq_1, ↓mFrz.eq_1, ↓mNew.eq_1, ↓mFld.eq_1, ↓mDin.eq_1, ↓mDGet1.eq_1, ↓mDGet2.eq_1, ↓mDPop1.eq_1, ↓mDPop2.eq_1, ↓mLm.eq_1, ↓mLm0.eq_1, gAppend, gExtend, gClear, gPop0, ↓mSm.eq_1, ↓lSm.eq_1, gCount, gRfind, gSplit, gJoin, ↓mCall.eq_1, ↓ck.eq_1, ↓mMeth.eq_1, ↓mMake.eq_1, ↓mCB.eq_1, oLen, lenV, ↓mTru.eq_1, truth, ↓mSl.eq_1, oSl, ↓lSlc.eq_1, lSl, ↓pNone.eq_1, ↓pSome.eq_1, ↓lAdd.eq_1, ↓lMul.eq_1, oIx, oDGet, oDGet1, oAdd, oMul, oSub, oInt, oMod, oDiv, oPow, oLt, oLe, oGt, oGe, oEq, oNe, deep_non, deep_bl, deep_int, deep_str, deep_tup, deep_lst, deeps_nil, deeps_cons, oIsN, oNotN, isNon, oIn, flatSc, inSc, eqSc, mt_nm, mt_tp, mts_nil, mts_cons, ↓mIsi.eq_1, isTn, tyN, ↓mIsiS.eq_1, ↓lCal.eq_1, ↓lList.eq_1, ↓lSorted.eq_1, ↓lSortedD.eq_1, seqL, seqD, seqI, seqA, refL, kyOf, isDct, getF, setF, dGet, Cl.flds, isO, isX, catOf, ↓mYes.eq_1, ↓mDNew.eq_1, ↓mRevS.eq_1, ↓mOwnIx.eq_1, ↓mOwnLen.eq_1, oAll, oSum, o1L, oMin2, oInt1, oTuple, intsOf, blsOf, strsOf, put_same, new_same, Slot.mine, atI, ixN, PyData.eqv, PyData.eqvAll, S_beq, lt_one, le_one, plain_tup, plain_lst, plains_nil, plains_cons, plain_int, plain_str, plain_bl, plain_non, ↓sPar3.eq_1, ↓sParP.eq_1, ↓sOwnPPut.eq_1, ↓sFrzP.eq_1, ↓mDinP.eq_1, oTAdd, gPop, ↓mDisp.eq_1, mPairs, ↓mDUpd.eq_1, ↓sLock.eq_1, seqF, oDGetF, ↓mDict1.eq_1, oDict1, ↓lSortIt.eq_1, ↓lRev.eq_1, ↓mDComp.eq_1, mDictL, oDictL, oTAddA, oTMul, ↓mTGet.eq_1, ↓mTIn.eq_1, ↓mTIx.eq_1, ↓sAugT.eq_1, ↓aStar.eq_1, ↓sTryT.eq_1, ↓lLRg.eq_1, ↓mIndexD.eq_1, oStr1, oInD_h])
  | `(tactic| simp [zEW, $xs,*]) => `(tactic| simp [↓fnM.eq_1, ↓sNil.eq_1, ↓sSeq.eq_1, ↓sPass.eq_1, ↓sExpr.eq_1, ↓sRet.eq_1, ↓sRetN.eq_1, ↓sIf.eq_1, ↓sAsg.eq_1, ↓sPar.eq_1, ↓sOwn.eq_1, ↓sFrz.eq_1, ↓sRaise.eq_1, ↓sRaiseN.eq_1, ↓MW.sFld.eq_1, ↓sFldA.eq_1, ↓MW.sDput.eq_1, ↓MW.sDdel.eq_1, ↓sOwnApp.eq_1, ↓sOwnSet.eq_1, ↓sSetIx.eq_1, ↓sTry.eq_1, ↓sAug.eq_1, ↓mVar.eq_1, ↓mC.eq_1, ↓mOp.eq_1, ↓mB.eq_1, ↓mCh.eq_1, ↓mUn.eq_1, oNeg, ↓mNotT.eq_1, ↓mAndT.eq_1, ↓mOrT.eq_1, ↓mAnd.eq_1, ↓mOr.eq_1, ↓mNot.eq_1, ↓mIfE.eq_1, ↓aNil.eq_1, ↓aCons.eq_1, ↓mTup.eq_1, ↓lDsp.eq_1, ↓mFrz.eq_1, ↓mNew.eq_1, ↓mFld.eq_1, ↓mDin.eq_1, ↓mDGet1.eq_1, ↓mDGet2.eq_1, ↓mDPop1.eq_1, ↓mDPop2.eq_1, ↓mLm.eq_1, ↓mLm0.eq_1, gAppend, gExtend, gClear, gPop0, ↓mSm.eq_1, ↓lSm.eq_1, gCount, gRfind, gSplit, gJoin, ↓mCall.eq_1, ↓ck.eq_1, ↓mMeth.eq_1, ↓mMake.eq_1, ↓mCB.eq_1, oLen, lenV, ↓mTru.eq_1, truth, ↓mSl.eq_1, oSl, ↓lSlc.eq_1, lSl, ↓pNone.eq_1, ↓pSome.eq_1, ↓lAdd.eq_1, ↓lMul.eq_1, oIx, oDGet, oDGet1, oAdd, oMul, oSub, oInt, oMod, oDiv, oPow, oLt, oLe, oGt, oGe, oEq, oNe, deep_non, deep_bl, deep_int, deep_str, deep_tup, deep_lst, deeps_nil, deeps_cons, oIsN, oNotN, isNon, oIn, flatSc, inSc, eqSc, mt_nm, mt_tp, mts_nil, mts_cons, ↓mIsi.eq_1, isTn, tyN, ↓mIsiS.eq_1, ↓lCal.eq_1, ↓lList.eq_1, ↓lSorted.eq_1, ↓lSortedD.eq_1, seqL, seqD, seqI, seqA, refL, kyOf, isDct, getF, setF, dGet, Cl.flds, isO, isX, catOf, ↓mYes.eq_1, ↓mDNew.eq_1, ↓mRevS.eq_1, ↓mOwnIx.eq_1, ↓mOwnLen.eq_1, oAll, oSum, o1L, oMin2, oInt1, oTuple, intsOf, blsOf, strsOf, put_same, new_same, Slot.mine, atI, ixN, PyData.eqv, PyData.eqvAll, S_beq, lt_one, le_one, plain_tup, plain_lst, plains_nil, plains_cons, plain_int, plain_str, plain_bl, plain_non, ↓sPar3.eq_1, ↓sParP.eq_1, ↓sOwnPPut.eq_1, ↓sFrzP.eq_1, ↓mDinP.eq_1, oTAdd, gPop, ↓mDisp.eq_1, mPairs, ↓mDUpd.eq_1, ↓sLock.eq_1, seqF, oDGetF, ↓mDict1.eq_1, oDict1, ↓lSortIt.eq_1, ↓lRev.eq_1, ↓mDComp.eq_1, mDictL, oDictL, oTAddA, oTMul, ↓mTGet.eq_1, ↓mTIn.eq_1, ↓mTIx.eq_1, ↓sAugT.eq_1, ↓aStar.eq_1, ↓sTryT.eq_1, ↓lLRg.eq_1, ↓mIndexD.eq_1, oStr1, oInD_h, $xs,*])
  | `(tactic| simp [zEW, $xs,*] $loc:location) => `(tactic| simp [↓fnM.eq_1, ↓sNil.eq_1, ↓sSeq.eq_1, ↓sPass.eq_1, ↓sExpr.eq_1, ↓sRet.eq_1, ↓sRetN.eq_1, ↓sIf.eq_1, ↓sAsg.eq_1, ↓sPar.eq_1, ↓sOwn.eq_1, ↓sFrz.eq_1, ↓sRaise.eq_1, ↓sRaiseN.eq_1, ↓MW.sFld.eq_1, ↓sFldA.eq_1, ↓MW.sDput.eq_1, ↓MW.sDdel.eq_1, ↓sOwnApp.eq_1, ↓sOwnSet.eq_1, ↓sSetIx.eq_1, ↓sTry.eq_1, ↓sAug.eq_1, ↓mVar.eq_1, ↓mC.eq_1, ↓mOp.eq_1, ↓mB.eq_1, ↓mCh.eq_1, ↓mUn.eq_1, oNeg, ↓mNotT.eq_1, ↓mAndT.eq_1, ↓mOrT.eq_1, ↓mAnd.eq_1, ↓mOr.eq_1, ↓mNot.eq_1, ↓mIfE.eq_1, ↓aNil.eq_1, ↓aCons.eq_1, ↓mTup.eq_1, ↓lDsp.eq_1, ↓mFrz.eq_1, ↓mNew.eq_1, ↓mFld.eq_1, ↓mDin.eq_1, ↓mDGet1.eq_1, ↓mDGet2.eq_1, ↓mDPop1.eq_1, ↓mDPop2.eq_1, ↓mLm.eq_1, ↓mLm0.eq_1, gAppend, gExtend, gClear, gPop0, ↓mSm.eq_1, ↓lSm.eq_1, gCount, gRfind, gSplit, gJoin, ↓mCall.eq_1, ↓ck.eq_1, ↓mMeth.eq_1, ↓mMake.eq_1, ↓mCB.eq_1, oLen, lenV, ↓mTru.eq_1, truth, ↓mSl.eq_1, oSl, ↓lSlc.eq_1, lSl, ↓pNone.eq_1, ↓pSome.eq_1, ↓lAdd.eq_1, ↓lMul.eq_1, oIx, oDGet, oDGet1, oAdd, oMul, oSub, oInt, oMod, oDiv, oPow, oLt, oLe, oGt, oGe, oEq, oNe, deep_non, deep_bl, deep_int, deep_str, deep_tup, deep_lst, deeps_nil, deeps_cons, oIsN, oNotN, isNon, oIn, flatSc, inSc, eqSc, mt_nm, mt_tp, mts_nil, mts_cons, ↓mIsi.eq_1, isTn, tyN, ↓mIsiS.eq_1, ↓lCal.eq_1, ↓lList.eq_1, ↓lSorted.eq_1, ↓lSortedD.eq_1, seqL, seqD, seqI, seqA, refL, kyOf, isDct, getF, setF, dGet, Cl.flds, isO, isX, catOf, ↓mYes.eq_1, ↓mDNew.eq_1, ↓mRevS.eq_1, ↓mOwnIx.eq_1, ↓mOwnLen.eq_1, oAll, oSum, o1L, oMin2, oInt1, oTuple, intsOf, blsOf, strsOf, put_same, new_same, Slot.mine, atI, ixN, PyData.eqv, PyData.eqvAll, S_beq, lt_one, le_one, plain_tup, plain_lst, plains_nil, plains_cons, plain_int, plain_str, plain_bl, plain_non, ↓sPar3.eq_1, ↓sParP.eq_1, ↓sOwnPPut.eq_1, ↓sFrzP.eq_1, ↓mDinP.eq_1, oTAdd, gPop, ↓mDisp.eq_1, mPairs, ↓mDUpd.eq_1, ↓sLock.eq_1, seqF, oDGetF, ↓mDict1.eq_1, oDict1, ↓lSortIt.eq_1, ↓lRev.eq_1, ↓mDComp.eq_1, mDictL, oDictL, oTAddA, oTMul, ↓mTGet.eq_1, ↓mTIn.eq_1, ↓mTIx.eq_1, ↓sAugT.eq_1, ↓aStar.eq_1, ↓sTryT.eq_1, ↓lLRg.eq_1, ↓mIndexD.eq_1, oStr1, oInD_h, $xs,*] $loc:location)
local macro_rules
  | `(tactic| simp [zEH]) => `(tactic| simp [↓mCall_h, ↓mMeth_h, ↓mMake_h, ↓mB_h, ↓oEq_h, ↓oNe_h, ↓fnM.eq_1, ↓sNil.eq_1, ↓sSeq.eq_1, ↓sPass.eq_1, ↓sExpr.eq_1, ↓sRet.eq_1, ↓sRetN.eq_1, ↓sIf.eq_1, ↓sAsg.eq_1, ↓sPar.eq_1, ↓sOwn.eq_1, ↓sFrz.eq_1, ↓sRaise.eq_1, ↓sRaiseN.eq_1, ↓MW.sFld.eq_1, ↓sFldA.eq_1, ↓MW.sDput.eq_1, ↓MW.sDdel.eq_1, ↓sOwnApp.eq_1, ↓sOwnSet.eq_1, ↓sSetIx.eq_1, ↓sTry.eq_1, ↓sAug.eq_1, ↓mVar.eq_1, ↓mC.eq_1, ↓mOp.eq_1, ↓mCh.eq_1, ↓mUn.eq_1, oNeg, ↓mNotT.eq_1, ↓mAndT.eq_1, ↓mOrT.eq_1, ↓mAnd.eq_1, ↓mOr.eq_1, ↓mNot.eq_1, ↓mIfE.eq_1, ↓aNil.eq_1, ↓aCons.eq_1, ↓mTup.eq_1, ↓lDsp.eq_1, ↓mFrz.eq_1, ↓mNew.eq_1, ↓mFld.eq_1, ↓mDin.eq_1, ↓mDGet1.eq_1, ↓mDGet2.eq_1, ↓mDPop1.eq_1, ↓mDPop2.eq_1, ↓mLm.eq_1, ↓mLm0.eq_1, gAppend, gExtend, gClear, gPop0, ↓mSm.eq_1, ↓lSm.eq_1, gCount, gRfind, gSplit, gJoin, ↓mCB.eq_1, oLen, lenV, ↓mTru.eq_1, truth, ↓mSl.eq_1, oSl, ↓lSlc.eq_1, lSl, ↓pNone.eq_1, ↓pSome.eq_1, ↓lAdd.eq_1, ↓lMul.eq_1, oIx, oDGet, oDGet1, oAdd, oMul, oSub, oInt, oMod, oDiv, oPow, oLt, oLe, oGt, oGe, deep_non, deep_bl, deep_int, deep_str, deep_tup, deep_lst, deeps_nil, deeps_cons, oIsN, oNotN, isNon, oIn, flatSc, inSc, eqSc, mt_nm, mt_tp, mts_nil, mts_cons, ↓mIsi.eq_1, isTn, tyN, ↓mIsiS.eq_1, ↓lCal.eq_1, ↓lList.eq_1, ↓lSorted.eq_1, ↓lSortedD.eq_1, seqL, seqD, seqI, seqA, refL, kyOf, isDct, getF, setF, dGet, Cl.flds, isO, isX, catOf, ↓mYes.eq_1, ↓mDNew.eq_1, ↓mRevS.eq_1, ↓mOwnIx.eq_1, ↓mOwnLen.eq_1, oAll, oSum, o1L, oMin2, oInt1, oTuple, intsOf, blsOf, strsOf, put_same, new_same, Slot.mine, atI, ixN, PyData.eqv, PyData.eqvAll, S_beq, lt_one, le_one, plain_tup, plain_lst, plains_nil, plains_cons, plain_int, plain_str, plain_bl, plain_non, ↓sPar3.eq_1, ↓sParP.eq_1, ↓sOwnPPut.eq_1, ↓sFrzP.eq_1, ↓mDinP.eq_1, oTAdd, gPop, ↓mDisp.eq_1, mPairs, ↓mDUpd.eq_1, ↓sLock.eq_1, seqF, oDGetF, ↓mDict1.eq_1, oDict1, ↓lSortIt.eq_1, ↓lRev.eq_1, ↓mDComp.eq_1, mDictL, oDictL, oTAddA, oTMul, ↓mTGet.eq_1, ↓mTIn.eq_1, ↓mTIx.eq_1, ↓sAugT.eq_1, ↓aStar.eq_1, ↓sTryT.eq_1, ↓lLRg.eq_1, ↓mIndexD.eq_1, oStr1, oInD_h])
  | `(tactic| simp [zEH, $xs,*]) => `(tactic| simp [↓mCall_h, ↓mMeth_h, ↓mMake_h, ↓mB_h, ↓oEq_h, ↓oNe_h, ↓fnM.eq_1, ↓sNil.eq_1, ↓sSeq.eq_1, ↓sPass.eq_1, ↓sExpr.eq_1, ↓sRet.eq_1, ↓sRetN.eq_1, ↓sIf.eq_1, ↓sAsg.eq_1, ↓sPar.eq_1, ↓sOwn.eq_1, ↓sFrz.eq_1, ↓sRaise.eq_1, ↓sRaiseN.eq_1, ↓MW.sFld.eq_1, ↓sFldA.eq_1, ↓MW.sDput.eq_1, ↓MW.sDdel.eq_1, ↓sOwnApp.eq_1, ↓sOwnSet.eq_1, ↓sSetIx.eq_1, ↓sTry.eq_1, ↓sAug.eq_1, ↓mVar.eq_1, ↓mC.eq_1, ↓mOp.eq_1, ↓mCh.eq_1, ↓mUn.eq_1, oNeg, ↓mNotT.eq_1, ↓mAndT.eq_1, ↓mOrT.eq_1, ↓mAnd.eq_1, ↓mOr.eq_1, ↓mNot.eq_1, ↓mIfE.eq_1, ↓aNil.eq_1, ↓aCons.eq_1, ↓mTup.eq_1, ↓lDsp.eq_1, ↓mFrz.eq_1, ↓mNew.eq_1, ↓mFld.eq_1, ↓mDin.eq_1, ↓mDGet1.eq_1, ↓mDGet2.eq_1, ↓mDPop1.eq_1, ↓mDPop2.eq_1, ↓mLm.eq_1, ↓mLm0.eq_1, gAppend, gExtend, gClear, gPop0, ↓mSm.eq_1, ↓lSm.eq_1, gCount, gRfind, gSplit, gJoin, ↓mCB.eq_1, oLen, lenV, ↓mTru.eq_1, truth, ↓mSl.eq_1, oSl, ↓lSlc.eq_1, lSl, ↓pNone.eq_1, ↓pSome.eq_1, ↓lAdd.eq_1, ↓lMul.eq_1, oIx, oDGet, oDGet1, oAdd, oMul, oSub, oInt, oMod, oDiv, oPow, oLt, oLe, oGt, oGe, deep_non, deep_bl, deep_int, deep_str, deep_tup, deep_lst, deeps_nil, deeps_cons, oIsN, oNotN, isNon, oIn, flatSc, inSc, eqSc, mt_nm, mt_tp, mts_nil, mts_cons, ↓mIsi.eq_1, isTn, tyN, ↓mIsiS.eq_1, ↓lCal.eq_1, ↓lList.eq_1, ↓lSorted.eq_1, ↓lSortedD.eq_1, seqL, seqD, seqI, seqA, refL, kyOf, isDct, getF, setF, dGet, Cl.flds, isO, isX, catOf, ↓mYes.eq_1, ↓mDNew.eq_1, ↓mRevS.eq_1, ↓mOwnIx.eq_1, ↓mOwnLen.eq_1, oAll, oSum, o1L, oMin2, oInt1, oTuple, intsOf, blsOf, strsOf, put_same, new_same, Slot.mine, atI, ixN, PyData.eqv, PyData.eqvAll, S_beq, lt_one, le_one, plain_tup, plain_lst, plains_nil, plains_cons, plain_int, plain_str, plain_bl, plain_non, ↓sPar3.eq_1, ↓sParP.eq_1, ↓sOwnPPut.eq_1, ↓sFrzP.eq_1, ↓mDinP.eq_1, oTAdd, gPop, ↓mDisp.eq_1, mPairs, ↓mDUpd.eq_1, ↓sLock.eq_1, seqF, oDGetF, ↓mDict1.eq_1, oDict1, ↓lSortIt.eq_1, ↓lRev.eq_1, ↓mDComp.eq_1, mDictL, oDictL, oTAddA, oTMul, ↓mTGet.eq_1, ↓mTIn.eq_1, ↓mTIx.eq_1, ↓sAugT.eq_1, ↓aStar.eq_1, ↓sTryT.eq_1, ↓lLRg.eq_1, ↓mIndexD.eq_1, oStr1, oInD_h, $xs,*])
  | `(tactic| simp [zEH, $xs,*] $loc:location) => `(tactic| simp [↓mCall_h, ↓mMeth_h, ↓mMake_h, ↓mB_h, ↓oEq_h, ↓oNe_h, ↓fnM.eq_1, ↓sNil.eq_1, ↓sSeq.eq_1, ↓sPass.eq_1, ↓sExpr.eq_1, ↓sRet.eq_1, ↓sRetN.eq_1, ↓sIf.eq_1, ↓sAsg.eq_1, ↓sPar.eq_1, ↓sOwn.eq_1, ↓sFrz.eq_1, ↓sRaise.eq_1, ↓sRaiseN.eq_1, ↓MW.sFld.eq_1, ↓sFldA.eq_1, ↓MW.sDput.eq_1, ↓MW.sDdel.eq_1, ↓sOwnApp.eq_1, ↓sOwnSet.eq_1, ↓sSetIx.eq_1, ↓sTry.eq_1, ↓sAug.eq_1, ↓mVar.eq_1, ↓mC.eq_1, ↓mOp.eq_1, ↓mCh.eq_1, ↓mUn.eq_1, oNeg, ↓mNotT.eq_1, ↓mAndT.eq_1, ↓mOrT.eq_1, ↓mAnd.eq_1, ↓mOr.eq_1, ↓mNot.eq_1, ↓mIfE.eq_1, ↓aNil.eq_1, ↓aCons.eq_1, ↓mTup.eq_1, ↓lDsp.eq_1, ↓mFrz.eq_1, ↓mNew.eq_1, ↓mFld.eq_1, ↓mDin.eq_1, ↓mDGet1.eq_1, ↓mDGet2.eq_1, ↓mDPop1.eq_1, ↓mDPop2.eq_1, ↓mLm.eq_1, ↓mLm0.eq_1, gAppend, gExtend, gClear, gPop0, ↓mSm.eq_1, ↓lSm.eq_1, gCount, gRfind, gSplit, gJoin, ↓mCB.eq_1, oLen, lenV, ↓mTru.eq_1, truth, ↓mSl.eq_1, oSl, ↓lSlc.eq_1, lSl, ↓pNone.eq_1, ↓pSome.eq_1, ↓lAdd.eq_1, ↓lMul.eq_1, oIx, oDGet, oDGet1, oAdd, oMul, oSub, oInt, oMod, oDiv, oPow, oLt, oLe, oGt, oGe, deep_non, deep_bl, deep_int, deep_str, deep_tup, deep_lst, deeps_nil, deeps_cons, oIsN, oNotN, isNon, oIn, flatSc, inSc, eqSc, mt_nm, mt_tp, mts_nil, mts_cons, ↓mIsi.eq_1, isTn, tyN, ↓mIsiS.eq_1, ↓lCal.eq_1, ↓lList.eq_1, ↓lSorted.eq_1, ↓lSortedD.eq_1, seqL, seqD, seqI, seqA, refL, kyOf, isDct, getF, setF, dGet, Cl.flds, isO, isX, catOf, ↓mYes.eq_1, ↓mDNew.eq_1, ↓mRevS.eq_1, ↓mOwnIx.eq_1, ↓mOwnLen.eq_1, oAll, oSum, o1L, oMin2, oInt1, oTuple, intsOf, blsOf, strsOf, put_same, new_same, Slot.mine, atI, ixN, PyData.eqv, PyData.eqvAll, S_beq, lt_one, le_one, plain_tup, plain_lst, plains_nil, plains_cons, plain_int, plain_str, plain_bl, plain_non, ↓sPar3.eq_1, ↓sParP.eq_1, ↓sOwnPPut.eq_1, ↓sFrzP.eq_1, ↓mDinP.eq_1, oTAdd, gPop, ↓mDisp.eq_1, mPairs, ↓mDUpd.eq_1, ↓sLock.eq_1, seqF, oDGetF, ↓mDict1.eq_1, oDict1, ↓lSortIt.eq_1, ↓lRev.eq_1, ↓mDComp.eq_1, mDictL, oDictL, oTAddA, oTMul, ↓mTGet.eq_1, ↓mTIn.eq_1, ↓mTIx.eq_1, ↓sAugT.eq_1, ↓aStar.eq_1, ↓sTryT.eq_1, ↓lLRg.eq_1, ↓mIndexD.eq_1, oStr1, oInD_h, $xs,*] $loc:location)
/-! ### the equations that simp is given -/
theorem eqs_there : True := by
  have := @fnM.eq_1
  have := @sNil.eq_1
  have := @sSeq.eq_1
  have := @sPass.eq_1
  have := @sExpr.eq_1
  have := @sRet.eq_1
  have := @sRetN.eq_1
  have := @sIf.eq_1
  have := @sAsg.eq_1
  have := @sPar.eq_1
  have := @sOwn.eq_1
  have := @sFrz.eq_1
  have := @sRaise.eq_1
  have := @sRaiseN.eq_1
  have := @MW.sFld.eq_1
  have := @sFldA.eq_1
  have := @MW.sDput.eq_1
  have := @MW.sDdel.eq_1
  have := @sOwnApp.eq_1
  have := @sOwnSet.eq_1
  have := @sSetIx.eq_1
  have := @sTry.eq_1
  have := @sAug.eq_1
  have := @mVar.eq_1
  have := @mC.eq_1
  have := @mOp.eq_1
  have := @mB.eq_1
  have := @mCh.eq_1
  have := @mUn.eq_1
  have := @mNotT.eq_1
  have := @mAndT.eq_1
  have := @mOrT.eq_1
  have := @mAnd.eq_1
  have := @mOr.eq_1
  have := @mNot.eq_1
  have := @mIfE.eq_1
  have := @aNil.eq_1
  have := @aCons.eq_1
  have := @mTup.eq_1
  have := @lDsp.eq_1
  have := @mFrz.eq_1
  have := @mNew.eq_1
  have := @mFld.eq_1
  have := @mDin.eq_1
  have := @mDGet1.eq_1
  have := @mDGet2.eq_1
  have := @mDPop1.eq_1
  have := @mDPop2.eq_1
  have := @mLm.eq_1
  have := @mLm0.eq_1
  have := @mSm.eq_1
  have := @lSm.eq_1
  have := @mCall.eq_1
  have := @ck.eq_1
  have := @mMeth.eq_1
  have := @mMake.eq_1
  have := @mCB.eq_1
  have := @mTru.eq_1
  have := @mSl.eq_1
  have := @lSlc.eq_1
  have := @pNone.eq_1
  have := @pSome.eq_1
  have := @lAdd.eq_1
  have := @lMul.eq_1
  have := @mIsi.eq_1
  have := @mIsiS.eq_1
  have := @lCal.eq_1
  have := @lList.eq_1
  have := @lSorted.eq_1
  have := @lSortedD.eq_1
  have := @mYes.eq_1
  have := @mDNew.eq_1
  have := @mRevS.eq_1
  have := @mOwnIx.eq_1
  have := @mOwnLen.eq_1
  have := @sPar3.eq_1
  have := @sParP.eq_1
  have := @sOwnPPut.eq_1
  have := @sFrzP.eq_1
  have := @mDinP.eq_1
  have := @mDisp.eq_1
  have := @mDUpd.eq_1
  have := @sLock.eq_1
  have := @mDict1.eq_1
  have := @lSortIt.eq_1
  have := @lRev.eq_1
  have := @mDComp.eq_1
  have := @mTGet.eq_1
  have := @mTIn.eq_1
  have := @mTIx.eq_1
  have := @sAugT.eq_1
  have := @aStar.eq_1
  trivial

theorem eqs_thereB : True := by
  have := @sTryT.eq_1
  have := @lLRg.eq_1
  have := @mIndexD.eq_1
  trivial

/-! ### evaluation of programs of the small world -/
/- a comprehension without a test over items, each element by a function -/
def signsV (m : Int) : Val → Bool
  | .str l => decide ((l.length : Int) ≤ m) && l.all sgn
  | _ => false
def okSh (v : Val) : Bool := signsV 200 v
def twoV (v : Val) : Bool := (pkOf v).isSome
def plV (p : Nat × Nat) : Val := .tup [.int p.1, .int p.2]
def placeN (s : List Nat) (v : Val) : Option Nat := match pkOf v with
  | some (r, c) => if 0 ≤ r ∧ r < ((rws s).length : Int) ∧ 0 ≤ c ∧ c ≤ (((rws s).getD r.toNat []).length : Int) then some (before (rws s) r.toNat + c.toNat) else none
  | none => none
theorem rwsA_back : ∀ (s acc : List Nat) (r c : Nat) (row : List Nat), (rwsA acc s)[r]? = some row → c ≤ row.length → (r = 0 → acc.length ≤ c) → ∃ n, n ≤ s.length ∧ (s.take n).foldl stp (0, acc.length) = (r, c)
  | [], acc, r, c, row, h, hc, h0 => by
    cases r with
    | zero =>
      cases h
      exact ⟨0, Nat.le_refl _, by show (0, acc.length) = (0, c); rw [Nat.le_antisymm (h0 rfl) hc]⟩
    | succ r => simp [rwsA] at h
  | x :: s, acc, r, c, row, h, hc, h0 => by
    rw [rwsA] at h
    by_cases hx : x = 10
    · rw [if_pos hx] at h
      cases r with
      | zero =>
        cases h
        exact ⟨0, Nat.zero_le _, by show (0, acc.length) = (0, c); rw [Nat.le_antisymm (h0 rfl) hc]⟩
      | succ r =>
        obtain ⟨n, h1, h2⟩ := rwsA_back s [] r c row h hc (fun _ => Nat.zero_le _)
        refine ⟨n + 1, by rw [List.length_cons]; omega, ?_⟩
        rw [List.take_succ_cons, List.foldl_cons, stp, if_pos hx, HW.fold_shift]
        have h2 : (s.take n).foldl stp (0, 0) = (r, c) := h2
        rw [h2]
        show (0 + 1 + r, c) = (r + 1, c)
        rw [Nat.zero_add, Nat.add_comm]
    · rw [if_neg hx] at h
      by_cases he : r = 0 ∧ c = acc.length
      · exact ⟨0, Nat.zero_le _, by show (0, acc.length) = (r, c); rw [he.1, he.2]⟩
      · obtain ⟨n, h1, h2⟩ := rwsA_back s (acc ++ [x]) r c row h hc (fun z => by rw [List.length_append, List.length_singleton]; have := h0 z; have : c ≠ acc.length := fun y => he ⟨z, y⟩; omega)
        refine ⟨n + 1, by rw [List.length_cons]; omega, ?_⟩
        rw [List.take_succ_cons, List.foldl_cons, stp, if_neg hx]
        rw [List.length_append, List.length_singleton] at h2
        exact h2
theorem placeN_pos {s : List Nat} {n : Nat} (h : n ≤ s.length) : placeN s (plV (pos s n)) = some n := by
  obtain ⟨row, h1, h2, h3⟩ := rws_pos h
  have hl : (pos s n).1 < (rws s).length := (List.getElem?_eq_some_iff.mp h1).1
  have hg : (rws s).getD (pos s n).1 [] = row := by rw [List.getD_eq_getElem?_getD, h1]; rfl
  simp only [placeN, plV, pkOf]
  rw [if_pos ⟨by omega, by omega, by omega, by rw [Int.toNat_natCast, hg]; omega⟩, Int.toNat_natCast, Int.toNat_natCast, h3]
theorem placeN_is {s : List Nat} {v : Val} {n : Nat} (h : placeN s v = some n) : n ≤ s.length ∧ v = plV (pos s n) := by
  unfold placeN at h
  split at h
  rotate_left
  · cases h
  rename_i r c hp
  split at h
  rotate_left
  · cases h
  rename_i hc
  obtain ⟨h1, h2, h3, h4⟩ := hc
  have hv : v = .tup [.int r, .int c] := by
    unfold pkOf at hp
    split at hp
    · cases hp; rfl
    · cases hp
  have hl : r.toNat < (rws s).length := by omega
  have hr : (rws s)[r.toNat]? = some ((rws s).getD r.toNat []) := by rw [List.getElem?_eq_getElem hl, List.getD_eq_getElem?_getD, List.getElem?_eq_getElem hl]; rfl
  obtain ⟨m, m1, m2⟩ := rwsA_back s [] r.toNat c.toNat _ hr (by omega) (fun _ => Nat.zero_le _)
  have hm : pos s m = (r.toNat, c.toNat) := m2
  obtain ⟨row, k1, k2, k3⟩ := rws_pos m1
  rw [hm] at k3
  have e : n = m := by rw [← k3]; exact (Option.some.inj h).symm
  subst e
  refine ⟨m1, ?_⟩
  rw [hv, plV, hm]
  simp [Int.toNat_of_nonneg h1, Int.toNat_of_nonneg h3]
theorem plain_pl (p : Nat × Nat) : plain (plV p) = true := by simp [plV, plain_tup, plains_cons, plains_nil, plain_int]
theorem cut_to0 {α : Type} {l : List α} {n : Int} (h : 0 ≤ n) : MW.cut l none (some n) = l.take n.toNat := by
  unfold MW.cut HT.sIx
  simp only [if_neg (show ¬ n < 0 by omega)]
  rw [List.drop_zero, Nat.sub_zero, List.take_eq_take_iff]
  omega
theorem cut_toN {α : Type} {l : List α} {n : Nat} : MW.cut l none (some (n : Int)) = l.take n := by
  rw [cut_to0 (by omega)]; rfl
theorem cut_from0 {α : Type} {l : List α} {n : Int} (h : 0 ≤ n) : MW.cut l (some n) none = l.drop n.toNat := by
  unfold MW.cut HT.sIx
  simp only [if_neg (show ¬ n < 0 by omega)]
  by_cases h2 : n.toNat ≤ l.length
  · rw [Nat.min_eq_left h2]
    exact List.take_of_length_le (by rw [List.length_drop]; omega)
  · rw [Nat.min_eq_right (by omega), List.drop_length, List.drop_eq_nil_of_le (by omega), List.take_nil]
theorem cut_mid0 {α : Type} {l : List α} {a b : Int} (h : 0 ≤ a) (h' : 0 ≤ b) : MW.cut l (some a) (some b) = (l.drop a.toNat).take (b.toNat - a.toNat) := by
  unfold MW.cut HT.sIx
  simp only [if_neg (show ¬ a < 0 by omega), if_neg (show ¬ b < 0 by omega)]
  by_cases h2 : a.toNat ≤ l.length
  · rw [Nat.min_eq_left h2, List.take_eq_take_iff, List.length_drop]
    omega
  · rw [Nat.min_eq_right (Nat.le_of_not_le h2), List.drop_length, List.drop_eq_nil_of_le (by omega), List.take_nil, List.take_nil]
theorem atI_nat' {α : Type} {l : List α} {i : Int} (h0 : 0 ≤ i) : atI l i = l[i.toNat]? := by
  unfold L2.atI ixN
  rw [if_pos h0]
  by_cases h : i < (l.length : Int)
  · rw [if_pos h]; rfl
  · rw [if_neg h, List.getElem?_eq_none (by omega)]; rfl
/- a loop by a claim of what is left -/
theorem forL_ind {t : Tg} {b : MS} {ok : Sto → Prop} {E : QX} {D : MEnds} (I : List Val → Lc → Sto → Prop) (hn : ∀ σ μ, I [] σ μ → ok μ ∧ D.nx σ μ) (hs : ∀ v vs σ μ, I (v :: vs) σ μ → ok μ ∧ ∃ σ1, t.mt v σ = some σ1 ∧ ∀ N : Lc → Sto → Prop, (∀ σ2 μ2, I vs σ2 μ2 → N σ2 μ2) → b { D with nx := N } σ1 μ E) : ∀ vs σ μ, I vs σ μ → forL t b ok E D vs σ μ
  | [], σ, μ, h => hn σ μ h
  | v :: vs, σ, μ, h => by
    obtain ⟨h1, σ1, h2, h3⟩ := hs v vs σ μ h
    refine ⟨h1, ?_⟩
    rw [h2]
    exact h3 _ fun σ2 μ2 h => forL_ind I hn hs vs σ2 μ2 h
def putN (s : List Nat) (a z : Nat) (q : List Nat) : List Nat := s.take a ++ q ++ s.drop z
structure Span where
  s : List Nat
  a : Nat
  z : Nat
  q : List Nat
def Span.on (x : Span) : List Nat := putN x.s x.a x.z x.q
def edOf (s : List Nat) (v : Val) : Option Span := match v with
  | .tup [b, e, .str q] => match placeN s b, placeN s e with
    | some a, some z => if a ≤ z ∧ signsV 40 (.str q) = true ∧ s.length - (z - a) + q.length ≤ 200 then some ⟨s, a, z, q⟩ else none
    | _, _ => none
  | _ => none
theorem edOf_is {s : List Nat} {v : Val} {x : Span} (h : edOf s v = some x) : v = .tup [plV (pos s x.a), plV (pos s x.z), .str x.q] ∧ x.s = s ∧ x.a ≤ x.z ∧ x.z ≤ s.length ∧ signsV 40 (.str x.q) = true ∧ s.length - (x.z - x.a) + x.q.length ≤ 200 := by
  unfold edOf at h
  split at h
  rotate_left
  · cases h
  rename_i b e q
  split at h
  rotate_left
  · cases h
  rename_i a z h1 h2
  split at h
  rotate_left
  · cases h
  rename_i hc
  cases h
  obtain ⟨k1, rfl⟩ := placeN_is h1
  obtain ⟨k2, rfl⟩ := placeN_is h2
  exact ⟨rfl, rfl, hc.1, k2, hc.2⟩
theorem edOf_of {s q : List Nat} {a z : Nat} (h1 : a ≤ z) (h2 : z ≤ s.length) (h3 : signsV 40 (.str q) = true) (h4 : s.length - (z - a) + q.length ≤ 200) : edOf s (.tup [plV (pos s a), plV (pos s z), .str q]) = some ⟨s, a, z, q⟩ := by
  unfold edOf
  simp only [placeN_pos (Nat.le_trans h1 h2), placeN_pos h2]
  rw [if_pos ⟨h1, h3, h4⟩]
/- the spans of edits; else the number of the first that can't be -/
theorem on_len {s : List Nat} {v : Val} {x : Span} (h : edOf s v = some x) : x.on.length ≤ 200 := by
  obtain ⟨_, h1, h2, h3, h4, h5⟩ := edOf_is h
  unfold Span.on putN
  rw [List.length_append, List.length_append, List.length_take, List.length_drop, h1]
  omega
theorem on_sgn {s : List Nat} {v : Val} {x : Span} (h : edOf s v = some x) (hs : s.all sgn = true) : x.on.all sgn = true := by
  obtain ⟨_, h1, h2, h3, h4, h5⟩ := edOf_is h
  simp [signsV] at h4
  unfold Span.on putN
  rw [h1, List.all_append, List.all_append, Bool.and_eq_true, Bool.and_eq_true]
  rw [List.all_eq_true] at hs
  exact ⟨⟨List.all_eq_true.mpr fun c hc => hs c (List.mem_of_mem_take hc), List.all_eq_true.mpr h4.2⟩, List.all_eq_true.mpr fun c hc => hs c (List.mem_of_mem_drop hc)⟩
theorem okSh_str {s : List Nat} : okSh (.str s) = true ↔ s.length ≤ 200 ∧ s.all sgn = true := by
  simp [okSh, signsV]
  omega
theorem on_ok {s : List Nat} {v : Val} {x : Span} (h : edOf s v = some x) (hs : okSh (.str s) = true) : okSh (.str x.on) = true := okSh_str.mpr ⟨on_len h, on_sgn h (okSh_str.mp hs).2⟩
def enF : Nat → List Val → List Val
  | _, [] => []
  | k, v :: vs => .tup [.int (k : Nat), v] :: enF (k + 1) vs
theorem enF_eq : ∀ (vs : List Val) (k : Nat), enF k vs = (List.range vs.length).map fun j => Val.tup [.int ((k + j : Nat) : Int), vs.getD j .non]
  | [], k => rfl
  | v :: vs, k => by
    rw [enF, enF_eq vs (k + 1), List.length_cons, List.range_succ_eq_map, List.map_cons, List.map_map]
    refine congrArg _ (List.map_congr_left fun j _ => ?_)
    show Val.tup [.int ((k + 1 + j : Nat) : Int), vs.getD j .non] = .tup [.int ((k + (j + 1) : Nat) : Int), vs.getD j .non]
    rw [Nat.add_assoc, Nat.add_comm 1 j]
theorem enumL_F (vs : List Val) : enumL vs = enF 0 vs := by
  rw [enF_eq]
  unfold enumL
  exact List.map_congr_left fun j _ => by rw [Nat.zero_add]
theorem list_of {m : ME} {σ : Lc} {μ : Sto} {E : QX} {v : Val} {vs : List Val} {R : List Val → (Sto → Prop) → Sto → Prop} (hm : ∀ Q : QV, Q v μ → m σ μ Q E) (h : seqL μ v = some vs) (q : ∀ ok : Sto → Prop, ok μ → R vs ok μ) : iLst m σ μ R E := by
  refine hm _ ?_
  cases v with
  | lst xs => cases h; exact q _ trivial
  | ref a =>
    simp only [seqL] at h
    simp only [refL]
    cases ho : μ.o a with
    | none => rw [ho] at h; cases h
    | some o =>
      rw [ho] at h
      cases o with
      | lst xs => cases h; exact q _ ho
      | dic d => cases h
      | ins c f => cases h
      | fdic _ _ => cases h
  | _ => cases h
/- spans as the edits make them -/
def ltr (c : Nat) : Bool := decide (97 ≤ c) && decide (c ≤ 122)
/-! ### runs of letters -/
def lawFrom : Bool → Nat → List Nat → List (Nat × Nat)
  | _, _, [] => []
  | prev, n, c :: r => (if ltr c && !prev then [(n, n + ((c :: r).takeWhile ltr).length)] else []) ++ lawFrom (ltr c) (n + 1) r
def runsL (s : List Nat) : List (Nat × Nat) := lawFrom false 0 s
theorem law_mem : ∀ {r : List Nat} {p : Bool} {n : Nat} {x : Nat × Nat}, x ∈ lawFrom p n r → n ≤ x.1 ∧ x.1 < x.2 ∧ x.2 ≤ n + r.length ∧ ∀ c ∈ (r.drop (x.1 - n)).take (x.2 - x.1), ltr c = true
  | [], _, _, _, h => by rw [lawFrom] at h; cases h
  | c :: r, p, n, x, h => by
    rw [lawFrom] at h
    rcases List.mem_append.mp h with h | h
    · by_cases hc : (ltr c && !p) = true
      · rw [if_pos hc, List.mem_singleton] at h
        subst h
        have hl := (List.takeWhile_sublist ltr (l := c :: r)).length_le
        have h0 : 0 < ((c :: r).takeWhile ltr).length := by
          rw [Bool.and_eq_true] at hc
          rw [List.takeWhile_cons, if_pos hc.1]
          simp
        refine ⟨Nat.le_refl _, by show n < n + _; omega, by show n + _ ≤ n + _; omega, ?_⟩
        show ∀ d ∈ ((c :: r).drop (n - n)).take (n + ((c :: r).takeWhile ltr).length - n), ltr d = true
        rw [Nat.sub_self, List.drop_zero, Nat.add_sub_cancel_left]
        intro d hd
        have e : ((c :: r).take ((c :: r).takeWhile ltr).length) = (c :: r).takeWhile ltr := by
          have := List.takeWhile_prefix ltr (l := c :: r)
          exact (List.prefix_iff_eq_take.mp this).symm
        rw [e] at hd
        exact List.all_eq_true.mp List.all_takeWhile d hd
      · rw [if_neg hc] at h
        cases h
    · obtain ⟨h1, h2, h3, h4⟩ := law_mem h
      refine ⟨by omega, h2, by rw [List.length_cons]; omega, ?_⟩
      have e : x.1 - n = (x.1 - (n + 1)) + 1 := by omega
      rw [e, List.drop_succ_cons]
      exact h4
theorem runs_mem {s : List Nat} {x : Nat × Nat} (h : x ∈ runsL s) : x.1 < x.2 ∧ x.2 ≤ s.length ∧ ∀ c ∈ (s.drop x.1).take (x.2 - x.1), ltr c = true := by
  obtain ⟨_, h2, h3, h4⟩ := law_mem h
  exact ⟨h2, by omega, h4⟩
theorem law_many : ∀ (r : List Nat) (p : Bool) (n : Nat), (lawFrom p n r).length ≤ r.length
  | [], _, _ => Nat.le_refl _
  | c :: r, p, n => by
    rw [lawFrom, List.length_append, List.length_cons]
    have := law_many r (ltr c) (n + 1)
    split
    · rw [List.length_singleton]; omega
    · rw [List.length_nil]; omega
def wordB : Val → Bool
  | .str w => decide (1 ≤ w.length) && decide (w.length ≤ 8) && w.all ltr
  | _ => false
def runV (x : Nat × Nat) : Val := .tup [.int (x.1 : Nat), .int (x.2 : Nat)]
def runAt (s : List Nat) (n : Int) : Option (Nat × Nat) := (runsL s).find? fun x => decide ((x.1 : Int) ≤ n) && decide (n ≤ (x.2 : Int))
inductive Ask where
  | find (w : List Nat) | rows (w : List Nat) | word (p : Val) | ren (p : Val) (w : List Nat)
def kFind : List Nat := [102, 105, 110, 100]
def kRows : List Nat := [114, 111, 119, 115]
def kWord : List Nat := [119, 111, 114, 100]
def kRen : List Nat := [114, 101, 110, 97, 109, 101]
def askOf : Val → Option Ask
  | .tup [.str k, x] => if k = kFind ∨ k = kRows then (match x with
      | .str w => if wordB x = true then some (if k = kFind then .find w else .rows w) else none
      | _ => none) else if k = kWord ∧ twoV x = true then some (.word x) else none
  | .tup [.str k, p, .str w] => if k = kRen ∧ twoV p = true ∧ wordB (.str w) = true then some (.ren p w) else none
  | _ => none
def findV (s w : List Nat) : Val := .lst (((List.range s.length).filter fun i => (s.drop i).take w.length == w).map fun i => plV (pos s i))
theorem rng_nat (n : Nat) : rng 0 (n : Int) = (List.range n).map fun k => Val.int (k : Nat) := by
  unfold rng
  rw [show ((n : Int) - 0).toNat = n by omega]
  exact List.map_congr_left fun k _ => by rw [Int.zero_add]
theorem cut_mid {α : Type} {l : List α} {a b : Nat} : MW.cut l (some (a : Int)) (some (b : Int)) = (l.drop a).take (b - a) := by
  rw [cut_mid0 (by omega) (by omega)]; rfl
theorem lcL_filter' {t : Tg} {tt : MT} {me : ME} {σ : Lc} {ok : Sto → Prop} {μ : Sto} {Q : List Val → Sto → Prop} (hok : ok μ) (p : Val → Bool) (f : Val → Val) : ∀ (vs acc : List Val), (∀ v ∈ vs, ∃ σ1, t.mt v σ = some σ1 ∧ (∀ Q', Q' (p v) μ → tt σ1 μ Q' (fun _ _ => False)) ∧ (p v = true → ∀ Q', Q' (f v) μ → me σ1 μ Q' (fun _ _ => False))) → Q (acc ++ (vs.filter p).map f) μ → lcL t tt me ok σ Q vs acc μ
  | [], acc, _, q => ⟨hok, by rw [List.filter_nil, List.map_nil, List.append_nil] at q; exact q⟩
  | v :: vs, acc, h, q => by
    obtain ⟨σ1, h1, h2, h3⟩ := h v List.mem_cons_self
    refine ⟨hok, ?_⟩
    rw [h1]
    refine h2 _ ?_
    cases hp : p v with
    | true =>
      rw [if_pos rfl]
      refine h3 hp _ (lcL_filter' hok p f vs (acc ++ [f v]) (fun w hw => h w (List.mem_cons_of_mem _ hw)) ?_)
      rw [List.append_assoc]
      rw [List.filter_cons, if_pos hp] at q
      exact q
    | false =>
      rw [if_neg Bool.false_ne_true]
      refine lcL_filter' hok p f vs acc (fun w hw => h w (List.mem_cons_of_mem _ hw)) ?_
      rw [List.filter_cons, if_neg (by rw [hp]; exact Bool.false_ne_true)] at q
      exact q
theorem lcL_map' {t : Tg} {me : ME} {σ : Lc} {ok : Sto → Prop} {μ : Sto} {Q : List Val → Sto → Prop} (hok : ok μ) (f : Val → Val) : ∀ (vs acc : List Val), (∀ v ∈ vs, ∃ σ1, t.mt v σ = some σ1 ∧ ∀ Q', Q' (f v) μ → me σ1 μ Q' (fun _ _ => False)) → Q (acc ++ vs.map f) μ → lcL t mYes me ok σ Q vs acc μ
  | [], acc, _, q => ⟨hok, by rw [List.map_nil, List.append_nil] at q; exact q⟩
  | v :: vs, acc, h, q => by
    obtain ⟨σ1, h1, h2⟩ := h v List.mem_cons_self
    refine ⟨hok, ?_⟩
    rw [h1]
    refine h2 _ (lcL_map' hok f vs (acc ++ [f v]) (fun w hw => h w (List.mem_cons_of_mem _ hw)) ?_)
    rw [List.append_assoc]
    exact q
def rowsV (s w : List Nat) : Val := .lst (((List.range (rws s).length).filter fun i => subB w ((rws s).getD i [])).map fun i => .int (i : Nat))
def endsV (s : List Nat) (n : Int) : Val := match runAt s n with
  | none => .non
  | some x => .tup [plV (pos s x.1), plV (pos s x.2)]
def cutR (s : List Nat) (x : Nat × Nat) : List Nat := (s.drop x.1).take (x.2 - x.1)
def alike (s : List Nat) (x : Nat × Nat) : List (Nat × Nat) := (runsL s).filter fun y => cutR s y == cutR s x
def renE (s w : List Nat) (y : Nat × Nat) : Val := .tup [plV (pos s y.1), plV (pos s y.2), .str w]
def renV (s : List Nat) (n : Int) (w : List Nat) : Val := match runAt s n with
  | none => .non
  | some x => if (alike s x).length > 8 ∨ (s.length : Int) + (alike s x).length * ((w.length : Int) - (cutR s x).length) > 200 then .non else .lst ((alike s x).reverse.map (renE s w))
def ansV (s : List Nat) : Ask → Option Val
  | .find w => some (findV s w)
  | .rows w => some (rowsV s w)
  | .word p => (placeN s p).map fun n => endsV s (n : Nat)
  | .ren p w => (placeN s p).map fun n => renV s (n : Nat) w
theorem wordB_str {w : List Nat} (h : wordB (.str w) = true) : 1 ≤ w.length ∧ w.length ≤ 8 ∧ w.all ltr = true := by
  simp [wordB] at h
  exact ⟨h.1.1, h.1.2, List.all_eq_true.mpr h.2⟩
theorem askOf_is {v : Val} {a : Ask} (h : askOf v = some a) : (∃ w, v = .tup [.str kFind, .str w] ∧ a = .find w ∧ wordB (.str w) = true) ∨ (∃ w, v = .tup [.str kRows, .str w] ∧ a = .rows w ∧ wordB (.str w) = true) ∨ (∃ p, v = .tup [.str kWord, p] ∧ a = .word p ∧ twoV p = true) ∨ ∃ p w, v = .tup [.str kRen, p, .str w] ∧ a = .ren p w ∧ twoV p = true ∧ wordB (.str w) = true := by
  unfold askOf at h
  split at h
  · rename_i k x
    split at h
    · rename_i hk
      split at h
      rotate_left
      · cases h
      rename_i w
      split at h
      rotate_left
      · cases h
      rename_i hw
      cases h
      by_cases h1 : k = kFind
      · subst h1; exact .inl ⟨w, rfl, if_pos rfl, hw⟩
      · have h2 := hk.resolve_left h1
        subst h2
        exact .inr (.inl ⟨w, rfl, if_neg h1, hw⟩)
    · split at h
      rotate_left
      · cases h
      rename_i hk
      cases h
      obtain ⟨rfl, hk⟩ := hk
      exact .inr (.inr (.inl ⟨x, rfl, rfl, hk⟩))
  · rename_i k p w
    split at h
    rotate_left
    · cases h
    rename_i hk
    cases h
    obtain ⟨rfl, hk⟩ := hk
    exact .inr (.inr (.inr ⟨p, w, rfl, rfl, hk⟩))
  · cases h
/-! ### files while they are open -/
/-! ### judging: the state that the document speaks of -/
section
variable {α β : Type}
/- a dict of number keys beside a table -/
variable {R : Int → Val → α → Prop}
/- the same, the table changed by a map -/
end
/- no object stands under two keys -/
/- the numbers and sheets that a helper may have heard of since -/
/- an ask that is known, beside the document's -/
/-! ### data as a whole -/
theorem deeps_map {α : Type} {μ : Sto} {n : Nat} {f : α → Val} {g : α → PyData} (h : ∀ a, deep μ n (f a) = some (g a)) : ∀ l : List α, deeps μ n (l.map f) = some (l.map g)
  | [] => deeps_nil
  | a :: l => by rw [List.map_cons, deeps_cons, h, deeps_map h l]; rfl
/-! ### letters, and what is judged of them -/
def kOpen : List Nat := [111, 112, 101, 110]
def kClose : List Nat := [99, 108, 111, 115, 101]
def kAsk : List Nat := [97, 115, 107]
def kOff : List Nat := [111, 102, 102]
theorem enum_of' {m : ME} {σ : Lc} {μ : Sto} {E : QX} {v : Val} {vs : List Val} {R : List Val → (Sto → Prop) → Sto → Prop} (hm : ∀ Q : QV, Q v μ → m σ μ Q E) (h : seqA μ v = some vs) (q : ∀ ok : Sto → Prop, (∀ μ', (∀ a, v = .ref a → μ'.o a = μ.o a) → ok μ') → R (enF 0 vs) ok μ) : iEnum' m σ μ R E := by
  refine hm _ ?_
  rw [← enumL_F] at q
  cases v with
  | lst xs => cases h; exact q _ fun _ _ => trivial
  | tup xs => cases h; exact q _ fun _ _ => trivial
  | ref a =>
    simp only [seqA, seqL] at h
    simp only [refL]
    cases ho : μ.o a with
    | none => rw [ho] at h; cases h
    | some o =>
      rw [ho] at h
      cases o with
      | lst xs => cases h; exact q _ fun μ' h => (h a rfl).trans ho
      | dic d => cases h
      | fdic _ _ => cases h
      | ins c f => cases h
  | _ => cases h
/-! ### draws -/
def StA (μ : Sto) (a : Nat) : Prop := ∃ (ns : List Int) (x y z : Int), μ.o a = some (.lst [.scr ns, .int x, .int y, .int z]) ∧ 0 ≤ x
def OnlyA (a : Nat) (μ μ' : Sto) : Prop := μ'.n = μ.n ∧ ∀ b, b ≠ a → μ'.o b = μ.o b
theorem OnlyA.trans {a : Nat} {μ μ1 μ2 : Sto} (h : OnlyA a μ μ1) (h' : OnlyA a μ1 μ2) : OnlyA a μ μ2 := ⟨h'.1.trans h.1, fun b hb => (h'.2 b hb).trans (h.2 b hb)⟩
theorem OnlyA.refl {a : Nat} {μ : Sto} : OnlyA a μ μ := ⟨rfl, fun _ _ => rfl⟩
def M__law_drawn : MS :=
  (sSeq (sIf (mB (mOp oGt (mOp oIx (mVar 0) (mC (.int 3))) (mC (.int 0))))
    (sSeq (sAsg (.nm 2) (mOp oMod (mOp oIx (mVar 0) (mC (.int 3))) (mVar 1)))
    (sSeq (sSetIx (mVar 0) (mC (.int 3)) (mOp oDiv (mOp oIx (mVar 0) (mC (.int 3))) (mVar 1)))
    (sRet (mVar 2))))
    sNil)
    (sSeq (sSetIx (mVar 0) (mC (.int 1)) (mOp oAdd (mOp oIx (mVar 0) (mC (.int 1))) (mC (.int 1))))
    (sSeq (sIf (mB (mOp oLe (mOp oIx (mVar 0) (mC (.int 1))) (mCB oLen (aCons (mOp oIx (mVar 0) (mC (.int 0))) aNil))))
    (sSeq (sAsg (.nm 3) (mOp oIx (mOp oIx (mVar 0) (mC (.int 0))) (mOp oSub (mOp oIx (mVar 0) (mC (.int 1))) (mC (.int 1)))))
    (sSeq (sSetIx (mVar 0) (mC (.int 3)) (mIfE (mB (mOp oGe (mVar 3) (mOp oPow (mC (.int 10)) (mC (.int 18))))) (mOp oDiv (mVar 3) (mVar 1)) (mC (.int 0))))
    (sRet (mOp oMod (mVar 3) (mVar 1)))))
    sNil)
    (sSeq (sSetIx (mVar 0) (mC (.int 2)) (mOp oMod (mOp oAdd (mOp oMul (mOp oIx (mVar 0) (mC (.int 2))) (mC (.int 48271))) (mC (.int 11))) (mC (.int 2147483647))))
    (sRet (mOp oMod (mOp oDiv (mOp oIx (mVar 0) (mC (.int 2))) (mC (.int 7))) (mVar 1)))))))
def P__law_drawn : FnM := fnM 4 2 M__law_drawn
def G__law_drawn : FnM := fun vs μ Q _ => match vs with
  | [.ref a, .int m] => 0 < m ∧ m < 2000000000000000000 ∧ StA μ a ∧ ∀ r μ', 0 ≤ r → r < m → OnlyA a μ μ' → StA μ' a → Q (.int r) μ'
  | _ => False
theorem GP__law_drawn : ∀ vs μ Q E, vs.length = 2 → G__law_drawn vs μ Q E → P__law_drawn vs μ Q E := by
  intro vs μ Q E hl q
  unfold G__law_drawn at q
  split at q
  rotate_left
  · exact q.elim
  rename_i a m
  obtain ⟨hm, hm2, ⟨ns, x, y, z, h1, hx⟩, q⟩ := q
  simp [zEH, P__law_drawn, M__law_drawn, h1, put_o]
  have hm0 : ¬ m = 0 := by omega
  have fm : ∀ i : Int, 0 ≤ i.fmod m ∧ i.fmod m < m := fun i => ⟨Int.fmod_nonneg_of_pos i hm, Int.fmod_lt_of_pos i hm⟩
  have cd : ∀ i, CDivW i m := fun i => ⟨hm, Nat.lt_of_lt_of_le ((Nat.log2_lt (by omega)).mpr (show m.natAbs < 2 ^ 61 by have : (2 : Nat) ^ 61 = 2305843009213693952 := rfl; omega)) (by decide)⟩
  by_cases hz : 0 < z
  · rw [if_pos hz]
    exact ⟨hm0, cd _, q _ _ (fm z).1 (fm z).2 ⟨rfl, fun b hb => by simp [put_o, hb]⟩ ⟨ns, x, y, z / m, by simp [put_o], hx⟩⟩
  · rw [if_neg hz]
    by_cases hn : x + 1 ≤ (ns.length : Int)
    · rw [if_pos hn, if_pos hx, if_pos (by omega)]
      have hi : x.toNat < ns.length := by omega
      simp [hi]
      refine ⟨⟨by decide, by decide, by decide⟩, ?_⟩
      split
      · exact ⟨cd _, hm0, q _ _ (fm _).1 (fm _).2 ⟨rfl, fun b hb => by simp [put_o, hb]⟩ ⟨ns, x + 1, y, _, by simp [put_o]; rfl, by omega⟩⟩
      · exact ⟨hm0, q _ _ (fm _).1 (fm _).2 ⟨rfl, fun b hb => by simp [put_o, hb]⟩ ⟨ns, x + 1, y, 0, by simp [put_o], by omega⟩⟩
    · rw [if_neg hn]
      exact ⟨.inr ⟨by decide, by decide⟩, ⟨by decide, by decide⟩, hm0, q _ _ (fm _).1 (fm _).2 ⟨rfl, fun b hb => by simp [put_o, hb]⟩ ⟨ns, x + 1, _, z, by simp [put_o]; rfl, by omega⟩⟩
def M__law_start : MS :=
  (sSeq (sAsg (.nm 1) (mC (.int 1)))
    (sSeq (sFor (iLst (mVar 0)) (.nm 2)
    (sAsg (.nm 1) (mOp oMod (mOp oAdd (mOp oAdd (mOp oMul (mVar 1) (mC (.int 48271))) (mVar 2)) (mC (.int 7))) (mC (.int 2147483647)))))
    (sRet (mNew (lDsp (aCons (mVar 0) (aCons (mC (.int 0)) (aCons (mVar 1) (aCons (mC (.int 0)) aNil)))))))))
def P__law_start : FnM := fnM 3 1 M__law_start
def G__law_start : FnM := fun vs μ Q _ => match vs with
  | [.scr ns] => ∀ μ', μ'.n = μ.n + 1 → (∀ b, b ≠ μ.n → μ'.o b = μ.o b) → StA μ' μ.n → Q (.ref μ.n) μ'
  | _ => False
theorem GP__law_start : ∀ vs μ Q E, vs.length = 1 → G__law_start vs μ Q E → P__law_start vs μ Q E := by
  intro vs μ Q E hl q
  unfold G__law_start at q
  split at q
  rotate_left
  · exact q.elim
  rename_i ns
  have hlm : lim = 1000000 := rfl
  simp [zEH, P__law_start, M__law_start]
  simp [zEH, sFor, iLst]
  refine forL_ind (fun items σ μ' => ∃ (y : Int) (rest : List Int) (j : Slot), items = rest.map Val.int ∧ σ = [.val (.scr ns), .val (.int y), j] ∧ μ' = μ) ?_ ?_ _ _ _ ⟨1, ns, _, rfl, rfl, rfl⟩
  · rintro σ μ' ⟨y, rest, j, hi, rfl, rfl⟩
    cases rest with
    | cons r rest => cases hi
    | nil =>
      refine ⟨trivial, ?_⟩
      simp [zEH]
      exact ⟨by omega, q _ rfl (fun b hb => by simp [new_o, hb]) ⟨ns, 0, y, 0, by simp [new_o], Int.le_refl _⟩⟩
  · rintro v its σ μ' ⟨y, rest, j, hi, rfl, rfl⟩
    cases rest with
    | nil => cases hi
    | cons r rest =>
      cases hi
      refine ⟨trivial, _, mt_nm _ _ _, fun N hN => ?_⟩
      simp [zEH]
      exact ⟨.inr ⟨by decide, by decide⟩, hN _ _ ⟨_, rest, _, rfl, rfl, rfl⟩⟩

theorem atI_0 {α : Type} {x : α} {l : List α} : atI (x :: l) 0 = some x := by
  rw [atI_nat' (by decide)]; rfl
theorem atI_1 {α : Type} {x y : α} {l : List α} : atI (x :: y :: l) 1 = some y := by
  rw [atI_nat' (by decide)]; rfl
theorem atI_2 {α : Type} {x y z : α} {l : List α} : atI (x :: y :: z :: l) 2 = some z := by
  rw [atI_nat' (by decide)]; rfl
theorem atI_3 {α : Type} {x y z w : α} {l : List α} : atI (x :: y :: z :: w :: l) 3 = some w := by
  rw [atI_nat' (by decide)]; rfl
local macro_rules
  | `(tactic| simp [zEI]) => `(tactic| simp [atI_0, atI_1, atI_2, atI_3, ↓mCall_h, ↓mMeth_h, ↓mMake_h, ↓mB_h, ↓oEq_h, ↓oNe_h, ↓fnM.eq_1, ↓sNil.eq_1, ↓sSeq.eq_1, ↓sPass.eq_1, ↓sExpr.eq_1, ↓sRet.eq_1, ↓sRetN.eq_1, ↓sIf.eq_1, ↓sAsg.eq_1, ↓sPar.eq_1, ↓sOwn.eq_1, ↓sFrz.eq_1, ↓sRaise.eq_1, ↓sRaiseN.eq_1, ↓MW.sFld.eq_1, ↓sFldA.eq_1, ↓MW.sDput.eq_1, ↓MW.sDdel.eq_1, ↓sOwnApp.eq_1, ↓sOwnSet.eq_1, ↓sSetIx.eq_1, ↓sTry.eq_1, ↓sAug.eq_1, ↓mVar.eq_1, ↓mC.eq_1, ↓mOp.eq_1, ↓mCh.eq_1, ↓mUn.eq_1, oNeg, ↓mNotT.eq_1, ↓mAndT.eq_1, ↓mOrT.eq_1, ↓mAnd.eq_1, ↓mOr.eq_1, ↓mNot.eq_1, ↓mIfE.eq_1, ↓aNil.eq_1, ↓aCons.eq_1, ↓mTup.eq_1, ↓lDsp.eq_1, ↓mFrz.eq_1, ↓mNew.eq_1, ↓mFld.eq_1, ↓mDin.eq_1, ↓mDGet1.eq_1, ↓mDGet2.eq_1, ↓mDPop1.eq_1, ↓mDPop2.eq_1, ↓mLm.eq_1, ↓mLm0.eq_1, gAppend, gExtend, gClear, gPop0, ↓mSm.eq_1, ↓lSm.eq_1, gCount, gRfind, gSplit, gJoin, ↓mCB.eq_1, oLen, lenV, ↓mTru.eq_1, truth, ↓mSl.eq_1, oSl, ↓lSlc.eq_1, lSl, ↓pNone.eq_1, ↓pSome.eq_1, ↓lAdd.eq_1, ↓lMul.eq_1, oIx, oDGet, oDGet1, oAdd, oMul, oSub, oInt, oMod, oDiv, oPow, oLt, oLe, oGt, oGe, deep_non, deep_bl, deep_int, deep_str, deep_tup, deep_lst, deeps_nil, deeps_cons, oIsN, oNotN, isNon, oIn, flatSc, inSc, eqSc, mt_nm, mt_tp, mts_nil, mts_cons, ↓mIsi.eq_1, isTn, tyN, ↓mIsiS.eq_1, ↓lCal.eq_1, ↓lList.eq_1, ↓lSorted.eq_1, ↓lSortedD.eq_1, seqL, seqD, seqI, seqA, refL, kyOf, isDct, getF, setF, dGet, Cl.flds, isO, isX, catOf, ↓mYes.eq_1, ↓mDNew.eq_1, ↓mRevS.eq_1, ↓mOwnIx.eq_1, ↓mOwnLen.eq_1, oAll, oSum, o1L, oMin2, oInt1, oTuple, intsOf, blsOf, strsOf, put_same, new_same, Slot.mine, PyData.eqv, PyData.eqvAll, S_beq, lt_one, le_one, plain_tup, plain_lst, plains_nil, plains_cons, plain_int, plain_str, plain_bl, plain_non, ↓sPar3.eq_1, ↓sParP.eq_1, ↓sOwnPPut.eq_1, ↓sFrzP.eq_1, ↓mDinP.eq_1, oTAdd, gPop, ↓mDisp.eq_1, mPairs, ↓mDUpd.eq_1, ↓sLock.eq_1, seqF, oDGetF, ↓mDict1.eq_1, oDict1, ↓lSortIt.eq_1, ↓lRev.eq_1, ↓mDComp.eq_1, mDictL, oDictL, oTAddA, oTMul, ↓mTGet.eq_1, ↓mTIn.eq_1, ↓mTIx.eq_1, ↓sAugT.eq_1, ↓aStar.eq_1, ↓sTryT.eq_1, ↓lLRg.eq_1, ↓mIndexD.eq_1, oStr1, oInD_h])
  | `(tactic| simp [zEI, $xs,*]) => `(tactic| simp [atI_0, atI_1, atI_2, atI_3, ↓mCall_h, ↓mMeth_h, ↓mMake_h, ↓mB_h, ↓oEq_h, ↓oNe_h, ↓fnM.eq_1, ↓sNil.eq_1, ↓sSeq.eq_1, ↓sPass.eq_1, ↓sExpr.eq_1, ↓sRet.eq_1, ↓sRetN.eq_1, ↓sIf.eq_1, ↓sAsg.eq_1, ↓sPar.eq_1, ↓sOwn.eq_1, ↓sFrz.eq_1, ↓sRaise.eq_1, ↓sRaiseN.eq_1, ↓MW.sFld.eq_1, ↓sFldA.eq_1, ↓MW.sDput.eq_1, ↓MW.sDdel.eq_1, ↓sOwnApp.eq_1, ↓sOwnSet.eq_1, ↓sSetIx.eq_1, ↓sTry.eq_1, ↓sAug.eq_1, ↓mVar.eq_1, ↓mC.eq_1, ↓mOp.eq_1, ↓mCh.eq_1, ↓mUn.eq_1, oNeg, ↓mNotT.eq_1, ↓mAndT.eq_1, ↓mOrT.eq_1, ↓mAnd.eq_1, ↓mOr.eq_1, ↓mNot.eq_1, ↓mIfE.eq_1, ↓aNil.eq_1, ↓aCons.eq_1, ↓mTup.eq_1, ↓lDsp.eq_1, ↓mFrz.eq_1, ↓mNew.eq_1, ↓mFld.eq_1, ↓mDin.eq_1, ↓mDGet1.eq_1, ↓mDGet2.eq_1, ↓mDPop1.eq_1, ↓mDPop2.eq_1, ↓mLm.eq_1, ↓mLm0.eq_1, gAppend, gExtend, gClear, gPop0, ↓mSm.eq_1, ↓lSm.eq_1, gCount, gRfind, gSplit, gJoin, ↓mCB.eq_1, oLen, lenV, ↓mTru.eq_1, truth, ↓mSl.eq_1, oSl, ↓lSlc.eq_1, lSl, ↓pNone.eq_1, ↓pSome.eq_1, ↓lAdd.eq_1, ↓lMul.eq_1, oIx, oDGet, oDGet1, oAdd, oMul, oSub, oInt, oMod, oDiv, oPow, oLt, oLe, oGt, oGe, deep_non, deep_bl, deep_int, deep_str, deep_tup, deep_lst, deeps_nil, deeps_cons, oIsN, oNotN, isNon, oIn, flatSc, inSc, eqSc, mt_nm, mt_tp, mts_nil, mts_cons, ↓mIsi.eq_1, isTn, tyN, ↓mIsiS.eq_1, ↓lCal.eq_1, ↓lList.eq_1, ↓lSorted.eq_1, ↓lSortedD.eq_1, seqL, seqD, seqI, seqA, refL, kyOf, isDct, getF, setF, dGet, Cl.flds, isO, isX, catOf, ↓mYes.eq_1, ↓mDNew.eq_1, ↓mRevS.eq_1, ↓mOwnIx.eq_1, ↓mOwnLen.eq_1, oAll, oSum, o1L, oMin2, oInt1, oTuple, intsOf, blsOf, strsOf, put_same, new_same, Slot.mine, PyData.eqv, PyData.eqvAll, S_beq, lt_one, le_one, plain_tup, plain_lst, plains_nil, plains_cons, plain_int, plain_str, plain_bl, plain_non, ↓sPar3.eq_1, ↓sParP.eq_1, ↓sOwnPPut.eq_1, ↓sFrzP.eq_1, ↓mDinP.eq_1, oTAdd, gPop, ↓mDisp.eq_1, mPairs, ↓mDUpd.eq_1, ↓sLock.eq_1, seqF, oDGetF, ↓mDict1.eq_1, oDict1, ↓lSortIt.eq_1, ↓lRev.eq_1, ↓mDComp.eq_1, mDictL, oDictL, oTAddA, oTMul, ↓mTGet.eq_1, ↓mTIn.eq_1, ↓mTIx.eq_1, ↓sAugT.eq_1, ↓aStar.eq_1, ↓sTryT.eq_1, ↓lLRg.eq_1, ↓mIndexD.eq_1, oStr1, oInD_h, $xs,*])
  | `(tactic| simp [zEI, $xs,*] $loc:location) => `(tactic| simp [atI_0, atI_1, atI_2, atI_3, ↓mCall_h, ↓mMeth_h, ↓mMake_h, ↓mB_h, ↓oEq_h, ↓oNe_h, ↓fnM.eq_1, ↓sNil.eq_1, ↓sSeq.eq_1, ↓sPass.eq_1, ↓sExpr.eq_1, ↓sRet.eq_1, ↓sRetN.eq_1, ↓sIf.eq_1, ↓sAsg.eq_1, ↓sPar.eq_1, ↓sOwn.eq_1, ↓sFrz.eq_1, ↓sRaise.eq_1, ↓sRaiseN.eq_1, ↓MW.sFld.eq_1, ↓sFldA.eq_1, ↓MW.sDput.eq_1, ↓MW.sDdel.eq_1, ↓sOwnApp.eq_1, ↓sOwnSet.eq_1, ↓sSetIx.eq_1, ↓sTry.eq_1, ↓sAug.eq_1, ↓mVar.eq_1, ↓mC.eq_1, ↓mOp.eq_1, ↓mCh.eq_1, ↓mUn.eq_1, oNeg, ↓mNotT.eq_1, ↓mAndT.eq_1, ↓mOrT.eq_1, ↓mAnd.eq_1, ↓mOr.eq_1, ↓mNot.eq_1, ↓mIfE.eq_1, ↓aNil.eq_1, ↓aCons.eq_1, ↓mTup.eq_1, ↓lDsp.eq_1, ↓mFrz.eq_1, ↓mNew.eq_1, ↓mFld.eq_1, ↓mDin.eq_1, ↓mDGet1.eq_1, ↓mDGet2.eq_1, ↓mDPop1.eq_1, ↓mDPop2.eq_1, ↓mLm.eq_1, ↓mLm0.eq_1, gAppend, gExtend, gClear, gPop0, ↓mSm.eq_1, ↓lSm.eq_1, gCount, gRfind, gSplit, gJoin, ↓mCB.eq_1, oLen, lenV, ↓mTru.eq_1, truth, ↓mSl.eq_1, oSl, ↓lSlc.eq_1, lSl, ↓pNone.eq_1, ↓pSome.eq_1, ↓lAdd.eq_1, ↓lMul.eq_1, oIx, oDGet, oDGet1, oAdd, oMul, oSub, oInt, oMod, oDiv, oPow, oLt, oLe, oGt, oGe, deep_non, deep_bl, deep_int, deep_str, deep_tup, deep_lst, deeps_nil, deeps_cons, oIsN, oNotN, isNon, oIn, flatSc, inSc, eqSc, mt_nm, mt_tp, mts_nil, mts_cons, ↓mIsi.eq_1, isTn, tyN, ↓mIsiS.eq_1, ↓lCal.eq_1, ↓lList.eq_1, ↓lSorted.eq_1, ↓lSortedD.eq_1, seqL, seqD, seqI, seqA, refL, kyOf, isDct, getF, setF, dGet, Cl.flds, isO, isX, catOf, ↓mYes.eq_1, ↓mDNew.eq_1, ↓mRevS.eq_1, ↓mOwnIx.eq_1, ↓mOwnLen.eq_1, oAll, oSum, o1L, oMin2, oInt1, oTuple, intsOf, blsOf, strsOf, put_same, new_same, Slot.mine, PyData.eqv, PyData.eqvAll, S_beq, lt_one, le_one, plain_tup, plain_lst, plains_nil, plains_cons, plain_int, plain_str, plain_bl, plain_non, ↓sPar3.eq_1, ↓sParP.eq_1, ↓sOwnPPut.eq_1, ↓sFrzP.eq_1, ↓mDinP.eq_1, oTAdd, gPop, ↓mDisp.eq_1, mPairs, ↓mDUpd.eq_1, ↓sLock.eq_1, seqF, oDGetF, ↓mDict1.eq_1, oDict1, ↓lSortIt.eq_1, ↓lRev.eq_1, ↓mDComp.eq_1, mDictL, oDictL, oTAddA, oTMul, ↓mTGet.eq_1, ↓mTIn.eq_1, ↓mTIx.eq_1, ↓sAugT.eq_1, ↓aStar.eq_1, ↓sTryT.eq_1, ↓lLRg.eq_1, ↓mIndexD.eq_1, oStr1, oInD_h, $xs,*] $loc:location)
theorem atI_in {α : Type} {l : List α} {i : Int} (h0 : 0 ≤ i) (h1 : i < (l.length : Int)) : ∃ x, x ∈ l ∧ atI l i = some x := by
  rw [atI_nat' h0]
  have h : i.toNat < l.length := by omega
  exact ⟨l[i.toNat], List.getElem_mem h, List.getElem?_eq_getElem h⟩
def everyL : List Nat := [32, 33, 34, 35, 36, 38, 39, 40, 41, 42, 43, 44, 45, 46, 47, 48, 49, 50, 51, 52, 53, 54, 55, 56, 57, 58, 59, 60, 61, 62, 63, 64, 65, 66, 67, 68, 69, 70, 71, 72, 73, 74, 75, 76, 77, 78, 79, 80, 81, 82, 83, 84, 85, 86, 87, 88, 89, 90, 91, 93, 94, 95, 96, 97, 98, 99, 100, 101, 102, 103, 104, 105, 106, 107, 108, 109, 110, 111, 112, 113, 114, 115, 116, 117, 118, 119, 120, 121, 122, 123, 124, 125, 126, 10]
theorem every_sgn : ∀ c ∈ everyL, sgn c = true := by decide
theorem divW {i j : Int} (h : 0 < j) (h2 : j < 1000000) : CDivW i j := ⟨h, Nat.lt_of_lt_of_le ((Nat.log2_lt (by omega)).mpr (show j.natAbs < 2 ^ 20 by have : (2 : Nat) ^ 20 = 1048576 := rfl; omega)) (by decide)⟩
def M__law_sign : MS :=
  (sSeq (sAsg (.nm 1) (mC (.str [32, 33, 34, 35, 36, 38, 39, 40, 41, 42, 43, 44, 45, 46, 47, 48, 49, 50, 51, 52, 53, 54, 55, 56, 57, 58, 59, 60, 61, 62, 63, 64, 65, 66, 67, 68, 69, 70, 71, 72, 73, 74, 75, 76, 77, 78, 79, 80, 81, 82, 83, 84, 85, 86, 87, 88, 89, 90, 91, 93, 94, 95, 96, 97, 98, 99, 100, 101, 102, 103, 104, 105, 106, 107, 108, 109, 110, 111, 112, 113, 114, 115, 116, 117, 118, 119, 120, 121, 122, 123, 124, 125, 126, 10])))
    (sRet (mOp oIx (mFrz (lDsp (aCons (mOp oIx (mC (.str [97, 98, 32, 10])) (mCall (ck 2 G__law_drawn) (aCons (mVar 0) (aCons (mC (.int 4)) aNil)))) (aCons (mOp oIx (mVar 1) (mCall (ck 2 G__law_drawn) (aCons (mVar 0) (aCons (mCB oLen (aCons (mVar 1) aNil)) aNil)))) aNil)))) (mOp oDiv (mCall (ck 2 G__law_drawn) (aCons (mVar 0) (aCons (mC (.int 4)) aNil))) (mC (.int 3))))))
def P__law_sign : FnM := fnM 2 1 M__law_sign
def G__law_sign : FnM := fun vs μ Q _ => match vs with
  | [.ref a] => StA μ a ∧ ∀ c μ', sgn c = true → OnlyA a μ μ' → StA μ' a → Q (.str [c]) μ'
  | _ => False
theorem GP__law_sign : ∀ vs μ Q E, vs.length = 1 → G__law_sign vs μ Q E → P__law_sign vs μ Q E := by
  intro vs μ Q E hl q
  unfold G__law_sign at q
  split at q
  rotate_left
  · exact q.elim
  rename_i a
  obtain ⟨hs, q⟩ := q
  have hlm : lim = 1000000 := rfl
  simp [zEI, P__law_sign, M__law_sign]
  refine ⟨by decide, by decide, hs, fun r1 μ1 a0 a1 o1 s1 => ?_⟩
  obtain ⟨c1, m1, e1⟩ := atI_in (l := [97, 98, 32, 10]) a0 a1
  simp [zEI, e1]
  refine ⟨by decide, by decide, s1, fun r2 μ2 b0 b1 o2 s2 => ?_⟩
  obtain ⟨c2, m2, e2⟩ := atI_in (l := everyL) b0 b1
  have g2 := every_sgn c2 m2
  have g1 : sgn c1 = true := by
    have : ∀ c ∈ [97, 98, 32, 10], sgn c = true := by decide
    exact this c1 m1
  unfold everyL at e2
  simp [zEI, e2]
  refine ⟨by omega, by decide, by decide, s2, fun r3 μ3 d0 d1 o3 s3 => ?_⟩
  obtain ⟨v, mv, ev⟩ := atI_in (l := [Val.str [c1], Val.str [c2]]) (i := r3 / 3) (by omega) (by simp; omega)
  simp [zEI, ev]
  refine ⟨divW (by decide) (by decide), ?_⟩
  rcases List.mem_cons.mp mv with rfl | mv
  · exact q _ _ g1 (o1.trans (o2.trans o3)) s3
  · obtain rfl := List.mem_singleton.mp mv
    exact q _ _ g2 (o1.trans (o2.trans o3)) s3
def M__law_put : MS :=
  (sSeq (sAsg (.nm 2) (mFrz (lDsp (aCons (mC (.str [97])) (aCons (mC (.str [97, 98])) (aCons (mC (.str [98])) (aCons (mC (.str [97, 98, 97])) (aCons (mC (.str [32])) (aCons (mC (.str [10])) (aCons (mC (.str [44])) (aCons (mC (.str [97, 98, 99, 100, 101, 102, 103, 104])) (aCons (mC (.str [])) aNil))))))))))))
    (sSeq (sAsg (.nm 3) (mC (.str [])))
    (sSeq (sFor (iRg1 (mCall (ck 2 G__law_drawn) (aCons (mVar 0) (aCons (mOp oIx (mFrz (lDsp (aCons (mC (.int 3)) (aCons (mC (.int 8)) (aCons (mC (.int 30)) aNil))))) (mCall (ck 2 G__law_drawn) (aCons (mVar 0) (aCons (mC (.int 3)) aNil)))) aNil)))) (.nm 4)
    (sAsg (.nm 3) (mOp oAdd (mVar 3) (mOp oIx (mFrz (lDsp (aCons (mOp oIx (mVar 2) (mCall (ck 2 G__law_drawn) (aCons (mVar 0) (aCons (mC (.int 9)) aNil)))) (aCons (mCall (ck 1 G__law_sign) (aCons (mVar 0) aNil)) aNil)))) (mOp oDiv (mCall (ck 2 G__law_drawn) (aCons (mVar 0) (aCons (mC (.int 3)) aNil))) (mC (.int 2)))))))
    (sRet (mSl (mVar 3) pNone (pSome (mVar 1)))))))
def P__law_put : FnM := fnM 5 2 M__law_put
def G__law_put : FnM := fun vs μ Q _ => match vs with
  | [.ref a, .int m] => 0 ≤ m ∧ StA μ a ∧ ∀ (t : List Nat) μ', (t.length : Int) ≤ m → t.length ≤ 300 → t.all sgn = true → OnlyA a μ μ' → StA μ' a → Q (.str t) μ'
  | _ => False
def wordsL : List (List Nat) := [[97], [97, 98], [98], [97, 98, 97], [32], [10], [44], [97, 98, 99, 100, 101, 102, 103, 104], []]
theorem words_ok : ∀ w ∈ wordsL, w.length ≤ 8 ∧ w.all sgn = true := by decide
theorem GP__law_put : ∀ vs μ Q E, vs.length = 2 → G__law_put vs μ Q E → P__law_put vs μ Q E := by
  intro vs μ Q E hl q
  unfold G__law_put at q
  split at q
  rotate_left
  · exact q.elim
  rename_i a m
  obtain ⟨hm, hs, q⟩ := q
  have hlm : lim = 1000000 := rfl
  have hsl : strLim = 1000000 := rfl
  simp [zEI, P__law_put, M__law_put]
  refine ⟨by omega, ?_⟩
  simp [zEI, sFor, iRg1]
  refine ⟨by omega, by decide, by decide, hs, fun r1 μ1 a0 a1 o1 s1 => ?_⟩
  obtain ⟨v1, m1, e1⟩ := atI_in (l := [Val.int 3, Val.int 8, Val.int 30]) a0 a1
  obtain ⟨k, rfl, k0, k1⟩ : ∃ k : Int, v1 = .int k ∧ 0 < k ∧ k ≤ 30 := by
    simp at m1
    rcases m1 with rfl | rfl | rfl
    · exact ⟨3, rfl, by decide, by decide⟩
    · exact ⟨8, rfl, by decide, by decide⟩
    · exact ⟨30, rfl, by decide, by decide⟩
  simp [zEI, e1]
  refine ⟨k0, by omega, s1, fun r2 μ2 b0 b1 o2 s2 => ?_⟩
  simp only []
  refine ⟨by omega, by omega, ?_⟩
  refine forL_ind (fun items σ μ' => ∃ (t : List Nat) (j : Slot), σ = [.val (.ref a), .val (.int m), .val (.lst (wordsL.map Val.str)), .val (.str t), j] ∧ items.length * 8 + t.length ≤ 240 ∧ t.all sgn = true ∧ OnlyA a μ μ' ∧ StA μ' a) ?_ ?_ _ _ _ ⟨[], _, rfl, ?_, rfl, o1.trans o2, s2⟩
  · rintro σ μ' ⟨t, j, rfl, h1, h2, h3, h4⟩
    refine ⟨trivial, ?_⟩
    simp [zEI]
    rw [cut_to0 hm]
    refine q _ _ ?_ ?_ ?_ h3 h4
    · rw [List.length_take]; omega
    · rw [List.length_take]; simp at h1; omega
    · rw [List.all_eq_true] at h2 ⊢
      exact fun c hc => h2 c (List.mem_of_mem_take hc)
  · rintro v its σ μ' ⟨t, j, rfl, h1, h2, h3, h4⟩
    refine ⟨trivial, _, mt_nm _ _ _, fun N hN => ?_⟩
    rw [List.length_cons] at h1
    simp [zEI]
    refine ⟨by decide, by decide, h4, fun r3 μ3 c0 c1 o3 s3 => ?_⟩
    obtain ⟨w, mw, ew⟩ := atI_in (l := wordsL.map Val.str) c0 c1
    obtain ⟨w, mw', rfl⟩ := List.mem_map.mp mw
    obtain ⟨w1, w2⟩ := words_ok w mw'
    simp [zEI, ew]
    refine ⟨s3, fun c μ4 hc o4 s4 => ?_⟩
    simp [zEI]
    refine ⟨by omega, by decide, by decide, s4, fun r5 μ5 d0 d1 o5 s5 => ?_⟩
    obtain ⟨v, mv, ev⟩ := atI_in (l := [Val.str w, Val.str [c]]) (i := r5 / 2) (by omega) (by simp; omega)
    have hv : ∃ u, v = .str u ∧ u.length ≤ 8 ∧ u.all sgn = true := by
      simp at mv
      rcases mv with rfl | rfl
      · exact ⟨w, rfl, w1, w2⟩
      · exact ⟨[c], rfl, by simp, by simp [hc]⟩
    obtain ⟨u, rfl, u1, u2⟩ := hv
    simp [zEI, ev]
    refine ⟨divW (by decide) (by decide), by omega, hN _ _ ⟨t ++ u, _, rfl, by rw [List.length_append]; omega, by rw [List.all_append, h2, u2]; rfl, h3.trans (o3.trans (o4.trans o5)), s5⟩⟩
  · unfold rng
    rw [List.length_map, List.length_range]
    simp
    omega
def M__law_sheet : MS :=
  (sRet (mSl (mOp oMul (mCall (ck 2 G__law_put) (aCons (mVar 0) (aCons (mC (.int 60)) aNil))) (mOp oAdd (mC (.int 1)) (mCall (ck 2 G__law_drawn) (aCons (mVar 0) (aCons (mC (.int 5)) aNil))))) pNone (pSome (mOp oIx (mFrz (lDsp (aCons (mC (.int 200)) (aCons (mC (.int 20)) aNil)))) (mCall (ck 2 G__law_drawn) (aCons (mVar 0) (aCons (mC (.int 2)) aNil)))))))
def P__law_sheet : FnM := fnM 1 1 M__law_sheet
def G__law_sheet : FnM := fun vs μ Q _ => match vs with
  | [.ref a] => StA μ a ∧ ∀ (t : List Nat) μ', okSh (.str t) = true → OnlyA a μ μ' → StA μ' a → Q (.str t) μ'
  | _ => False
theorem GP__law_sheet : ∀ vs μ Q E, vs.length = 1 → G__law_sheet vs μ Q E → P__law_sheet vs μ Q E := by
  intro vs μ Q E hl q
  unfold G__law_sheet at q
  split at q
  rotate_left
  · exact q.elim
  rename_i a
  obtain ⟨hs, q⟩ := q
  have hlm : lim = 1000000 := rfl
  simp [zEI, P__law_sheet, M__law_sheet]
  refine ⟨by decide, hs, fun t μ1 t0 t1 t2 o1 s1 => ?_⟩
  simp [zEI]
  refine ⟨by decide, by decide, s1, fun r2 μ2 b0 b1 o2 s2 => ?_⟩
  simp [zEI]
  refine ⟨⟨by omega, by omega, by omega⟩, by omega, by decide, by decide, s2, fun r3 μ3 c0 c1 o3 s3 => ?_⟩
  obtain ⟨v, mv, ev⟩ := atI_in (l := [Val.int 200, Val.int 20]) c0 c1
  obtain ⟨k, rfl, k0, k1⟩ : ∃ k : Int, v = .int k ∧ 0 ≤ k ∧ k ≤ 200 := by
    simp at mv
    rcases mv with rfl | rfl
    · exact ⟨200, rfl, by decide, by decide⟩
    · exact ⟨20, rfl, by decide, by decide⟩
  simp [zEI, ev]
  rw [cut_to0 k0]
  refine q _ _ (okSh_str.mpr ⟨?_, ?_⟩) (o1.trans (o2.trans o3)) s3
  · rw [List.length_take]; omega
  · rw [List.all_eq_true] at t2 ⊢
    intro c hc
    obtain ⟨l, hl, hc⟩ := List.mem_flatten.mp (List.mem_of_mem_take hc)
    rw [List.eq_of_mem_replicate hl] at hc
    exact t2 c hc
def M__law_at : MS :=
  (sSeq (sAsg (.tp [(.nm 2), (.nm 3)]) (mTup (aCons (mC (.int 0)) (aCons (mC (.int 0)) aNil))))
    (sSeq (sFor (iStr' (mSl (mVar 0) pNone (pSome (mVar 1)))) (.nm 4)
    (sAsg (.tp [(.nm 2), (.nm 3)]) (mOp oIx (mFrz (lDsp (aCons (mTup (aCons (mVar 2) (aCons (mOp oAdd (mVar 3) (mC (.int 1))) aNil))) (aCons (mTup (aCons (mOp oAdd (mVar 2) (mC (.int 1))) (aCons (mC (.int 0)) aNil))) aNil)))) (mCB oInt1 (aCons (mOp oEq (mVar 4) (mC (.str [10]))) aNil)))))
    (sRet (mTup (aCons (mVar 2) (aCons (mVar 3) aNil))))))
def P__law_at : FnM := fnM 5 2 M__law_at
def G__law_at : FnM := fun vs μ Q _ => match vs with
  | [.str s, .int n] => 0 ≤ n ∧ Q (plV (pos s n.toNat)) μ
  | _ => False
theorem GP__law_at : ∀ vs μ Q E, vs.length = 2 → G__law_at vs μ Q E → P__law_at vs μ Q E := by
  intro vs μ Q E hl q
  unfold G__law_at at q
  split at q
  rotate_left
  · exact q.elim
  rename_i s n
  obtain ⟨hn, q⟩ := q
  have hlm : lim = 1000000 := rfl
  simp [zEI, P__law_at, M__law_at]
  refine ⟨by omega, ?_⟩
  simp [zEI, sFor, iStr']
  rw [cut_to0 hn]
  refine forL_ind (fun items σ μ' => ∃ (p : Nat × Nat) (rest : List Nat) (j : Slot), items = rest.map (fun c => Val.str [c]) ∧ σ = [.val (.str s), .val (.int n), .val (.int (p.1 : Nat)), .val (.int (p.2 : Nat)), j] ∧ μ' = μ ∧ Q (plV (rest.foldl stp p)) μ) ?_ ?_ _ _ _ ⟨(0, 0), s.take n.toNat, _, rfl, rfl, rfl, q⟩
  · rintro σ μ' ⟨p, rest, j, hi, rfl, rfl, h⟩
    cases rest with
    | cons r rest => cases hi
    | nil =>
      refine ⟨trivial, ?_⟩
      simp [zEI]
      exact ⟨by omega, h⟩
  · rintro v its σ μ' ⟨p, rest, j, hi, rfl, rfl, h⟩
    cases rest with
    | nil => cases hi
    | cons c rest =>
      cases hi
      refine ⟨trivial, _, mt_nm _ _ _, fun N hN => ?_⟩
      rw [List.foldl_cons] at h
      simp [zEI]
      refine ⟨by omega, ?_⟩
      unfold stp at h
      by_cases hc : c = 10
      · rw [if_pos hc] at h
        simp [zEI, hc]
        exact hN _ _ ⟨_, rest, _, rfl, rfl, rfl, h⟩
      · rw [if_neg hc] at h
        simp [zEI, hc]
        exact hN _ _ ⟨_, rest, _, rfl, rfl, rfl, h⟩

def M__law_edit : MS :=
  (sSeq (sOwn 2 (lCal lSorted (aCons (mFrz (lDsp (aCons (mCall (ck 2 G__law_drawn) (aCons (mVar 0) (aCons (mOp oAdd (mCB oLen (aCons (mVar 1) aNil)) (mC (.int 1))) aNil))) (aCons (mCall (ck 2 G__law_drawn) (aCons (mVar 0) (aCons (mOp oAdd (mCB oLen (aCons (mVar 1) aNil)) (mC (.int 1))) aNil))) aNil)))) aNil)))
    (sSeq (sIf (mB (mOp oGt (mCall (ck 2 G__law_drawn) (aCons (mVar 0) (aCons (mC (.int 3)) aNil))) (mC (.int 0))))
    (sOwnSet 2 (mC (.int 1)) (mCB oMin2 (aCons (mCB oLen (aCons (mVar 1) aNil)) (aCons (mOp oAdd (mOwnIx 2 (mC (.int 0))) (mCall (ck 2 G__law_drawn) (aCons (mVar 0) (aCons (mC (.int 4)) aNil)))) aNil))))
    sNil)
    (sSeq (sAsg (.nm 3) (mCall (ck 2 G__law_put) (aCons (mVar 0) (aCons (mCB oMin2 (aCons (mC (.int 40)) (aCons (mOp oSub (mOp oAdd (mOp oSub (mC (.int 200)) (mCB oLen (aCons (mVar 1) aNil))) (mOwnIx 2 (mC (.int 1)))) (mOwnIx 2 (mC (.int 0)))) aNil))) aNil))))
    (sRet (mTup (aCons (mCall (ck 2 G__law_at) (aCons (mVar 1) (aCons (mOwnIx 2 (mC (.int 0))) aNil))) (aCons (mCall (ck 2 G__law_at) (aCons (mVar 1) (aCons (mOwnIx 2 (mC (.int 1))) aNil))) (aCons (mVar 3) aNil))))))))
def P__law_edit : FnM := fnM 4 2 M__law_edit
def G__law_edit : FnM := fun vs μ Q _ => match vs with
  | [.ref a, .str s] => StA μ a ∧ okSh (.str s) = true ∧ ∀ (i j : Nat) (t : List Nat) μ', i ≤ j → j ≤ s.length → t.length ≤ 40 → s.length - (j - i) + t.length ≤ 200 → t.all sgn = true → OnlyA a μ μ' → StA μ' a → Q (.tup [plV (pos s i), plV (pos s j), .str t]) μ'
  | _ => False
theorem GP__law_edit : ∀ vs μ Q E, vs.length = 2 → G__law_edit vs μ Q E → P__law_edit vs μ Q E := by
  intro vs μ Q E hl q
  unfold G__law_edit at q
  split at q
  rotate_left
  · exact q.elim
  rename_i a s
  obtain ⟨hs, hok, q⟩ := q
  have hlm : lim = 1000000 := rfl
  have hsl := (okSh_str.mp hok).1
  simp [zEI, P__law_edit, M__law_edit]
  refine ⟨by omega, by omega, hs, fun r1 μ1 a0 a1 o1 s1 => ?_⟩
  simp [zEI]
  refine ⟨by omega, by omega, s1, fun r2 μ2 b0 b1 o2 s2 => ?_⟩
  simp [zEI]
  refine ⟨by omega, fun ms hp hpw => ?_⟩
  obtain ⟨x, y, rfl⟩ : ∃ x y, ms = [x, y] := by
    have hl := hp.length_eq
    match ms, hl with
    | [x, y], _ => exact ⟨x, y, rfl⟩
  have hx : x = r1 ∨ x = r2 := by simpa using hp.mem_iff.mp (show x ∈ [x, y] by simp)
  have hy : y = r1 ∨ y = r2 := by simpa using hp.mem_iff.mp (show y ∈ [x, y] by simp)
  have hxy : x ≤ y := by simpa using hpw
  have x0 : 0 ≤ x := by omega
  have y1 : y ≤ (s.length : Int) := by omega
  refine ⟨by decide, by decide, s2, fun r3 μ3 c0 c1 o3 s3 => ?_⟩
  simp [zEI]
  by_cases hr : 0 < r3
  · rw [if_pos hr]
    refine ⟨by decide, by decide, s3, fun r4 μ4 d0 d1 o4 s4 => ?_⟩
    have i21 : ixN 2 1 = some 1 := rfl
    simp [zEI, i21]
    have hz : x ≤ (if x + r4 < (s.length : Int) then x + r4 else (s.length : Int)) ∧ (if x + r4 < (s.length : Int) then x + r4 else (s.length : Int)) ≤ (s.length : Int) := by split <;> constructor <;> omega
    generalize (if x + r4 < (s.length : Int) then x + r4 else (s.length : Int)) = z at hz ⊢
    obtain ⟨z0, z1⟩ := hz
    refine ⟨by split <;> omega, s4, fun t μ5 t0 t1 t2 o5 s5 => ?_⟩
    simp [zEI]
    refine ⟨x0, ?_⟩
    simp [zEI]
    refine ⟨by omega, ?_⟩
    simp [zEI]
    refine ⟨by omega, ?_⟩
    have t0' : (t.length : Int) ≤ 200 - (s.length : Int) + z - x ∧ (t.length : Int) ≤ 40 := by
      split at t0 <;> constructor <;> omega
    exact q x.toNat (z).toNat t μ5 (by omega) (by omega) (by omega) (by omega) t2 (o1.trans (o2.trans (o3.trans (o4.trans o5)))) s5
  · rw [if_neg hr]
    refine ⟨by split <;> omega, s3, fun t μ5 t0 t1 t2 o5 s5 => ?_⟩
    simp [zEI]
    refine ⟨x0, ?_⟩
    simp [zEI]
    refine ⟨by omega, ?_⟩
    simp [zEI]
    refine ⟨by omega, ?_⟩
    have t0' : (t.length : Int) ≤ 200 - (s.length : Int) + y - x ∧ (t.length : Int) ≤ 40 := by
      split at t0 <;> constructor <;> omega
    exact q x.toNat (y).toNat t μ5 (by omega) (by omega) (by omega) (by omega) t2 (o1.trans (o2.trans (o3.trans o5))) s5

theorem subB_one (c : Nat) (l : List Nat) : subB [c] l = decide (c ∈ l) := by
  unfold subB
  have := PySem.StrLaws.found_one (S l) c
  rw [show S [c] = ⟨#[c]⟩ from rfl, this]
def abcN : List Nat := [97, 98, 99, 100, 101, 102, 103, 104, 105, 106, 107, 108, 109, 110, 111, 112, 113, 114, 115, 116, 117, 118, 119, 120, 121, 122]
theorem abc_ltr (c : Nat) : decide (c ∈ abcN) = ltr c := by
  have e : abcN = (List.range 26).map (· + 97) := by decide
  rw [e]
  unfold ltr
  by_cases h : 97 ≤ c ∧ c ≤ 122
  · rw [decide_eq_true h.1, decide_eq_true h.2]
    exact decide_eq_true (List.mem_map.mpr ⟨c - 97, List.mem_range.mpr (by omega), by omega⟩)
  · rw [← Bool.decide_and, decide_eq_false h]
    refine decide_eq_false fun z => h ?_
    obtain ⟨i, hi, rfl⟩ := List.mem_map.mp z
    rw [List.mem_range] at hi
    omega
def seqN : Nat → Nat → List Val
  | _, 0 => []
  | k, m + 1 => .int (k : Nat) :: seqN (k + 1) m
theorem seqN_eq : ∀ (m k : Nat), seqN k m = (List.range m).map fun j => Val.int ((k + j : Nat) : Int)
  | 0, k => rfl
  | m + 1, k => by
    rw [seqN, seqN_eq m (k + 1), List.range_succ_eq_map, List.map_cons, List.map_map]
    refine congrArg _ (List.map_congr_left fun j _ => ?_)
    show Val.int ((k + 1 + j : Nat) : Int) = .int ((k + (j + 1) : Nat) : Int)
    rw [Nat.add_assoc, Nat.add_comm 1 j]
theorem rng_seq (n : Nat) : rng 0 (n : Int) = seqN 0 n := by
  rw [rng_nat, seqN_eq]
  exact List.map_congr_left fun j _ => by rw [Nat.zero_add]
def prevL (l : List Nat) (i : Nat) : Bool := if i = 0 then false else ltr (l.getD (i - 1) 0)
theorem run_while {D : MEnds} {E : QX} {μ : Sto} {s : List Nat} {o j3 : Slot} : ∀ (n e : Nat), ((s.drop e).takeWhile ltr).length = n → D.nx [.val (.str s), o, .val (.str abcN), j3, .val (.int ((e + n : Nat) : Int))] μ → whileN (mAndT (mB (mOp oLt (mVar 4) (mCB oLen (aCons (mVar 0) aNil)))) (mB (mOp (oIn false) (mOp oIx (mVar 0) (mVar 4)) (mVar 2)))) (sAsg (Tg.nm 4) (mOp oAdd (mVar 4) (mC (Val.int 1)))) D E (n + 1) [.val (.str s), o, .val (.str abcN), j3, .val (.int (e : Nat))] μ
  | n, e, hn, q => by
    unfold whileN
    by_cases he : e < s.length
    · have hat : atI s (e : Int) = some s[e] := by rw [atI_nat' (by omega)]; exact List.getElem?_eq_getElem he
      rw [List.drop_eq_getElem_cons he, List.takeWhile_cons] at hn
      by_cases hc : ltr s[e] = true
      · rw [if_pos hc, List.length_cons] at hn
        cases n with
        | zero => cases hn
        | succ n =>
          simp [zEI, he, hat, subB_one, abc_ltr, hc]
          refine run_while n (e + 1) (by omega) ?_
          rw [show e + 1 + n = e + (n + 1) by omega]
          exact q
      · rw [if_neg hc] at hn
        have hn : n = 0 := hn.symm
        subst hn
        simp [zEI, he, hat, subB_one, abc_ltr, hc]
        exact q
    · rw [List.drop_eq_nil_of_le (by omega)] at hn
      have hn : n = 0 := hn.symm
      subst hn
      simp [zEI, he]
      exact q
def M__law_runs : MS :=
  (sSeq (sOwn 1 (lDsp aNil))
    (sSeq (sAsg (.nm 2) (mC (.str [97, 98, 99, 100, 101, 102, 103, 104, 105, 106, 107, 108, 109, 110, 111, 112, 113, 114, 115, 116, 117, 118, 119, 120, 121, 122])))
    (sSeq (sFor (iRg1 (mCB oLen (aCons (mVar 0) aNil))) (.nm 3)
    (sIf (mAndT (mB (mOp (oIn false) (mOp oIx (mVar 0) (mVar 3)) (mVar 2))) (mOrT (mB (mOp oEq (mVar 3) (mC (.int 0)))) (mB (mOp (oIn true) (mOp oIx (mVar 0) (mOp oSub (mVar 3) (mC (.int 1)))) (mVar 2)))))
    (sSeq (sAsg (.nm 4) (mVar 3))
    (sSeq (sWhile (mAndT (mB (mOp oLt (mVar 4) (mCB oLen (aCons (mVar 0) aNil)))) (mB (mOp (oIn false) (mOp oIx (mVar 0) (mVar 4)) (mVar 2))))
    (sAsg (.nm 4) (mOp oAdd (mVar 4) (mC (.int 1)))))
    (sOwnApp 1 (mTup (aCons (mVar 3) (aCons (mVar 4) aNil))))))
    sNil))
    (sFrz 1 (sRet (mVar 1))))))
def P__law_runs : FnM := fnM 5 1 M__law_runs
def G__law_runs : FnM := fun vs μ Q _ => match vs with
  | [.str s] => s.length ≤ 1000 ∧ Q (.lst ((runsL s).map runV)) μ
  | _ => False
theorem GP__law_runs : ∀ vs μ Q E, vs.length = 1 → G__law_runs vs μ Q E → P__law_runs vs μ Q E := by
  intro vs μ Q E hl q
  unfold G__law_runs at q
  split at q
  rotate_left
  · exact q.elim
  rename_i s
  obtain ⟨hs, q⟩ := q
  have hlm : lim = 1000000 := rfl
  simp [zEI, P__law_runs, M__law_runs]
  simp [zEI, sFor, iRg1]
  refine ⟨by omega, ?_⟩
  rw [rng_seq]
  refine forL_ind (fun items σ μ' => ∃ (k m : Nat) (done : List (Nat × Nat)) (j3 j4 : Slot), items = seqN k m ∧ k + m = s.length ∧ σ = [.val (.str s), .own (done.map runV), .val (.str abcN), j3, j4] ∧ done.length ≤ k ∧ μ' = μ ∧ Q (.lst ((done ++ lawFrom (prevL s k) k (s.drop k)).map runV)) μ) ?_ ?_ _ _ _ ⟨0, s.length, [], _, _, rfl, by omega, rfl, Nat.le_refl _, rfl, q⟩
  · rintro σ μ' ⟨k, m, done, j3, j4, hi, hk, rfl, hd, rfl, h⟩
    cases m with
    | succ m => cases hi
    | zero =>
      refine ⟨trivial, ?_⟩
      rw [List.drop_eq_nil_of_le (by omega)] at h
      simp [lawFrom] at h
      simp [zEI]
      exact h
  · rintro v its σ μ' ⟨k, m, done, j3, j4, hi, hk, rfl, hd, rfl, h⟩
    cases m with
    | zero => cases hi
    | succ m =>
      cases hi
      refine ⟨trivial, _, mt_nm _ _ _, fun N hN => ?_⟩
      have hkl : k < s.length := by omega
      have hat : atI s (k : Int) = some s[k] := by rw [atI_nat' (by omega)]; exact List.getElem?_eq_getElem hkl
      rw [List.drop_eq_getElem_cons hkl] at h
      simp [zEI, hat, subB_one, abc_ltr]
      have e0 : lawFrom (prevL s k) k (s[k] :: s.drop (k + 1)) = (if ltr s[k] && !prevL s k then [(k, k + ((s.drop k).takeWhile ltr).length)] else []) ++ lawFrom (ltr s[k]) (k + 1) (s.drop (k + 1)) := by rw [lawFrom, List.drop_eq_getElem_cons hkl]
      have e1 : prevL s (k + 1) = ltr s[k] := by
        unfold prevL
        rw [if_neg (Nat.succ_ne_zero k), Nat.add_sub_cancel, List.getD_eq_getElem?_getD, List.getElem?_eq_getElem hkl]
        rfl
      rw [e0] at h
      have no : (ltr s[k] && !prevL s k) = false → ∀ a b : Slot, N [.val (.str s), .own (done.map runV), .val (.str abcN), a, b] μ' := fun z a b => by
        rw [z, if_neg Bool.false_ne_true, List.nil_append, ← e1] at h
        exact hN _ _ ⟨k + 1, m, done, _, _, rfl, by omega, rfl, by omega, rfl, h⟩
      have yes : (ltr s[k] && !prevL s k) = true → ∀ a b : Slot, N [.val (.str s), .own (done.map runV ++ [.tup [.int (k : Nat), .int ((k + ((s.drop k).takeWhile ltr).length : Nat) : Int)]]), .val (.str abcN), a, b] μ' := fun z a b => by
        rw [z, if_pos rfl, ← List.append_assoc, ← e1] at h
        exact hN _ _ ⟨k + 1, m, done ++ [(k, k + ((s.drop k).takeWhile ltr).length)], _, _, rfl, by omega, by rw [List.map_append]; rfl, by rw [List.length_append, List.length_singleton]; omega, rfl, h⟩
      cases hc : ltr s[k] with
      | false => simp; exact no (by rw [hc]; rfl) _ _
      | true =>
        simp
        by_cases h0 : k = 0
        · rw [if_pos h0]
          have hp : prevL s k = false := if_pos h0
          refine ⟨_, run_while _ k rfl ?_⟩
          simp
          exact ⟨by omega, by omega, yes (by rw [hc, hp]; rfl) _ _⟩
        · rw [if_neg h0]
          have hk1 : k - 1 < s.length := by omega
          have hat1 : atI s ((k : Int) - 1) = some s[k - 1] := by
            rw [atI_nat' (by omega), show ((k : Int) - 1).toNat = k - 1 by omega]
            exact List.getElem?_eq_getElem hk1
          have hp : prevL s k = ltr s[k - 1] := by
            unfold prevL
            rw [if_neg h0, List.getD_eq_getElem?_getD, List.getElem?_eq_getElem hk1]
            rfl
          simp [hat1]
          cases hd : ltr s[k - 1] with
          | true => simp; exact no (by rw [hc, hp, hd]; rfl) _ _
          | false =>
            simp
            refine ⟨_, run_while _ k rfl ?_⟩
            simp
            exact ⟨by omega, by omega, yes (by rw [hc, hp, hd]; rfl) _ _⟩

theorem lcL_ind {t : Tg} {me : ME} {ok : Sto → Prop} {σ : Lc} {Q : List Val → Sto → Prop} (I : List Val → List Val → Sto → Prop) (hn : ∀ acc μ, I [] acc μ → ok μ ∧ Q acc μ) (hs : ∀ v vs acc μ, I (v :: vs) acc μ → ok μ ∧ ∃ σ1, t.mt v σ = some σ1 ∧ ∀ K : QV, (∀ y μ2, I vs (acc ++ [y]) μ2 → K y μ2) → me σ1 μ K (fun _ _ => False)) : ∀ vs acc μ, I vs acc μ → lcL t mYes me ok σ Q vs acc μ
  | [], acc, μ, h => hn acc μ h
  | v :: vs, acc, μ, h => by
    obtain ⟨h1, σ1, h2, h3⟩ := hs v vs acc μ h
    refine ⟨h1, ?_⟩
    rw [h2]
    exact h3 _ fun y μ2 h => lcL_ind I hn hs vs (acc ++ [y]) μ2 h
def T__law_name : MS := (sSeq (sAsg (.nm 5) (mOp oIx (mFrz (lDsp (aCons (mC (.str [97, 98])) (aCons (mC (.str [97, 98, 99, 100, 101, 102, 103, 104, 105, 106, 107, 108, 109, 110, 111, 112, 113, 114, 115, 116, 117, 118, 119, 120, 121, 122])) aNil)))) (mCall (ck 2 G__law_drawn) (aCons (mVar 0) (aCons (mC (.int 2)) aNil)))))
    (sRet (mSm gJoin (mC (.str [])) (mFrz (lComp (iRg1 (mOp oAdd (mC (.int 1)) (mCall (ck 2 G__law_drawn) (aCons (mVar 0) (aCons (mC (.int 8)) aNil))))) (.nm 6) [6] mYes (mOp oIx (mVar 5) (mCall (ck 2 G__law_drawn) (aCons (mVar 0) (aCons (mCB oLen (aCons (mVar 5) aNil)) aNil)))))))))
theorem wordB_of {w : List Nat} (h1 : 1 ≤ w.length) (h2 : w.length ≤ 8) (h : w.all ltr = true) : wordB (.str w) = true := by
  simp [wordB, h1, h2]
  exact List.all_eq_true.mp h
theorem abc_all : ∀ c ∈ abcN, ltr c = true := by decide
theorem strsOf_one : ∀ w : List Nat, strsOf (w.map fun c => Val.str [c]) = some (w.map fun c => [c])
  | [] => rfl
  | c :: w => by rw [List.map_cons, strsOf, strsOf_one w]; rfl
theorem join_one : ∀ w : List Nat, TL.joinL [] (w.map fun c => [c]) = w
  | [] => rfl
  | [c] => rfl
  | c :: d :: w => by
    have := join_one (d :: w)
    simp only [List.map_cons] at this ⊢
    rw [TL.joinL, this]
    · rfl
    all_goals simp
theorem name_tail {a : Nat} {s : List Nat} {μ : Sto} {Q : QV} {E : QX} {R : Lc → Sto → Prop} (q : ∀ (w : List Nat) μ', wordB (.str w) = true → OnlyA a μ μ' → StA μ' a → Q (.str w) μ') (hs : StA μ a) (j2 j3 j4 : Slot) : T__law_name { nx := R, rt := Q } [.val (.ref a), .val (.str s), j2, j3, j4, .no, .no] μ E := by
  have hlm : lim = 1000000 := rfl
  simp [zEI, T__law_name]
  refine ⟨by omega, by decide, by decide, hs, fun r1 μ1 a0 a1 o1 s1 => ?_⟩
  obtain ⟨v1, m1, e1⟩ := atI_in (l := [Val.str [97, 98], Val.str abcN]) a0 a1
  obtain ⟨L, rfl, l0, l1, l2⟩ : ∃ L : List Nat, v1 = .str L ∧ 0 < L.length ∧ L.length ≤ 26 ∧ ∀ c ∈ L, ltr c = true := by
    simp at m1
    rcases m1 with rfl | rfl
    · exact ⟨[97, 98], rfl, by decide, by decide, by decide⟩
    · exact ⟨abcN, rfl, by decide, by decide, abc_all⟩
  unfold abcN at e1
  simp [zEI, e1]
  simp [zEI, lComp, iRg1]
  refine ⟨by decide, by decide, s1, fun r2 μ2 b0 b1 o2 s2 => ?_⟩
  simp [zEI, wipeM, hideM]
  refine ⟨by omega, by omega, ?_⟩
  refine lcL_ind (fun its acc μ' => ∃ w : List Nat, acc = w.map (fun c => Val.str [c]) ∧ its.length + w.length = (1 + r2).toNat ∧ (∀ c ∈ w, ltr c = true) ∧ OnlyA a μ μ' ∧ StA μ' a) ?_ ?_ _ _ _ ⟨[], rfl, ?_, fun c hc => (by cases hc), o1.trans o2, s2⟩
  · rintro acc μ' ⟨w, rfl, h1, h2, h3, h4⟩
    refine ⟨trivial, ?_⟩
    have h1 : 0 + w.length = (1 + r2).toNat := h1
    have qq := q w μ' (wordB_of (by omega) (by omega) (List.all_eq_true.mpr h2)) h3 h4
    rw [strsOf_one]
    have hsl : strLim = 1000000 := rfl
    show (TL.joinL [] (w.map fun c => [c])).length ≤ strLim ∧ (w.map fun c => [c]).length ≤ 1000 ∧ Q (.str (TL.joinL [] (w.map fun c => [c]))) μ'
    rw [join_one, List.length_map]
    exact ⟨by omega, by omega, qq⟩
  · rintro v vs acc μ' ⟨w, rfl, h1, h2, h3, h4⟩
    refine ⟨trivial, _, mt_nm _ _ _, fun K hK => ?_⟩
    simp [zEI]
    refine ⟨by omega, by omega, h4, fun r5 μ5 d0 d1 o5 s5 => ?_⟩
    obtain ⟨c, mc, ec⟩ := atI_in (l := L) d0 d1
    simp [zEI, ec]
    rw [List.length_cons] at h1
    refine hK _ _ ⟨w ++ [c], by rw [List.map_append]; rfl, by rw [List.length_append, List.length_singleton]; omega, fun d hd => ?_, h3.trans o5, s5⟩
    rcases List.mem_append.mp hd with hd | hd
    · exact h2 d hd
    · rw [List.mem_singleton.mp hd]; exact l2 c mc
  · unfold rng
    rw [List.length_map, List.length_range]
    simp
theorem runsL_len (s : List Nat) : (runsL s).length ≤ s.length := law_many s false 0
def M__law_name : MS :=
  (sSeq (sAsg (.nm 2) (mCall (ck 1 G__law_runs) (aCons (mVar 1) aNil)))
    (sSeq (sIf (mAndT (mB (mOp oNe (mVar 2) (mFrz (lDsp aNil)))) (mB (mOp oGt (mCall (ck 2 G__law_drawn) (aCons (mVar 0) (aCons (mC (.int 4)) aNil))) (mC (.int 0)))))
    (sSeq (sAsg (.tp [(.nm 3), (.nm 4)]) (mOp oIx (mVar 2) (mCall (ck 2 G__law_drawn) (aCons (mVar 0) (aCons (mCB oLen (aCons (mVar 2) aNil)) aNil)))))
    (sIf (mOrT (mB (mOp oLt (mOp oSub (mVar 4) (mVar 3)) (mC (.int 9)))) (mB (mOp oEq (mCall (ck 2 G__law_drawn) (aCons (mVar 0) (aCons (mC (.int 2)) aNil))) (mC (.int 0)))))
    (sRet (mSl (mSl (mVar 1) (pSome (mVar 3)) (pSome (mVar 4))) pNone (pSome (mOp oAdd (mC (.int 1)) (mCall (ck 2 G__law_drawn) (aCons (mVar 0) (aCons (mC (.int 8)) aNil)))))))
    sNil))
    sNil)
    (sSeq (sAsg (.nm 5) (mOp oIx (mFrz (lDsp (aCons (mC (.str [97, 98])) (aCons (mC (.str [97, 98, 99, 100, 101, 102, 103, 104, 105, 106, 107, 108, 109, 110, 111, 112, 113, 114, 115, 116, 117, 118, 119, 120, 121, 122])) aNil)))) (mCall (ck 2 G__law_drawn) (aCons (mVar 0) (aCons (mC (.int 2)) aNil)))))
    (sRet (mSm gJoin (mC (.str [])) (mFrz (lComp (iRg1 (mOp oAdd (mC (.int 1)) (mCall (ck 2 G__law_drawn) (aCons (mVar 0) (aCons (mC (.int 8)) aNil))))) (.nm 6) [6] mYes (mOp oIx (mVar 5) (mCall (ck 2 G__law_drawn) (aCons (mVar 0) (aCons (mCB oLen (aCons (mVar 5) aNil)) aNil)))))))))))
def P__law_name : FnM := fnM 7 2 M__law_name
def G__law_name : FnM := fun vs μ Q _ => match vs with
  | [.ref a, .str s] => StA μ a ∧ s.length ≤ 1000 ∧ ∀ (w : List Nat) μ', wordB (.str w) = true → OnlyA a μ μ' → StA μ' a → Q (.str w) μ'
  | _ => False
theorem GP__law_name : ∀ vs μ Q E, vs.length = 2 → G__law_name vs μ Q E → P__law_name vs μ Q E := by
  intro vs μ Q E hl q
  unfold G__law_name at q
  split at q
  rotate_left
  · exact q.elim
  rename_i a s
  obtain ⟨hs, hsl, q⟩ := q
  have hlm : lim = 1000000 := rfl
  have hrl := runsL_len s
  have tail : ∀ (j2 j3 j4 : Slot) (μ' : Sto), OnlyA a μ μ' → StA μ' a → T__law_name { nx := fun _ μ' => Q .non μ', rt := Q } [.val (.ref a), .val (.str s), j2, j3, j4, .no, .no] μ' E := fun j2 j3 j4 μ' o h => name_tail (fun w μ2 hw o2 h2 => q w μ2 hw (o.trans o2) h2) h j2 j3 j4
  simp [zEI, P__law_name, M__law_name]
  refine ⟨hsl, ?_⟩
  simp [zEI]
  have hd : deeps μ 59 ((runsL s).map runV) = some ((runsL s).map fun x => PyData.tuple [.int (x.1 : Nat), .int (x.2 : Nat)]) := deeps_map (fun x => by simp [runV, deep_tup, deeps_cons, deeps_nil, deep_int]) _
  rw [hd]
  have he : PyData.eqv (.list ((runsL s).map fun x => PyData.tuple [.int (x.1 : Nat), .int (x.2 : Nat)])) (.list []) = (runsL s).isEmpty := by
    cases runsL s <;> simp [PyData.eqv, PyData.eqvAll]
  simp [he]
  by_cases hr : runsL s = []
  · rw [if_pos hr]
    have := tail (.val (.lst ((runsL s).map runV))) .no .no μ .refl hs
    simp [zEI, T__law_name] at this
    exact this
  · rw [if_neg hr]
    have hr1 : 0 < (runsL s).length := List.length_pos_iff.mpr hr
    refine ⟨by decide, by decide, hs, fun r1 μ1 a0 a1 o1 s1 => ?_⟩
    simp [zEI]
    by_cases h1 : 0 < r1
    · rw [if_pos h1]
      refine ⟨by omega, by omega, s1, fun r2 μ2 b0 b1 o2 s2 => ?_⟩
      obtain ⟨v, mv, ev⟩ := atI_in (l := (runsL s).map runV) b0 (by rw [List.length_map]; exact b1)
      obtain ⟨x, mx, rfl⟩ := List.mem_map.mp mv
      obtain ⟨x1, x2, x3⟩ := runs_mem mx
      have ret : ∀ (r4 : Int) μ4, 0 ≤ r4 → r4 < 8 → OnlyA a μ μ4 → StA μ4 a → Q (.str (MW.cut (MW.cut s (some ((x.1 : Nat) : Int)) (some ((x.2 : Nat) : Int))) none (some (1 + r4)))) μ4 := fun r4 μ4 c0 c1 o4 s4 => by
        rw [cut_mid, cut_to0 (by omega)]
        refine q _ _ (wordB_of ?_ ?_ ?_) o4 s4
        · rw [List.length_take, List.length_take, List.length_drop]; omega
        · rw [List.length_take]; omega
        · exact List.all_eq_true.mpr fun c hc => x3 c (List.mem_of_mem_take hc)
      simp [zEI, ev, runV]
      by_cases h2 : (x.2 : Int) - (x.1 : Int) < 9
      · rw [if_pos h2]
        refine ⟨by decide, by decide, s2, fun r4 μ4 c0 c1 o4 s4 => ?_⟩
        simp [zEI]
        exact ret r4 μ4 c0 c1 (o1.trans (o2.trans o4)) s4
      · rw [if_neg h2]
        refine ⟨by decide, by decide, s2, fun r3 μ3 c0 c1 o3 s3 => ?_⟩
        simp [zEI]
        by_cases h3 : r3 = 0
        · rw [if_pos h3]
          refine ⟨by decide, by decide, s3, fun r4 μ4 d0 d1 o4 s4 => ?_⟩
          simp [zEI]
          exact ret r4 μ4 d0 d1 (o1.trans (o2.trans (o3.trans o4))) s4
        · rw [if_neg h3]
          have := tail (.val (.lst ((runsL s).map runV))) (.val (.int (x.1 : Nat))) (.val (.int (x.2 : Nat))) μ3 (o1.trans (o2.trans o3)) s3
          simp [zEI, T__law_name] at this
          exact this
    · rw [if_neg h1]
      have := tail (.val (.lst ((runsL s).map runV))) .no .no μ1 o1 s1
      simp [zEI, T__law_name] at this
      exact this
def M__law_want : MS :=
  (sSeq (sAsg (.nm 2) (mCall (ck 2 G__law_at) (aCons (mVar 1) (aCons (mCall (ck 2 G__law_drawn) (aCons (mVar 0) (aCons (mOp oAdd (mCB oLen (aCons (mVar 1) aNil)) (mC (.int 1))) aNil))) aNil))))
    (sSeq (sAsg (.nm 3) (mCall (ck 2 G__law_name) (aCons (mVar 0) (aCons (mVar 1) aNil))))
    (sRet (mOp oIx (mFrz (lDsp (aCons (mTup (aCons (mC (.str [102, 105, 110, 100])) (aCons (mVar 3) aNil))) (aCons (mTup (aCons (mC (.str [114, 111, 119, 115])) (aCons (mVar 3) aNil))) (aCons (mTup (aCons (mC (.str [119, 111, 114, 100])) (aCons (mVar 2) aNil))) (aCons (mTup (aCons (mC (.str [114, 101, 110, 97, 109, 101])) (aCons (mVar 2) (aCons (mVar 3) aNil)))) aNil)))))) (mCall (ck 2 G__law_drawn) (aCons (mVar 0) (aCons (mC (.int 4)) aNil)))))))
def P__law_want : FnM := fnM 4 2 M__law_want
def G__law_want : FnM := fun vs μ Q _ => match vs with
  | [.ref a, .str s] => StA μ a ∧ s.length ≤ 1000 ∧ ∀ w μ', plain w = true → (askOf w).isSome = true → OnlyA a μ μ' → StA μ' a → (∀ x, askOf w = some x → (ansV s x).isSome = true) → Q w μ'
  | _ => False
theorem GP__law_want : ∀ vs μ Q E, vs.length = 2 → G__law_want vs μ Q E → P__law_want vs μ Q E := by
  intro vs μ Q E hl q
  unfold G__law_want at q
  split at q
  rotate_left
  · exact q.elim
  rename_i a s
  obtain ⟨hs, hsl, q⟩ := q
  have hlm : lim = 1000000 := rfl
  simp [zEI, P__law_want, M__law_want]
  refine ⟨by omega, by omega, hs, fun r1 μ1 a0 a1 o1 s1 => ?_⟩
  simp [zEI]
  refine ⟨a0, ?_⟩
  simp [zEI]
  refine ⟨s1, hsl, fun w μ2 hw o2 s2 => ?_⟩
  simp [zEI]
  refine ⟨by omega, by omega, by omega, by decide, by decide, s2, fun r3 μ3 b0 b1 o3 s3 => ?_⟩
  have tv : twoV (plV (pos s r1.toNat)) = true := rfl
  obtain ⟨v, mv, ev⟩ := atI_in (l := [Val.tup [.str [102, 105, 110, 100], .str w], .tup [.str [114, 111, 119, 115], .str w], .tup [.str [119, 111, 114, 100], plV (pos s r1.toNat)], .tup [.str [114, 101, 110, 97, 109, 101], plV (pos s r1.toNat), .str w]]) b0 b1
  simp [zEI, ev]
  have hv : plain v = true ∧ (askOf v).isSome = true := by
    simp at mv
    rcases mv with rfl | rfl | rfl | rfl
    · exact ⟨by simp [plain_tup, plains_cons, plains_nil, plain_str], by simp [askOf, kFind, hw]⟩
    · exact ⟨by simp [plain_tup, plains_cons, plains_nil, plain_str], by simp [askOf, kFind, kRows, hw]⟩
    · exact ⟨by simp [plain_tup, plains_cons, plains_nil, plain_str, plain_pl], by simp [askOf, kFind, kRows, kWord, tv]⟩
    · exact ⟨by simp [plain_tup, plains_cons, plains_nil, plain_str, plain_pl], by simp [askOf, kRen, hw, tv]⟩
  refine q v μ3 hv.1 hv.2 (o1.trans (o2.trans o3)) s3 fun x hx => ?_
  have pp := placeN_pos (s := s) (n := r1.toNat) (by omega)
  simp at mv
  rcases mv with rfl | rfl | rfl | rfl
  · simp [askOf, kFind, hw] at hx; subst hx; rfl
  · simp [askOf, kFind, kRows, hw] at hx; subst hx; rfl
  · simp [askOf, kFind, kRows, kWord, tv] at hx; subst hx; simp [ansV, pp]
  · simp [askOf, kRen, hw, tv] at hx; subst hx; simp [ansV, pp]

/-! ### _law_numbers -/
def nent (s : List Nat) (n : Nat) : (Int × Int) × Int := ((((pos s n).1 : Nat), ((pos s n).2 : Nat)), (n : Nat))
def numsP (s : List Nat) (i : Nat) : List ((Int × Int) × Int) := (List.range (i + 1)).map (nent s)
theorem nkey_inj {s : List Nat} {n m : Nat} (hn : n ≤ s.length) (hm : m ≤ s.length) (h : (nent s n).1 = (nent s m).1) : n = m := by
  have h1 : ((pos s n).1 : Int) = (pos s m).1 := congrArg Prod.fst h
  have h2 : ((pos s n).2 : Int) = (pos s m).2 := congrArg Prod.snd h
  exact pos_inj hn hm (Prod.ext (by omega) (by omega))
theorem pget_nums {s : List Nat} {n : Nat} (hn : n ≤ s.length) : ∀ (xs : List Nat), (∀ x ∈ xs, x ≤ s.length) → pGet (xs.map (nent s)) (nent s n).1 = if n ∈ xs then some (n : Int) else none
  | [], _ => by simp [pGet]
  | x :: xs, h => by
    rw [List.map_cons]
    show (if (nent s x).1 = (nent s n).1 then some (nent s x).2 else pGet (xs.map (nent s)) (nent s n).1) = _
    by_cases e : x = n
    · subst e
      rw [if_pos rfl, if_pos List.mem_cons_self]
      rfl
    · rw [if_neg (fun z => e (nkey_inj (h x List.mem_cons_self) hn z)), pget_nums hn xs fun y hy => h y (List.mem_cons_of_mem _ hy)]
      by_cases hm : n ∈ xs
      · rw [if_pos hm, if_pos (List.mem_cons_of_mem _ hm)]
      · rw [if_neg hm, if_neg fun z => (List.mem_cons.mp z).elim (fun z => e z.symm) hm]
theorem nums_get {s : List Nat} {n : Nat} (hn : n ≤ s.length) : pGet (numsP s s.length) (nent s n).1 = some (n : Int) := by
  unfold numsP
  rw [pget_nums hn _ (fun x hx => by have := List.mem_range.mp hx; omega), if_pos (List.mem_range.mpr (by omega))]
theorem pk_pl (p : Nat × Nat) : pkOf (plV p) = some ((p.1 : Int), (p.2 : Int)) := rfl
theorem nums_pos {s : List Nat} {n : Nat} (hn : n ≤ s.length) : pGet (numsP s s.length) (((pos s n).1 : Nat), ((pos s n).2 : Nat)) = some (n : Int) := nums_get hn
def M__law_numbers : MS :=
  (sSeq (sParP 1 2 3 0 0 0 0 0)
    (sSeq (sFor (iEnumS' (mVar 0)) (.tp [(.nm 4), (.nm 5)])
    (sSeq (sAsg (.tp [(.nm 2), (.nm 3)]) (mOp oIx (mFrz (lDsp (aCons (mTup (aCons (mVar 2) (aCons (mOp oAdd (mVar 3) (mC (.int 1))) aNil))) (aCons (mTup (aCons (mOp oAdd (mVar 2) (mC (.int 1))) (aCons (mC (.int 0)) aNil))) aNil)))) (mCB oInt1 (aCons (mOp oEq (mVar 5) (mC (.str [10]))) aNil))))
    (sOwnPPut 1 (mTup (aCons (mVar 2) (aCons (mVar 3) aNil))) (mOp oAdd (mVar 4) (mC (.int 1))))))
    (sFrzP 1 (sRet (mVar 1)))))
def P__law_numbers : FnM := fnM 6 1 M__law_numbers
def G__law_numbers : FnM := fun vs μ Q _ => match vs with
  | [.str s] => s.length ≤ 1000 ∧ Q (.pmp (numsP s s.length)) μ
  | _ => False
theorem GP__law_numbers : ∀ vs μ Q E, vs.length = 1 → G__law_numbers vs μ Q E → P__law_numbers vs μ Q E := by
  intro vs μ Q E hl q
  unfold G__law_numbers at q
  split at q
  rotate_left
  · exact q.elim
  rename_i s
  obtain ⟨hs, q⟩ := q
  have hlm : lim = 1000000 := rfl
  simp [zEI, P__law_numbers, M__law_numbers]
  simp [zEI, sFor, iEnumS']
  rw [enumL_F]
  refine forL_ind (fun items σ μ' => ∃ (k : Nat) (j3 j4 : Slot), μ' = μ ∧ k ≤ s.length ∧ items = enF k ((s.drop k).map fun c => Val.str [c]) ∧ σ = [.val (.str s), .ownP (numsP s k), .val (.int ((pos s k).1 : Nat)), .val (.int ((pos s k).2 : Nat)), j3, j4]) ?_ ?_ _ _ _ ⟨0, .no, .no, rfl, Nat.zero_le _, rfl, rfl⟩
  · rintro σ μ' ⟨k, j3, j4, rfl, hk, hi, rfl⟩
    have hk' : k = s.length := by
      rcases Nat.lt_or_ge k s.length with h | h
      · rw [List.drop_eq_getElem_cons h] at hi
        cases hi
      · omega
    subst hk'
    refine ⟨trivial, ?_⟩
    simp [zEI]
    exact q
  · rintro v its σ μ' ⟨k, j3, j4, rfl, hk, hi, rfl⟩
    have hk' : k < s.length := by
      rcases Nat.lt_or_ge k s.length with h | h
      · exact h
      · rw [List.drop_eq_nil_of_le h] at hi
        cases hi
    rw [List.drop_eq_getElem_cons hk'] at hi
    cases hi
    refine ⟨trivial, _, by simp [mt_nm, mt_tp, mts_cons, mts_nil]; rfl, fun N hN => ?_⟩
    have hp : pos s (k + 1) = stp (pos s k) s[k] := pos_succ (List.getElem?_eq_getElem hk')
    have put : ∀ (r c : Nat), pos s (k + 1) = (r, c) → pGet (numsP s k) ((r : Int), (c : Int)) = none ∧ numsP s k ++ [(((r : Int), (c : Int)), (k : Int) + 1)] = numsP s (k + 1) := fun r c e => by
      have e2 : ((r : Int), (c : Int)) = (nent s (k + 1)).1 := by rw [nent, e]
      constructor
      · rw [e2]
        unfold numsP
        rw [pget_nums (by omega) _ (fun x hx => by have := List.mem_range.mp hx; omega), if_neg (fun z => by have := List.mem_range.mp z; omega)]
      · unfold numsP
        rw [List.range_succ (n := k + 1), List.map_append, e2]
        rfl
    have hlen : (numsP s k).length < lim := by
      unfold numsP
      rw [List.length_map, List.length_range]
      omega
    simp [zEI]
    refine ⟨by omega, ?_⟩
    unfold stp at hp
    by_cases hc : s[k] = 10
    · rw [if_pos hc] at hp
      obtain ⟨p1, p2⟩ := put _ _ hp
      simp [zEI, hc, pkOf]
      refine ⟨by omega, by simpa using p1, hlen, hN _ _ ⟨k + 1, .val (.int k), .val (.str [10]), rfl, hk', rfl, ?_⟩⟩
      rw [← p2, hp]
      simp
    · rw [if_neg hc] at hp
      obtain ⟨p1, p2⟩ := put _ _ hp
      simp [zEI, hc, pkOf]
      refine ⟨by omega, by simpa using p1, hlen, hN _ _ ⟨k + 1, .val (.int k), .val (.str [s[k]]), rfl, hk', rfl, ?_⟩⟩
      rw [← p2, hp]
      simp
def M__law_after : MS :=
  (sSeq (sAsg (.nm 2) (mCall (ck 1 G__law_numbers) (aCons (mVar 0) aNil)))
    (sSeq (sPar 3 4 (aCons (mOp oDGet (mVar 2) (mOp oIx (mVar 1) (mC (.int 0)))) (aCons (mOp oDGet (mVar 2) (mOp oIx (mVar 1) (mC (.int 1)))) aNil)))
    (sRet (mOp oAdd (mOp oAdd (mSl (mVar 0) pNone (pSome (mVar 3))) (mOp oIx (mVar 1) (mC (.int 2)))) (mSl (mVar 0) (pSome (mVar 4)) pNone)))))
def P__law_after : FnM := fnM 5 2 M__law_after
def G__law_after : FnM := fun vs μ Q _ => match vs with
  | [.str s, .tup [p, r, .str t]] => s.length ≤ 1000 ∧ t.length ≤ 1000 ∧ match placeN s p, placeN s r with
    | some i, some j => Q (.str (s.take i ++ t ++ s.drop j)) μ
    | _, _ => False
  | _ => False
theorem pk_place {s : List Nat} {v : Val} {n : Nat} (h : placeN s v = some n) : ∃ k, pkOf v = some k ∧ pGet (numsP s s.length) k = some (n : Int) := by
  obtain ⟨h1, rfl⟩ := placeN_is h
  exact ⟨_, pk_pl _, nums_pos h1⟩
theorem GP__law_after : ∀ vs μ Q E, vs.length = 2 → G__law_after vs μ Q E → P__law_after vs μ Q E := by
  intro vs μ Q E hl q
  unfold G__law_after at q
  split at q
  rotate_left
  · exact q.elim
  rename_i s p r t
  obtain ⟨hs, ht, q⟩ := q
  split at q
  rotate_left
  · exact q.elim
  rename_i i j hi hj
  have hlm : lim = 1000000 := rfl
  have hsl : strLim = 1000000 := rfl
  obtain ⟨k1, e1, f1⟩ := pk_place hi
  obtain ⟨k2, e2, f2⟩ := pk_place hj
  have h1 := (placeN_is hi).1
  have h2 := (placeN_is hj).1
  simp [zEI, P__law_after, M__law_after]
  refine ⟨hs, ?_⟩
  simp [zEI, e1, f1, e2, f2]
  rw [cut_to0 (by omega), cut_from0 (by omega)]
  simp
  refine ⟨by omega, by omega, ?_⟩
  simpa using q

/-! ### _law_edits -/
def edsOn : List Nat → List Val → Option (List Nat)
  | s, [] => some s
  | s, v :: vs => match edOf s v with
    | some x => edsOn x.on vs
    | none => none
theorem edsOn_snoc {v : Val} {x : Span} : ∀ {es : List Val} {s u : List Nat}, edsOn s es = some u → edOf u v = some x → edsOn s (es ++ [v]) = some x.on
  | [], s, u, h, hx => by
    cases h
    show (match edOf s v with | some x => edsOn x.on [] | none => none) = _
    rw [hx]
    rfl
  | e :: es, s, u, h, hx => by
    rw [List.cons_append]
    unfold edsOn at h ⊢
    cases he : edOf s e with
    | none => rw [he] at h; cases h
    | some y =>
      rw [he] at h
      exact edsOn_snoc h hx
def M__law_edits : MS :=
  (sSeq (sOwn 3 (lDsp aNil))
    (sSeq (sFor (iRg1 (mCall (ck 2 G__law_drawn) (aCons (mVar 0) (aCons (mOp oAdd (mVar 2) (mC (.int 1))) aNil)))) (.nm 4)
    (sSeq (sOwnApp 3 (mCall (ck 2 G__law_edit) (aCons (mVar 0) (aCons (mVar 1) aNil))))
    (sAsg (.nm 1) (mCall (ck 2 G__law_after) (aCons (mVar 1) (aCons (mOwnIx 3 (mUn oNeg (mC (.int 1)))) aNil))))))
    (sFrz 3 (sRet (mTup (aCons (mVar 3) (aCons (mVar 1) aNil)))))))
def P__law_edits : FnM := fnM 5 3 M__law_edits
def G__law_edits : FnM := fun vs μ Q _ => match vs with
  | [.ref a, .str s, .int m] => 0 ≤ m ∧ m ≤ 1000 ∧ StA μ a ∧ okSh (.str s) = true ∧ ∀ (es : List Val) (t : List Nat) μ', (es.length : Int) ≤ m → edsOn s es = some t → okSh (.str t) = true → OnlyA a μ μ' → StA μ' a → Q (.tup [.lst es, .str t]) μ'
  | _ => False
theorem GP__law_edits : ∀ vs μ Q E, vs.length = 3 → G__law_edits vs μ Q E → P__law_edits vs μ Q E := by
  intro vs μ Q E hl q
  unfold G__law_edits at q
  split at q
  rotate_left
  · exact q.elim
  rename_i a s m
  obtain ⟨h0, h1, hs, hok, q⟩ := q
  have hlm : lim = 1000000 := rfl
  simp [zEI, P__law_edits, M__law_edits]
  simp [zEI, sFor, iRg1]
  refine ⟨by omega, by omega, hs, fun r1 μ1 a0 a1 o1 s1 => ?_⟩
  simp only []
  refine ⟨by omega, by omega, ?_⟩
  refine forL_ind (fun items σ μ' => ∃ (es : List Val) (t : List Nat) (j : Slot), σ = [.val (.ref a), .val (.str t), .val (.int m), .own es, j] ∧ (es.length : Int) + items.length ≤ m ∧ edsOn s es = some t ∧ okSh (.str t) = true ∧ OnlyA a μ μ' ∧ StA μ' a) ?_ ?_ _ _ _ ⟨[], s, _, rfl, ?_, rfl, hok, o1, s1⟩
  · rintro σ μ' ⟨es, t, j, rfl, k1, k2, k3, k4, k5⟩
    refine ⟨trivial, ?_⟩
    simp [zEI]
    simp at k1
    exact ⟨by omega, q es t μ' (by omega) k2 k3 k4 k5⟩
  · rintro v its σ μ' ⟨es, t, j, rfl, k1, k2, k3, k4, k5⟩
    refine ⟨trivial, _, mt_nm _ _ _, fun N hN => ?_⟩
    rw [List.length_cons] at k1
    simp [zEI]
    refine ⟨k5, k3, fun i z w μ2 i0 i1 i2 i3 i4 o2 s2 => ?_⟩
    have hx := edOf_of i0 i1 (show signsV 40 (.str w) = true by simp [signsV]; exact ⟨by omega, List.all_eq_true.mp i4⟩) i3
    have ix : ixN (es.length + 1) (-1) = some es.length := by unfold ixN; simp; omega
    have hg : (es ++ [Val.tup [plV (pos t i), plV (pos t z), Val.str w]])[es.length]? = some (Val.tup [plV (pos t i), plV (pos t z), Val.str w]) := by simp
    have p1 := placeN_pos (s := t) (n := i) (by omega)
    have p2 := placeN_pos (s := t) (n := z) i1
    have hlt := (okSh_str.mp k3).1
    simp [zEI, ix, hg, atI]
    refine ⟨by omega, by omega, by omega, ?_⟩
    simp only [p1, p2]
    refine hN _ _ ⟨es ++ [Val.tup [plV (pos t i), plV (pos t z), Val.str w]], _, _, rfl, by simp; omega, edsOn_snoc k2 hx, ?_, k4.trans o2, s2⟩
    exact on_ok hx k3
  · unfold rng
    rw [List.length_map, List.length_range]
    simp
    omega

/-! ### statement by statement -/
section
variable {m : ME} {t : MT} {a c rest : MS} {D : MEnds} {σ : Lc} {μ : Sto} {E : QX}
theorem seq_if {b : Bool} (ht : ∀ K : Bool → Sto → Prop, K b μ → t σ μ K E) (h1 : b = true → sSeq a rest D σ μ E) (h2 : b = false → sSeq c rest D σ μ E) : sSeq (sIf t a c) rest D σ μ E := by
  refine ht _ ?_
  cases b with
  | true => rw [if_pos rfl]; exact h1 rfl
  | false => rw [if_neg Bool.false_ne_true]; exact h2 rfl
theorem seq_nil (h : rest D σ μ E) : sSeq sNil rest D σ μ E := h
end
section
variable {m : ME} {t : MT} {a c rest : MS} {D : MEnds} {σ : Lc} {μ : Sto} {E : QX}
theorem seq_asgR {i : Nat} (R : Val → Sto → Prop) (hm : ∀ K : QV, (∀ v μ', R v μ' → K v μ') → m σ μ K E) (hr : ∀ v μ', R v μ' → rest D (σ.set i (.val v)) μ' E) : sSeq (sAsg (.nm i) m) rest D σ μ E := by
  unfold sSeq sAsg
  refine hm _ fun v μ' h => ?_
  simp only [mt_nm]
  exact hr v μ' h
theorem seq_ifR (R : Bool → Sto → Prop) (ht : ∀ K : Bool → Sto → Prop, (∀ b μ', R b μ' → K b μ') → t σ μ K E) (h1 : ∀ μ', R true μ' → sSeq a rest D σ μ' E) (h2 : ∀ μ', R false μ' → sSeq c rest D σ μ' E) : sSeq (sIf t a c) rest D σ μ E := by
  refine ht _ fun b μ' h => ?_
  cases b with
  | true => rw [if_pos rfl]; exact h1 μ' h
  | false => rw [if_neg Bool.false_ne_true]; exact h2 μ' h
end

/-! ### the editor: its state -/
/- an editor: numbers, tables, asks; where its parts stand; its files, by the place of each -/
/- the places that are the editor's -/
/- what is not its own stays; what is its own behind was so, or is new -/
/- answered by the sheet that stands -/
/- the numbers of those that wait, from n on -/
/- whether there is such an ask, in this state -/
/-! ### the editor changes -/
/- birth and down changed -/
/- one ask changed -/
/- how an ask is refused by a sheet -/
/-! ### a list that stays, or a new one -/
theorem seq_for {mI : MI} {t : Tg} {b rest : MS} {D : MEnds} {σ : Lc} {μ : Sto} {E : QX} (h : sFor mI t b { D with nx := fun σ' μ' => rest D σ' μ' E } σ μ E) : sSeq (sFor mI t b) rest D σ μ E := h
theorem seq_asgM {m : ME} {v : Val} {i : Nat} {rest : MS} {D : MEnds} {σ : Lc} {μ μ' : Sto} {E : QX} (hm : ∀ K : QV, K v μ' → m σ μ K E) (hr : rest D (σ.set i (.val v)) μ' E) : sSeq (sAsg (.nm i) m) rest D σ μ E := by
  unfold sSeq sAsg
  refine hm _ ?_
  simp only [mt_nm]
  exact hr
theorem seq_parR {i j : Nat} {m : MA} {rest : MS} {D : MEnds} {σ : Lc} {μ : Sto} {E : QX} (R : Val → Val → Sto → Prop) (hm : ∀ K : List Val → Sto → Prop, (∀ v w μ', R v w μ' → K [v, w] μ') → m σ μ K E) (hr : ∀ v w μ', R v w μ' → rest D ((σ.set i (.val v)).set j (.val w)) μ' E) : sSeq (sPar i j m) rest D σ μ E := hm _ fun v w μ' h => hr v w μ' h
theorem rg_of {m : ME} {σ : Lc} {μ : Sto} {E : QX} {R : List Val → (Sto → Prop) → Sto → Prop} (P : Int → Sto → Prop) (hm : ∀ K : QV, (∀ n μ', P n μ' → K (.int n) μ') → m σ μ K E) (q : ∀ n μ', P n μ' → n ≤ lim ∧ -(lim : Int) ≤ n ∧ R (rng 0 n) (fun _ => True) μ') : iRg1 m σ μ R E := hm _ fun n μ' h => q n μ' h
theorem StA.same {μ μ' : Sto} {a : Nat} (h : StA μ a) (e : μ'.o a = μ.o a) : StA μ' a := by
  obtain ⟨ns, x, y, z, h1, h2⟩ := h
  exact ⟨ns, x, y, z, e.trans h1, h2⟩
theorem seq_dput {μ : Sto} {mo mi mv : ME} {rest : MS} {D : MEnds} {σ : Lc} {E : QX} {a : Nat} {kv z : Val} {ky : Ky} {kvs : List (Ky × Val)} (hv : ∀ K : QV, K z μ → mv σ μ K E) (ho : ∀ K : QV, K (.ref a) μ → mo σ μ K E) (hi : ∀ K : QV, K kv μ → mi σ μ K E) (hk : kyOf kv = some ky) (hd : μ.o a = some (.dic kvs)) (hl : kvs.length < lim) (hr : rest D σ (μ.put a (.dic (dPut kvs ky z))) E) : sSeq (MW.sDput mo mi mv) rest D σ μ E := by
  unfold sSeq MW.sDput
  refine hv _ (ho _ (hi _ ?_))
  simp [hk, seqD, hd]
  exact ⟨hl, hr⟩
theorem rng_mem {n : Nat} {v : Val} (h : v ∈ rng 0 (n : Int)) : ∃ i : Nat, i < n ∧ v = .int (i : Int) := by
  unfold rng at h
  obtain ⟨i, hi, rfl⟩ := List.mem_map.mp h
  exact ⟨i, by simpa using hi, by simp⟩

/-! ### _law_same, of what is alike -/
def eqRs (R : Val → Val → Prop) (vs ws : List Val) : Prop := vs.length = ws.length ∧ ws.length ≤ 100000 ∧ ∀ (i : Nat) (v w : Val), vs[i]? = some v → ws[i]? = some w → R v w
def eqR (μ : Sto) : Nat → Val → Val → Prop
  | 0, _, _ => False
  | n + 1, x, y => match y with
    | .tup ws => ∃ vs, x = .tup vs ∧ eqRs (eqR μ n) vs ws
    | .lst ws => ∃ vs, seqL μ x = some vs ∧ eqRs (eqR μ n) vs ws
    | .non => x = .non
    | .bl b => x = .bl b
    | .int i => x = .int i
    | .str s => x = .str s
    | .ref b => ∃ vs ws, seqL μ x = some vs ∧ μ.o b = some (.lst ws) ∧ eqRs (eqR μ n) vs ws
    | _ => False
def M__law_same (R : FnM) : MS :=
  (sSeq (sIf (mB (mIsiS (mVar 1)))
    (sSeq (sIf (mOrT (mNotT (mB (mIsiS (mVar 0)))) (mB (mOp oNe (mIsi .lst (mVar 0)) (mIsi .lst (mVar 1)))))
    (sRet (mC (.bl false)))
    sNil)
    (sSeq (sIf (mB (mOp oNe (mCB oLen (aCons (mVar 0) aNil)) (mCB oLen (aCons (mVar 1) aNil))))
    (sRet (mC (.bl false)))
    sNil)
    (sRet (mOp oEq (mFrz (lComp (iRg1 (mCB oLen (aCons (mVar 1) aNil))) (.nm 2) [2] (mNotT (mB (mCall (ck 2 R) (aCons (mOp oIx (mVar 0) (mVar 2)) (aCons (mOp oIx (mVar 1) (mVar 2)) aNil))))) (mVar 2))) (mFrz (lDsp aNil))))))
    sNil)
    (sSeq (sIf (mB (mOp oIsN (mVar 1) (mC .non)))
    (sRet (mOp oIsN (mVar 0) (mC .non)))
    sNil)
    (sSeq (sIf (mB (mIsi .str (mVar 1)))
    (sRet (mAnd (mIsi .str (mVar 0)) (mOp oEq (mVar 0) (mVar 1))))
    sNil)
    (sSeq (sIf (mOrT (mB (mIsi .bool (mVar 1))) (mB (mIsi .bool (mVar 0))))
    (sRet (mAnd (mIsi .bool (mVar 1)) (mAnd (mIsi .bool (mVar 0)) (mOp oEq (mVar 0) (mVar 1)))))
    sNil)
    (sRet (mAnd (mIsi .int (mVar 0)) (mOp oEq (mVar 0) (mVar 1))))))))
def P__law_same (R : FnM) : FnM := fnM 3 2 (M__law_same R)
def samN : Nat → FnM
  | 0 => GNo
  | n + 1 => fun vs μ Q _ => match vs with
    | [x, y] => eqR μ (n + 1) x y ∧ Q (.bl true) μ
    | _ => False
theorem samN_call {n : Nat} {x y : Val} {μ : Sto} {Q : QV} {E : QX} (h : eqR μ n x y) (q : Q (.bl true) μ) : samN n [x, y] μ Q E := by
  cases n with
  | zero => exact h.elim
  | succ m => exact ⟨h, q⟩
theorem samN_P : ∀ (n : Nat) vs μ Q E, vs.length = 2 → samN (n + 1) vs μ Q E → P__law_same (samN n) vs μ Q E := by
  intro n vs μ Q E hl q
  obtain ⟨x, y, rfl⟩ : ∃ x y, vs = [x, y] := by
    match vs, hl with
    | [x, y], _ => exact ⟨x, y, rfl⟩
  obtain ⟨h, q⟩ : eqR μ (n + 1) x y ∧ Q (.bl true) μ := q
  have hlm : lim = 1000000 := rfl
  unfold eqR at h
  cases y with
  | tup ws =>
    obtain ⟨vs, rfl, h1, h2, h3⟩ := h
    simp [zEI, P__law_same, M__law_same, h1]
    unfold lComp iRg1
    simp [zEI]
    refine ⟨by omega, ?_⟩
    refine lcL_filter' trivial (fun _ => false) (fun v => v) _ [] (fun v hv => ?_) ?_
    · obtain ⟨i, hi, rfl⟩ := rng_mem hv
      refine ⟨_, mt_nm _ _ _, fun Q' q' => ?_, fun z => by cases z⟩
      have a1 : atI vs (i : Int) = some (vs[i]'(by omega)) := by rw [atI_nat' (by omega)]; simp
      have a2 : atI ws (i : Int) = some (ws[i]) := by rw [atI_nat' (by omega)]; simp
      simp [zEI, wipeM, hideM, a1, a2]
      rw [stop_is]
      refine samN_call (h3 i _ _ (List.getElem?_eq_getElem (by omega)) (List.getElem?_eq_getElem hi)) ?_
      simpa using q'
    · rw [List.filter_eq_nil_iff.mpr (fun _ _ => by simp)]
      simp [zEI]
      exact q
  | lst ws =>
    obtain ⟨vs, hs, h1, h2, h3⟩ := h
    cases x with
    | lst us =>
      cases hs
      simp [zEI, P__law_same, M__law_same, h1]
      unfold lComp iRg1
      simp [zEI]
      refine ⟨by omega, ?_⟩
      refine lcL_filter' trivial (fun _ => false) (fun v => v) _ [] (fun v hv => ?_) ?_
      · obtain ⟨i, hi, rfl⟩ := rng_mem hv
        refine ⟨_, mt_nm _ _ _, fun Q' q' => ?_, fun z => by cases z⟩
        have a1 : atI vs (i : Int) = some (vs[i]'(by omega)) := by rw [atI_nat' (by omega)]; simp
        have a2 : atI ws (i : Int) = some (ws[i]) := by rw [atI_nat' (by omega)]; simp
        simp [zEI, wipeM, hideM, a1, a2]
        rw [stop_is]
        refine samN_call (h3 i _ _ (List.getElem?_eq_getElem (by omega)) (List.getElem?_eq_getElem hi)) ?_
        simpa using q'
      · rw [List.filter_eq_nil_iff.mpr (fun _ _ => by simp)]
        simp [zEI]
        exact q
    | ref a =>
      have ha : μ.o a = some (.lst vs) := by
        simp only [seqL] at hs
        split at hs
        · rename_i us hu; cases hs; exact hu
        · cases hs
      simp [zEI, P__law_same, M__law_same, h1, ha]
      unfold lComp iRg1
      simp [zEI]
      refine ⟨by omega, ?_⟩
      refine lcL_filter' trivial (fun _ => false) (fun v => v) _ [] (fun v hv => ?_) ?_
      · obtain ⟨i, hi, rfl⟩ := rng_mem hv
        refine ⟨_, mt_nm _ _ _, fun Q' q' => ?_, fun z => by cases z⟩
        have a1 : atI vs (i : Int) = some (vs[i]'(by omega)) := by rw [atI_nat' (by omega)]; simp
        have a2 : atI ws (i : Int) = some (ws[i]) := by rw [atI_nat' (by omega)]; simp
        simp [zEI, wipeM, hideM, a1, a2, ha]
        rw [stop_is]
        refine samN_call (h3 i _ _ (List.getElem?_eq_getElem (by omega)) (List.getElem?_eq_getElem hi)) ?_
        simpa using q'
      · rw [List.filter_eq_nil_iff.mpr (fun _ _ => by simp)]
        simp [zEI]
        exact q
    | _ => cases hs
  | ref b =>
    obtain ⟨vs, ws, hs, hb, h1, h2, h3⟩ := h
    cases x with
    | lst us =>
      cases hs
      simp [zEI, P__law_same, M__law_same, h1, hb]
      unfold lComp iRg1
      simp [zEI, hb]
      refine ⟨by omega, ?_⟩
      refine lcL_filter' trivial (fun _ => false) (fun v => v) _ [] (fun v hv => ?_) ?_
      · obtain ⟨i, hi, rfl⟩ := rng_mem hv
        refine ⟨_, mt_nm _ _ _, fun Q' q' => ?_, fun z => by cases z⟩
        have a1 : atI vs (i : Int) = some (vs[i]'(by omega)) := by rw [atI_nat' (by omega)]; simp
        have a2 : atI ws (i : Int) = some (ws[i]) := by rw [atI_nat' (by omega)]; simp
        simp [zEI, wipeM, hideM, a1, a2, hb]
        rw [stop_is]
        refine samN_call (h3 i _ _ (List.getElem?_eq_getElem (by omega)) (List.getElem?_eq_getElem hi)) ?_
        simpa using q'
      · rw [List.filter_eq_nil_iff.mpr (fun _ _ => by simp)]
        simp [zEI]
        exact q
    | ref a =>
      have ha : μ.o a = some (.lst vs) := by
        simp only [seqL] at hs
        split at hs
        · rename_i us hu; cases hs; exact hu
        · cases hs
      simp [zEI, P__law_same, M__law_same, h1, ha, hb]
      unfold lComp iRg1
      simp [zEI, hb]
      refine ⟨by omega, ?_⟩
      refine lcL_filter' trivial (fun _ => false) (fun v => v) _ [] (fun v hv => ?_) ?_
      · obtain ⟨i, hi, rfl⟩ := rng_mem hv
        refine ⟨_, mt_nm _ _ _, fun Q' q' => ?_, fun z => by cases z⟩
        have a1 : atI vs (i : Int) = some (vs[i]'(by omega)) := by rw [atI_nat' (by omega)]; simp
        have a2 : atI ws (i : Int) = some (ws[i]) := by rw [atI_nat' (by omega)]; simp
        simp [zEI, wipeM, hideM, a1, a2, ha, hb]
        rw [stop_is]
        refine samN_call (h3 i _ _ (List.getElem?_eq_getElem (by omega)) (List.getElem?_eq_getElem hi)) ?_
        simpa using q'
      · rw [List.filter_eq_nil_iff.mpr (fun _ _ => by simp)]
        simp [zEI]
        exact q
    | _ => cases hs
  | non => subst h; simp [zEI, P__law_same, M__law_same]; exact q
  | bl b => subst h; simp [zEI, P__law_same, M__law_same]; exact q
  | int b => subst h; simp [zEI, P__law_same, M__law_same]; exact q
  | str b => subst h; simp [zEI, P__law_same, M__law_same]; exact q
  | _ => exact h.elim
abbrev G__law_same : FnM := samN 9

/-! ### values of few levels, no object in them -/
def Sm : Nat → Val → Prop
  | 0, _ => False
  | n + 1, v => match v with
    | .lst vs => vs.length ≤ 100000 ∧ ∀ w ∈ vs, Sm n w
    | .tup vs => vs.length ≤ 100000 ∧ ∀ w ∈ vs, Sm n w
    | .non => True
    | .bl _ => True
    | .int _ => True
    | .str _ => True
    | _ => False
theorem Sm.up : ∀ {n : Nat} {v : Val}, Sm n v → Sm (n + 1) v
  | 0, v, h => h.elim
  | n + 1, v, h => by
    cases v with
    | lst vs => exact ⟨h.1, fun w hw => Sm.up (h.2 w hw)⟩
    | tup vs => exact ⟨h.1, fun w hw => Sm.up (h.2 w hw)⟩
    | _ => exact h
theorem Sm.le {n m : Nat} {v : Val} (h : Sm n v) (hl : n ≤ m) : Sm m v := by
  induction hl with
  | refl => exact h
  | step _ ih => exact ih.up
theorem Sm.eqR {μ : Sto} : ∀ {n : Nat} {v : Val}, Sm n v → MW.eqR μ n v v
  | 0, v, h => h.elim
  | n + 1, v, h => by
    have key : ∀ vs : List Val, vs.length ≤ 100000 → (∀ w ∈ vs, Sm n w) → eqRs (MW.eqR μ n) vs vs := fun vs h1 h2 => ⟨rfl, h1, fun i x y hx hy => by
      rw [hx] at hy
      cases hy
      exact Sm.eqR (h2 x (List.mem_of_getElem? hx))⟩
    unfold MW.eqR
    cases v with
    | lst vs => exact ⟨vs, rfl, key vs h.1 h.2⟩
    | tup vs => exact ⟨vs, rfl, key vs h.1 h.2⟩
    | _ => first | (exact h.elim) | rfl
theorem deeps_all {n : Nat} : ∀ {vs : List Val}, (∀ v ∈ vs, ∃ d, ∀ μ, deep μ n v = some d) → ∃ ds, ∀ μ, deeps μ n vs = some ds
  | [], _ => ⟨[], fun μ => deeps_nil⟩
  | v :: vs, h => by
    obtain ⟨d, hd⟩ := h v List.mem_cons_self
    obtain ⟨ds, hs⟩ := deeps_all fun w hw => h w (List.mem_cons_of_mem _ hw)
    exact ⟨d :: ds, fun μ => by rw [deeps_cons, hd μ, hs μ]; rfl⟩
theorem Sm.deep : ∀ {n : Nat} {v : Val}, Sm n v → ∃ d, ∀ μ, MW.deep μ n v = some d
  | 0, v, h => h.elim
  | n + 1, v, h => by
    cases v with
    | lst vs =>
      obtain ⟨ds, hd⟩ := deeps_all fun w hw => Sm.deep (h.2 w hw)
      exact ⟨_, fun μ => by rw [deep_lst, hd μ]; rfl⟩
    | tup vs =>
      obtain ⟨ds, hd⟩ := deeps_all fun w hw => Sm.deep (h.2 w hw)
      exact ⟨_, fun μ => by rw [deep_tup, hd μ]; rfl⟩
    | non => exact ⟨_, fun μ => deep_non⟩
    | bl b => exact ⟨_, fun μ => deep_bl b⟩
    | int b => exact ⟨_, fun μ => deep_int b⟩
    | str b => exact ⟨_, fun μ => deep_str b⟩
    | _ => exact h.elim

/-! ### reading -/
def digB (c : Nat) : Bool := decide (48 ≤ c) && decide (c ≤ 57)
def numF (l : List Nat) : Option Nat := if (1 ≤ l.length ∧ l.length ≤ 3) ∧ l.all digB = true then (if l.head? = some 48 ∧ l ≠ [48] then none else figs l) else none
theorem figs_some {l : List Nat} (h1 : 1 ≤ l.length) (h2 : l.length ≤ 3) (h3 : l.all digB = true) : ∃ n, figs l = some n := by
  match l, h1, h2, h3 with
  | [a], _, _, h3 => simp [digB] at h3; exact ⟨_, if_pos (by omega)⟩
  | [a, b], _, _, h3 => simp [digB] at h3; exact ⟨_, if_pos (by omega)⟩
  | [a, b, c], _, _, h3 => simp [digB] at h3; exact ⟨_, if_pos (by omega)⟩
theorem blsOf_mapE {α : Type} (f : α → Bool) : ∀ l : List α, blsOf (l.map fun x => Val.bl (f x)) = some (l.map f)
  | [] => rfl
  | x :: l => by rw [List.map_cons, blsOf, blsOf_mapE f l]; rfl
def M_number_in : MS :=
  (sSeq (sIf (mOrT (mNotT (mB (mCh oLe oLe (mC (.int 1)) (mCB oLen (aCons (mVar 0) aNil)) (mC (.int 3))))) (mNotT (mB (mCB oAll (aCons (mFrz (lComp (iStr' (mVar 0)) (.nm 1) [1] mYes (mCh oLe oLe (mC (.str [48])) (mVar 1) (mC (.str [57]))))) aNil)))))
    (sRet (mC .non))
    sNil)
    (sSeq (sIf (mAndT (mB (mOp oEq (mOp oIx (mVar 0) (mC (.int 0))) (mC (.str [48])))) (mB (mOp oNe (mVar 0) (mC (.str [48])))))
    (sRet (mC .non))
    sNil)
    (sRet (mCB oIntS (aCons (mVar 0) aNil)))))
def P_number_in : FnM := fnM 2 1 M_number_in
def G_number_in : FnM := fun vs μ Q _ => match vs with
  | [.str l] => l.length ≤ lim ∧ Q (match numF l with
    | some n => .int (n : Nat)
    | none => .non) μ
  | _ => False
theorem GP_number_in : ∀ vs μ Q E, vs.length = 1 → G_number_in vs μ Q E → P_number_in vs μ Q E := by
  intro vs μ Q E hl q
  unfold G_number_in at q
  split at q
  rotate_left
  · exact q.elim
  rename_i l
  obtain ⟨hlim, q⟩ := q
  simp [zEH, P_number_in, M_number_in]
  by_cases h1 : 1 ≤ l.length ∧ l.length ≤ 3
  rotate_left
  · have e : numF l = none := if_neg fun z => h1 z.1
    rw [e] at q
    by_cases h2 : 1 ≤ l.length
    · rw [if_pos (by omega), if_pos (by omega)]; exact q
    · rw [if_neg (by omega)]; exact q
  simp [zEI, mFrz, lComp, iStr']
  rw [if_pos (by omega), if_neg (by omega)]
  refine lcL_map' trivial (fun v => match v with | .str [c] => .bl (digB c) | _ => .non) _ [] (fun v hv => ?_) ?_
  · obtain ⟨c, hc, rfl⟩ := List.mem_map.mp hv
    refine ⟨_, mt_nm _ _ _, fun Q' q' => ?_⟩
    simp [zEI, wipeM, hideM]
    unfold digB at q'
    by_cases h3 : 48 ≤ c
    · have e57 : (!decide (57 < c)) = decide (c ≤ 57) := by
        by_cases h : c ≤ 57
        · rw [decide_eq_true h, decide_eq_false (by omega)]; rfl
        · rw [decide_eq_false h, decide_eq_true (by omega)]; rfl
      refine .inr ⟨h3, ?_⟩
      rw [e57]
      simpa [h3] using q'
    · exact .inl ⟨by omega, by simpa [h3] using q'⟩
  have em : ([] : List Val) ++ (l.map fun c => Val.str [c]).map (fun v => match v with | .str [c] => .bl (digB c) | _ => .non) = l.map fun c => Val.bl (digB c) := by
    rw [List.nil_append, List.map_map]; rfl
  rw [em]
  simp [blsOf_mapE]
  by_cases hx : ∃ a, a ∈ l ∧ digB a = false
  · rw [if_pos hx]
    have e : numF l = none := if_neg fun z => by
      obtain ⟨a, h2, h3⟩ := hx
      have := List.all_eq_true.mp z.2 a h2
      rw [h3] at this; cases this
    rw [e] at q
    exact q
  rw [if_neg hx]
  have hall : l.all digB = true := List.all_eq_true.mpr fun a ha => by
    cases hd : digB a with
    | true => rfl
    | false => exact absurd ⟨a, ha, hd⟩ hx
  have e0 : numF l = if l.head? = some 48 ∧ l ≠ [48] then none else figs l := if_pos ⟨h1, hall⟩
  obtain ⟨n, hn⟩ := figs_some h1.1 h1.2 hall
  obtain ⟨c, r, rfl⟩ : ∃ c r, l = c :: r := by
    cases l with
    | nil => simp at h1
    | cons c r => exact ⟨c, r, rfl⟩
  · simp [oIntS, hn]
    by_cases hc : c = 48
    · subst hc
      by_cases hr : r = []
      · subst hr
        simp at e0 ⊢
        rw [e0, hn] at q
        exact q
      · have : numF (48 :: r) = none := by rw [e0, if_pos ⟨rfl, by simpa using hr⟩]
        rw [this] at q
        simpa [hr] using q
    · have : numF (c :: r) = some n := by rw [e0, if_neg (by simp [hc]), hn]
      rw [this] at q
      simpa [hc] using q
/-! a text's word -/
def txG : List Nat → Option (List Nat)
  | [] => some []
  | [c] => if c = 126 then none else some [c]
  | c :: d :: l => if c = 126 then (match tGet tb_SIGNS [c, d] with
      | some r => (txG l).map (r ++ ·)
      | none => none) else (txG (d :: l)).map (c :: ·)
def txF (l : List Nat) : Option (List Nat) := if l = [] then none else if l = [126, 46] then some [] else txG l
def M_text_in : MS :=
  (sSeq (sIf (mB (mOp oEq (mVar 0) (mC (.str []))))
    (sRet (mC .non))
    sNil)
    (sSeq (sIf (mB (mOp oEq (mVar 0) (mC (.str [126, 46]))))
    (sRet (mC (.str [])))
    sNil)
    (sSeq (sAsg (.nm 1) (mC (.str [])))
    (sSeq (sAsg (.nm 2) (mC (.int 0)))
    (sSeq (sWhile (mB (mOp oLt (mVar 2) (mCB oLen (aCons (mVar 0) aNil))))
    (sSeq (sAsg (.nm 3) (mIfE (mB (mOp oEq (mOp oIx (mVar 0) (mVar 2)) (mC (.str [126])))) (mC (.int 2)) (mC (.int 1))))
    (sSeq (sAsg (.nm 4) (mIfE (mB (mOp oEq (mVar 3) (mC (.int 1)))) (mOp oIx (mVar 0) (mVar 2)) (mTGet tb_SIGNS (mSl (mVar 0) (pSome (mVar 2)) (pSome (mOp oAdd (mVar 2) (mVar 3)))))))
    (sSeq (sIf (mB (mOp oIsN (mVar 4) (mC .non)))
    (sRet (mC .non))
    sNil)
    (sSeq (sAugT 1 (mVar 4))
    (sAug 2 (mVar 3)))))))
    (sRet (mVar 1)))))))
def P_text_in : FnM := fnM 5 1 M_text_in
def T_tx : MS :=
  (sSeq (sAsg (.nm 3) (mIfE (mB (mOp oEq (mOp oIx (mVar 0) (mVar 2)) (mC (.str [126])))) (mC (.int 2)) (mC (.int 1))))
    (sSeq (sAsg (.nm 4) (mIfE (mB (mOp oEq (mVar 3) (mC (.int 1)))) (mOp oIx (mVar 0) (mVar 2)) (mTGet tb_SIGNS (mSl (mVar 0) (pSome (mVar 2)) (pSome (mOp oAdd (mVar 2) (mVar 3)))))))
    (sSeq (sIf (mB (mOp oIsN (mVar 4) (mC .non)))
    (sRet (mC .non))
    sNil)
    (sSeq (sAugT 1 (mVar 4))
    (sAug 2 (mVar 3))))))
def k_of (k : Nat) (l : List Nat) : List Nat := l.take k
theorem tx_while {D : MEnds} {E : QX} {μ : Sto} : ∀ (n : Nat) (p l acc : List Nat) (s3 s4 : Slot), l.length ≤ n → (p ++ l).length ≤ 990000 → acc.length ≤ 1000 + p.length → (txG l = none → D.rt .non μ) → (∀ r s3 s4, txG l = some r → D.nx [.val (.str (p ++ l)), .val (.str (acc ++ r)), .val (.int ((p ++ l).length : Nat)), s3, s4] μ) →
    whileN (mB (mOp oLt (mVar 2) (mCB oLen (aCons (mVar 0) aNil)))) T_tx D E (n + 1) [.val (.str (p ++ l)), .val (.str acc), .val (.int (p.length : Nat)), s3, s4] μ
  | n, p, [], acc, s3, s4, hl, h1, h2, q1, q2 => by
    unfold whileN
    have := q2 [] s3 s4 rfl
    simp at this ⊢
    simp [zEI]
    exact this
  | 0, p, c :: l, acc, s3, s4, hl, h1, h2, q1, q2 => by simp at hl
  | n + 1, p, c :: l, acc, s3, s4, hl, h1, h2, q1, q2 => by
    have hlm : lim = 1000000 := rfl
    have hsl : strLim = 1000000 := rfl
    unfold whileN
    have hp : (p ++ c :: l).length = p.length + (l.length + 1) := by rw [List.length_append, List.length_cons]
    have a1 : atI (p ++ c :: l) (p.length : Int) = some c := by
      rw [atI_nat' (by omega), Int.toNat_natCast, List.getElem?_append_right (Nat.le_refl _), Nat.sub_self]; rfl
    have hcut : cut (p ++ c :: l) (some (p.length : Int)) (some ((p.length : Int) + 2)) = (c :: l).take 2 := by
      have e2 : ((p.length : Int) + 2) = ((p.length + 2 : Nat) : Int) := by omega
      rw [e2, cut_mid, List.drop_left, show p.length + 2 - p.length = 2 by omega]
    simp only [List.length_cons] at hl
    have hlt : (p.length : Int) < (p.length : Int) + ((l.length : Int) + 1) := by omega
    have ih : ∀ (k : Nat) (l' : List Nat) (x : List Nat) (s3 s4 : Slot), l'.length ≤ n → (p ++ c :: l) = (p ++ k_of k (c :: l)) ++ l' → (k_of k (c :: l)).length = k → x.length ≤ k → (txG l' = none → txG (c :: l) = none) → (∀ r, txG l' = some r → txG (c :: l) = some (x ++ r)) →
        whileN (mB (mOp oLt (mVar 2) (mCB oLen (aCons (mVar 0) aNil)))) T_tx D E (n + 1) [.val (.str (p ++ c :: l)), .val (.str (acc ++ x)), .val (.int ((p.length : Int) + (k : Nat))), s3, s4] μ := fun k l' x s3 s4 h3 h4 h5 h6 h7 h8 => by
      rw [h4]
      have e : ((p.length : Int) + (k : Nat)) = (((p ++ k_of k (c :: l)).length : Nat) : Int) := by rw [List.length_append, h5]; omega
      rw [e]
      refine tx_while n _ l' (acc ++ x) s3 s4 h3 (by rw [← h4]; exact h1) (by rw [List.length_append, List.length_append, h5]; omega) (fun z => q1 (h7 z)) fun r s3 s4 z => ?_
      rw [← h4, List.append_assoc]
      exact q2 _ s3 s4 (h8 r z)
    simp [zEI]
    rw [if_pos hlt]
    simp [zEI, T_tx, a1, hcut]
    by_cases hc : c = 126
    rotate_left
    · rw [if_neg hc]
      refine ⟨by omega, ?_⟩
      refine ih 1 l [c] _ _ (by omega) (by simp [k_of]) (by simp [k_of]) (by simp) (fun z => ?_) fun r z => ?_
      · cases l with
        | nil => cases z
        | cons d l => simp [txG, hc, z]
      · cases l with
        | nil => cases z; simp [txG, hc]
        | cons d l => simp [txG, hc, z]
    subst hc
    rw [if_pos rfl]
    cases l with
    | nil =>
      have g : tGet tb_SIGNS [126] = none := by decide
      simp [g]
      exact q1 (by simp [txG])
    | cons d l =>
      cases hg : tGet tb_SIGNS [126, d] with
      | none =>
        simp [hg]
        exact q1 (by simp [txG, hg])
      | some r =>
        have hr : r.length = 1 := by
          obtain ⟨q, h3, rfl⟩ := tGet_mem hg
          exact (by decide : ∀ q ∈ tb_SIGNS, q.2.length = 1) q h3
        simp [hg]
        refine ⟨by omega, ?_⟩
        rw [List.length_cons] at hl
        refine ih 2 l r _ _ (by omega) (by simp [k_of]) (by simp [k_of]) (by omega) (fun z => ?_) fun r' z => ?_
        · simp [txG, hg, z]
        · simp [txG, hg, z]
def G_text_in : FnM := fun vs μ Q _ => match vs with
  | [.str l] => l.length ≤ 990000 ∧ Q (match txF l with
    | some r => .str r
    | none => .non) μ
  | _ => False
theorem GP_text_in : ∀ vs μ Q E, vs.length = 1 → G_text_in vs μ Q E → P_text_in vs μ Q E := by
  intro vs μ Q E hl q
  unfold G_text_in at q
  split at q
  rotate_left
  · exact q.elim
  rename_i l
  obtain ⟨hlim, q⟩ := q
  simp [zEH, P_text_in, M_text_in]
  by_cases h1 : l = []
  · rw [if_pos h1]
    have e : txF l = none := if_pos h1
    rw [e] at q; exact q
  rw [if_neg h1]
  by_cases h2 : l = [126, 46]
  · rw [if_pos h2]
    have e : txF l = some [] := by rw [h2]; rfl
    rw [e] at q; exact q
  rw [if_neg h2]
  have e : txF l = txG l := by unfold txF; rw [if_neg h1, if_neg h2]
  rw [e] at q
  refine ⟨l.length + 1, ?_⟩
  refine tx_while l.length [] l [] .no .no (Nat.le_refl _) hlim (by simp) (fun z => ?_) fun r s3 s4 z => ?_
  · rw [z] at q; exact q
  · rw [z] at q; exact q
/-! what the words of a form are -/
def partF (c : Nat) (w : List Nat) : Option Val := if c = 110 then (numF w).map fun n => Val.int (n : Nat) else (txF w).map Val.str
def partsF : List Nat → List (List Nat) → Option (List Val)
  | [], [] => some []
  | c :: f, w :: ws => match partF c w, partsF f ws with
    | some v, some vs => some (v :: vs)
    | _, _ => none
  | _, _ => none
def partV (c : Nat) (w : List Nat) : Val := match partF c w with
  | some v => v
  | none => .non
theorem partF_non {c : Nat} {w : List Nat} {v : Val} (h : partF c w = some v) : v ≠ .non := by
  unfold partF at h
  split at h
  · obtain ⟨n, _, rfl⟩ := Option.map_eq_some_iff.mp h; intro z; cases z
  · obtain ⟨n, _, rfl⟩ := Option.map_eq_some_iff.mp h; intro z; cases z
def zipV : List Nat → List (List Nat) → List Val
  | c :: f, w :: ws => partV c w :: zipV f ws
  | _, _ => []
/- none among them: just where one is none -/
theorem partsF_is : ∀ {f : List Nat} {ws : List (List Nat)}, f.length = ws.length → (partsF f ws = none ∧ Val.non ∈ zipV f ws) ∨ (partsF f ws = some (zipV f ws) ∧ Val.non ∉ zipV f ws)
  | [], [], _ => .inr ⟨rfl, by simp [zipV]⟩
  | [], _ :: _, h => by cases h
  | _ :: _, [], h => by cases h
  | c :: f, w :: ws, h => by
    rw [partsF, zipV]
    cases hp : partF c w with
    | none => exact .inl ⟨rfl, by unfold partV; rw [hp]; exact List.mem_cons_self⟩
    | some v =>
      have hv := partF_non hp
      have e : partV c w = v := by unfold partV; rw [hp]
      rw [e]
      rcases partsF_is (f := f) (ws := ws) (Nat.succ.inj h) with ⟨h1, h2⟩ | ⟨h1, h2⟩
      · rw [h1]; exact .inl ⟨rfl, List.mem_cons_of_mem _ h2⟩
      · rw [h1]
        refine .inr ⟨rfl, fun z => ?_⟩
        rcases List.mem_cons.mp z with z | z
        · exact hv z.symm
        · exact h2 z
theorem zipL_map {f : List Nat} {ws : List (List Nat)} : (zipL f (ws.map Val.str)).map (fun v => match v with | .tup [.str [c], .str w] => partV c w | _ => .non) = zipV f ws := by
  induction f generalizing ws with
  | nil => cases ws <;> rfl
  | cons c f ih =>
    cases ws with
    | nil => rfl
    | cons w ws => rw [List.map_cons, zipL, List.map_cons, ih]; rfl
theorem zipL_mem {f : List Nat} {ws : List (List Nat)} {v : Val} (h : v ∈ zipL f (ws.map Val.str)) : ∃ c w, w ∈ ws ∧ v = .tup [.str [c], .str w] := by
  induction f generalizing ws with
  | nil => cases ws <;> simp [zipL] at h
  | cons c f ih =>
    cases ws with
    | nil => simp [zipL] at h
    | cons w ws =>
      rw [List.map_cons, zipL] at h
      rcases List.mem_cons.mp h with rfl | h
      · exact ⟨c, w, List.mem_cons_self, rfl⟩
      · obtain ⟨c', w', h1, h2⟩ := ih h
        exact ⟨c', w', List.mem_cons_of_mem _ h1, h2⟩
def formL (f : List Nat) : Prop := f.length ≤ 10000 ∧ ∀ c ∈ f, c = 110 ∨ c = 116
theorem partV_kind (c : Nat) (w : List Nat) : partV c w = .non ∨ (∃ n : Nat, partV c w = .int (n : Nat)) ∨ ∃ l, partV c w = .str l := by
  unfold partV partF
  by_cases h : c = 110
  · rw [if_pos h]; cases numF w with
    | none => exact .inl rfl
    | some n => exact .inr (.inl ⟨n, rfl⟩)
  · rw [if_neg h]; cases txF w with
    | none => exact .inl rfl
    | some n => exact .inr (.inr ⟨n, rfl⟩)
theorem zipV_kind {x : Val} : ∀ {f : List Nat} {ws : List (List Nat)}, x ∈ zipV f ws → x = .non ∨ (∃ n : Nat, x = .int (n : Nat)) ∨ ∃ l, x = .str l
  | [], _, h => by unfold zipV at h; cases h
  | _ :: _, [], h => by unfold zipV at h; cases h
  | c :: f, w :: ws, h => by
    rw [zipV] at h
    rcases List.mem_cons.mp h with rfl | h
    · exact partV_kind c w
    · exact zipV_kind h
def M_parts_in : MS :=
  (sSeq (sIf (mB (mOp oNe (mCB oLen (aCons (mVar 1) aNil)) (mCB oLen (aCons (mVar 0) aNil))))
    (sRet (mC .non))
    sNil)
    (sSeq (sAsg (.nm 2) (mFrz (lComp (iZipL (mVar 0) (mVar 1)) (.tp [(.nm 3), (.nm 4)]) [3, 4] mYes (mIfE (mB (mOp oEq (mVar 3) (mC (.str [110])))) (mCall (ck 1 G_number_in) (aCons (mVar 4) aNil)) (mCall (ck 1 G_text_in) (aCons (mVar 4) aNil))))))
    (sRet (mIfE (mB (mOp (oIn false) (mC .non) (mVar 2))) (mC .non) (mVar 2)))))
def P_parts_in : FnM := fnM 5 2 M_parts_in
def G_parts_in : FnM := fun vs μ Q _ => match vs with
  | [.str f, .lst vs] => ∃ ws : List (List Nat), vs = ws.map Val.str ∧ formL f ∧ ws.length ≤ 10000 ∧ (∀ w ∈ ws, w.length ≤ 990000) ∧ Q (match partsF f ws with
    | some vs => .lst vs
    | none => .non) μ
  | _ => False
theorem partsF_len : ∀ {f : List Nat} {ws : List (List Nat)}, f.length ≠ ws.length → partsF f ws = none
  | [], [], h => absurd rfl h
  | [], _ :: _, _ => rfl
  | _ :: _, [], _ => rfl
  | c :: f, w :: ws, h => by
    rw [partsF, partsF_len (f := f) (ws := ws) (fun z => h (by simp [z]))]
    cases partF c w <;> rfl
theorem GP_parts_in : ∀ vs μ Q E, vs.length = 2 → G_parts_in vs μ Q E → P_parts_in vs μ Q E := by
  intro vs μ Q E hl q
  unfold G_parts_in at q
  split at q
  rotate_left
  · exact q.elim
  rename_i f vs
  obtain ⟨ws, rfl, hf, hw1, hw2, q⟩ := q
  have hlm : lim = 1000000 := rfl
  simp [zEI, P_parts_in, M_parts_in]
  by_cases hlen : f.length = ws.length
  rotate_left
  · rw [if_neg (by omega)]
    rw [partsF_len hlen] at q
    exact q
  rw [if_pos (by omega)]
  unfold lComp iZipL
  simp [zEI]
  refine ⟨⟨hlen, fun c hc => ?_⟩, ?_⟩
  · rcases hf.2 c hc with rfl | rfl <;> decide
  refine lcL_map' trivial (fun v => match v with | .tup [.str [c], .str w] => partV c w | _ => .non) _ [] (fun v hv => ?_) ?_
  · obtain ⟨c, w, hw, rfl⟩ := zipL_mem hv
    have hwl := hw2 w hw
    simp [zEI, Tg.mt, Tg.mts, wipeM, hideM]
    intro Q' q'
    unfold partV partF at q'
    by_cases h : c = 110
    · rw [if_pos h] at q' ⊢
      rw [stop_is]
      refine ⟨by omega, ?_⟩
      cases hn : numF w with
      | none => rw [hn] at q'; exact q'
      | some n => rw [hn] at q'; exact q'
    · rw [if_neg h] at q' ⊢
      rw [stop_is]
      refine ⟨by omega, ?_⟩
      cases hn : txF w with
      | none => rw [hn] at q'; exact q'
      | some n => rw [hn] at q'; exact q'
  rw [List.nil_append, zipL_map]
  refine ⟨fun x hx => ?_, ?_⟩
  · rcases zipV_kind hx with rfl | ⟨n, rfl⟩ | ⟨l, rfl⟩ <;> rfl
  rcases partsF_is hlen with ⟨h1, h2⟩ | ⟨h1, h2⟩
  · rw [h1] at q
    rw [if_pos ⟨.non, h2, rfl⟩]
    exact q
  · rw [h1] at q
    rw [if_neg]
    · exact q
    · rintro ⟨x, hx, e⟩
      rcases zipV_kind hx with rfl | ⟨n, rfl⟩ | ⟨l, rfl⟩
      · exact h2 hx
      · cases e
      · cases e
/-! edits, asks, steps -/
def pairs5 : Nat → List Val → List Val
  | n + 1, a :: b :: c :: d :: e :: r => .tup [.tup [a, b], .tup [c, d], e] :: pairs5 n r
  | _, _ => []
def edF : Nat → List Nat
  | 0 => []
  | n + 1 => 110 :: 110 :: 110 :: 110 :: 116 :: edF n
def editF (ws : List (List Nat)) : Option Val := match partsF (110 :: edF (ws.length / 5)) ws with
  | some (n :: r) => some (.tup [.str [101, 100, 105, 116], n, .tup (pairs5 (ws.length / 5) r)])
  | _ => none
def wsOk (ws : List (List Nat)) : Prop := ws.length ≤ 5000 ∧ ∀ w ∈ ws, w.length ≤ 990000
theorem edF_is : ∀ n : Nat, (List.replicate n [110, 110, 110, 110, 116]).flatten = edF n
  | 0 => rfl
  | n + 1 => by rw [List.replicate_succ, List.flatten_cons, edF_is n]; rfl
theorem edF_len : ∀ n : Nat, (edF n).length = 5 * n
  | 0 => rfl
  | n + 1 => by
    show (edF n).length + 1 + 1 + 1 + 1 + 1 = _
    rw [edF_len n]; omega
theorem edF_form : ∀ n : Nat, ∀ c ∈ edF n, c = 110 ∨ c = 116
  | 0, c, h => by cases h
  | n + 1, c, h => by
    have : c = 110 ∨ c = 110 ∨ c = 110 ∨ c = 110 ∨ c = 116 ∨ c ∈ edF n := by simpa [edF] using h
    rcases this with h | h | h | h | h | h
    · exact .inl h
    · exact .inl h
    · exact .inl h
    · exact .inl h
    · exact .inr h
    · exact edF_form n c h
theorem partsF_length : ∀ {f : List Nat} {ws : List (List Nat)} {vs : List Val}, partsF f ws = some vs → vs.length = f.length ∧ ws.length = f.length
  | [], [], vs, h => by cases h; exact ⟨rfl, rfl⟩
  | [], _ :: _, _, h => by cases h
  | _ :: _, [], _, h => by cases h
  | c :: f, w :: ws, vs, h => by
    rw [partsF] at h
    split at h
    · rename_i v us h1 h2
      cases h
      obtain ⟨k1, k2⟩ := partsF_length h2
      exact ⟨by rw [List.length_cons, List.length_cons, k1], by rw [List.length_cons, List.length_cons, k2]⟩
    · cases h
def five (r : List Val) (j : Nat) : Val := .tup [.tup [r.getD (5 * j) .non, r.getD (5 * j + 1) .non], .tup [r.getD (5 * j + 2) .non, r.getD (5 * j + 3) .non], r.getD (5 * j + 4) .non]
theorem pairs5_is : ∀ (n : Nat) (r : List Val), r.length = 5 * n → pairs5 n r = (List.range n).map (five r)
  | 0, r, _ => by cases r <;> rfl
  | n + 1, r, h => by
    match r, h with
    | a :: b :: c :: d :: e :: r, h =>
      have hr : r.length = 5 * n := by simp only [List.length_cons] at h; omega
      rw [pairs5, pairs5_is n r hr, List.range_succ_eq_map, List.map_cons, List.map_map]
      congr 1
      all_goals exact List.map_congr_left fun j _ => rfl
def M_edit_in : MS :=
  (sSeq (sAsg (.nm 1) (mCB oLen (aCons (mC (.str [110, 110, 110, 110, 116])) aNil)))
    (sSeq (sAsg (.nm 2) (mCall (ck 2 G_parts_in) (aCons (mOp oAdd (mC (.str [110])) (mOp oMul (mC (.str [110, 110, 110, 110, 116])) (mOp oDiv (mCB oLen (aCons (mVar 0) aNil)) (mVar 1)))) (aCons (mVar 0) aNil))))
    (sSeq (sIf (mB (mOp oIsN (mVar 2) (mC .non)))
    (sRet (mC .non))
    sNil)
    (sSeq (sAsg (.nm 3) (mFrz (lComp (iRg3 (mC (.int 1)) (mCB oLen (aCons (mVar 2) aNil)) (mVar 1)) (.nm 4) [4] mYes (mTup (aCons (mTup (aCons (mOp oIx (mVar 2) (mVar 4)) (aCons (mOp oIx (mVar 2) (mOp oAdd (mVar 4) (mC (.int 1)))) aNil))) (aCons (mTup (aCons (mOp oIx (mVar 2) (mOp oAdd (mVar 4) (mC (.int 2)))) (aCons (mOp oIx (mVar 2) (mOp oAdd (mVar 4) (mC (.int 3)))) aNil))) (aCons (mOp oIx (mVar 2) (mOp oAdd (mVar 4) (mC (.int 4)))) aNil)))))))
    (sRet (mTup (aCons (mC (.str [101, 100, 105, 116])) (aCons (mOp oIx (mVar 2) (mC (.int 0))) (aCons (mCB oTuple (aCons (mVar 3) aNil)) aNil)))))))))
def P_edit_in : FnM := fnM 5 1 M_edit_in
theorem rngC_five {k : Nat} {m : Int} (hm : m = ((5 * k : Nat) : Int)) : rngC 1 (m + 1) 5 = (List.range k).map fun j => Val.int (1 + (j : Nat) * 5) := by
  unfold rngC
  have e : (if (1 : Int) < m + 1 then (m + 1 - 1 - 1) / 5 + 1 else 0).toNat = k := by
    cases k with
    | zero => rw [if_neg (by omega)]; rfl
    | succ k => rw [if_pos (by omega)]; omega
  rw [e]
theorem atF {n0 : Val} {r : List Val} {i : Int} {m : Nat} (hi : i = ((m + 1 : Nat) : Int)) (h : m < r.length) : atI (n0 :: r) i = some (r.getD m .non) := by
  subst hi
  rw [atI_nat' (by omega), Int.toNat_natCast, List.getElem?_cons_succ, List.getElem?_eq_getElem h]
  simp [h]
theorem ei_comp {K : List Val → Sto → Prop} {E : QX} {μ : Sto} {v0 n0 : Val} {r : List Val} {k : Nat} (hr : r.length = 5 * k) (hk : k ≤ 1000) (q : K (pairs5 k r) μ) : (lComp (iRg3 (mC (.int 1)) (mCB oLen (aCons (mVar 2) aNil)) (mVar 1)) (.nm 4) [4] mYes (mTup (aCons (mTup (aCons (mOp oIx (mVar 2) (mVar 4)) (aCons (mOp oIx (mVar 2) (mOp oAdd (mVar 4) (mC (.int 1)))) aNil))) (aCons (mTup (aCons (mOp oIx (mVar 2) (mOp oAdd (mVar 4) (mC (.int 2)))) (aCons (mOp oIx (mVar 2) (mOp oAdd (mVar 4) (mC (.int 3)))) aNil))) (aCons (mOp oIx (mVar 2) (mOp oAdd (mVar 4) (mC (.int 4)))) aNil))))) [.val v0, .val (.int 5), .val (.lst (n0 :: r)), .no, .no] μ K E := by
  have hlm : lim = 1000000 := rfl
  unfold lComp iRg3
  simp [zEI]
  refine ⟨⟨by omega, by omega, by omega⟩, ?_⟩
  rw [rngC_five (k := k) (by omega)]
  refine lcL_map' trivial (fun v => match v with | .int i => five r ((i.toNat - 1) / 5) | _ => .non) _ [] (fun v hv => ?_) ?_
  · obtain ⟨j, hj, rfl⟩ := List.mem_map.mp hv
    have hj := List.mem_range.mp hj
    refine ⟨_, mt_nm _ _ _, fun Q' q' => ?_⟩
    have b0 : atI (n0 :: r) (1 + (j : Int) * 5) = some (r.getD (5 * j) .non) := atF (by omega) (by omega)
    have b1 : atI (n0 :: r) (1 + (j : Int) * 5 + 1) = some (r.getD (5 * j + 1) .non) := atF (by omega) (by omega)
    have b2 : atI (n0 :: r) (1 + (j : Int) * 5 + 2) = some (r.getD (5 * j + 2) .non) := atF (by omega) (by omega)
    have b3 : atI (n0 :: r) (1 + (j : Int) * 5 + 3) = some (r.getD (5 * j + 3) .non) := atF (by omega) (by omega)
    have b4 : atI (n0 :: r) (1 + (j : Int) * 5 + 4) = some (r.getD (5 * j + 4) .non) := atF (by omega) (by omega)
    simp only [show ((1 + (j : Int) * 5).toNat - 1) / 5 = j by omega] at q'
    simp [zEI, wipeM, hideM, b0, b1, b2, b3, b4]
    refine ⟨by decide, by decide, ?_⟩
    simpa [five] using q'
  · have e : ((List.range k).map fun j => Val.int (1 + (j : Nat) * 5)).map (fun v => match v with | .int i => five r ((i.toNat - 1) / 5) | _ => .non) = pairs5 k r := by
      rw [List.map_map, pairs5_is k r hr]
      refine List.map_congr_left fun j _ => ?_
      show five r (((1 + (j : Int) * 5).toNat - 1) / 5) = five r j
      rw [show ((1 + (j : Int) * 5).toNat - 1) / 5 = j by omega]
    rw [List.nil_append, e]
    exact q
def G_edit_in : FnM := fun vs μ Q _ => match vs with
  | [.lst vs] => ∃ ws : List (List Nat), vs = ws.map Val.str ∧ wsOk ws ∧ Q (match editF ws with
    | some v => v
    | none => .non) μ
  | _ => False
theorem GP_edit_in : ∀ vs μ Q E, vs.length = 1 → G_edit_in vs μ Q E → P_edit_in vs μ Q E := by
  intro vs μ Q E hl q
  unfold G_edit_in at q
  split at q
  rotate_left
  · exact q.elim
  obtain ⟨ws, rfl, hw, q⟩ := q
  have hlm : lim = 1000000 := rfl
  simp [zEI, P_edit_in, M_edit_in]
  have e1 : ((ws.length : Int) / 5).toNat = ws.length / 5 := by omega
  have h2 := hw.1
  have hsl : strLim = 1000000 := rfl
  rw [e1, edF_is]
  refine ⟨divW (by decide) (by decide), by omega, by omega, ?_⟩
  rw [stop_is]
  refine ⟨ws, rfl, ⟨by rw [List.length_cons, edF_len]; omega, fun c hc => ?_⟩, by omega, hw.2, ?_⟩
  · rcases List.mem_cons.mp hc with rfl | hc
    · exact .inl rfl
    · exact edF_form _ c hc
  unfold editF at q
  cases hp : partsF (110 :: edF (ws.length / 5)) ws with
  | none =>
    rw [hp] at q
    simp [zEI]
    exact q
  | some vs =>
    rw [hp] at q
    obtain ⟨k1, k2⟩ := partsF_length hp
    match vs, k1, q with
    | n :: r, k1, q =>
      rw [List.length_cons, List.length_cons, edF_len] at k1
      simp [zEI]
      exact ei_comp (k := ws.length / 5) (by omega) (by omega) ⟨by decide, q⟩
def askF (ws : List (List Nat)) : Option Val := match ws with
  | a :: k :: r => match tGet tb_ASK_FORMS k with
    | some f => match partsF (110 :: f) (a :: r) with
      | some vs => (match vs with
        | [n, t] => some (.tup [.str [97, 115, 107], n, .tup [.str k, t]])
        | n :: x :: y :: rest => some (.tup [.str [97, 115, 107], n, .tup (.str k :: .tup [x, y] :: rest)])
        | _ => none)
      | none => none
    | none => none
  | _ => none
theorem ask_key {k f : List Nat} (h : tGet tb_ASK_FORMS k = some f) : (k = [102, 105, 110, 100] ∧ f = [116]) ∨ (k = [114, 111, 119, 115] ∧ f = [116]) ∨ (k = [119, 111, 114, 100] ∧ f = [110, 110]) ∨ (k = [114, 101, 110, 97, 109, 101] ∧ f = [110, 110, 116]) := by
  simp only [tb_ASK_FORMS, tGet] at h
  split at h
  · rename_i e; cases h; exact .inl ⟨e.symm, rfl⟩
  split at h
  · rename_i e; cases h; exact .inr (.inl ⟨e.symm, rfl⟩)
  split at h
  · rename_i e; cases h; exact .inr (.inr (.inl ⟨e.symm, rfl⟩))
  split at h
  · rename_i e; cases h; exact .inr (.inr (.inr ⟨e.symm, rfl⟩))
  cases h
theorem partsF_two {f : Nat} {ws : List (List Nat)} {vs : List Val} (h : partsF [110, f] ws = some vs) : ∃ x y, vs = [x, y] := by
  obtain ⟨k1, _⟩ := partsF_length h
  match vs, k1 with
  | [x, y], _ => exact ⟨x, y, rfl⟩
theorem partsF_three {ws : List (List Nat)} {vs : List Val} (h : partsF [110, 110, 110] ws = some vs) : ∃ x y z, vs = [x, y, z] := by
  obtain ⟨k1, _⟩ := partsF_length h
  match vs, k1 with
  | [x, y, z], _ => exact ⟨x, y, z, rfl⟩
theorem partsF_four {ws : List (List Nat)} {vs : List Val} (h : partsF [110, 110, 110, 116] ws = some vs) : ∃ x y z u, vs = [x, y, z, u] := by
  obtain ⟨k1, _⟩ := partsF_length h
  match vs, k1 with
  | [x, y, z, u], _ => exact ⟨x, y, z, u, rfl⟩
def M_ask_in : MS :=
  (sSeq (sIf (mOrT (mB (mOp oLt (mCB oLen (aCons (mVar 0) aNil)) (mC (.int 2)))) (mB (mTIn true tb_ASK_FORMS (mOp oIx (mVar 0) (mC (.int 1))))))
    (sRet (mC .non))
    sNil)
    (sSeq (sAsg (.nm 1) (mOp oIx (mVar 0) (mC (.int 1))))
    (sSeq (sAsg (.nm 2) (mCall (ck 2 G_parts_in) (aCons (mOp oAdd (mC (.str [110])) (mTIx tb_ASK_FORMS (mVar 1))) (aCons (mFrz (lAdd (mFrz (lSlc (mVar 0) pNone (pSome (mC (.int 1))))) (mFrz (lSlc (mVar 0) (pSome (mC (.int 2))) pNone)))) aNil))))
    (sSeq (sIf (mB (mOp oIsN (mVar 2) (mC .non)))
    (sRet (mC .non))
    sNil)
    (sSeq (sIf (mB (mOp (oIn false) (mVar 1) (mTup (aCons (mC (.str [102, 105, 110, 100])) (aCons (mC (.str [114, 111, 119, 115])) aNil)))))
    (sRet (mTup (aCons (mC (.str [97, 115, 107])) (aCons (mOp oIx (mVar 2) (mC (.int 0))) (aCons (mTup (aCons (mVar 1) (aCons (mOp oIx (mVar 2) (mC (.int 1))) aNil))) aNil)))))
    sNil)
    (sSeq (sAsg (.nm 3) (mTup (aCons (mOp oIx (mVar 2) (mC (.int 1))) (aCons (mOp oIx (mVar 2) (mC (.int 2))) aNil))))
    (sSeq (sAsg (.nm 4) (mFrz (lSlc (mVar 2) (pSome (mC (.int 3))) pNone)))
    (sRet (mTup (aCons (mC (.str [97, 115, 107])) (aCons (mOp oIx (mVar 2) (mC (.int 0))) (aCons (mTup (aCons (mVar 1) (aCons (mVar 3) (aStar (mVar 4) aNil)))) aNil))))))))))))
def P_ask_in : FnM := fnM 5 1 M_ask_in
def G_ask_in : FnM := fun vs μ Q _ => match vs with
  | [.lst vs] => ∃ ws : List (List Nat), vs = ws.map Val.str ∧ wsOk ws ∧ Q (match askF ws with
    | some v => v
    | none => .non) μ
  | _ => False
theorem GP_ask_in : ∀ vs μ Q E, vs.length = 1 → G_ask_in vs μ Q E → P_ask_in vs μ Q E := by
  intro vs μ Q E hl q
  unfold G_ask_in at q
  split at q
  rotate_left
  · exact q.elim
  obtain ⟨ws, rfl, hw, q⟩ := q
  have hlm : lim = 1000000 := rfl
  match ws, hw, q with
  | [], hw, q => simp [zEI, P_ask_in, M_ask_in]; exact q
  | [a], hw, q => simp [zEI, P_ask_in, M_ask_in]; exact q
  | a :: k :: r, hw, q =>
    have hw1 := hw.1
    rw [List.length_cons, List.length_cons] at hw1
    have c1 : MW.cut (Val.str a :: Val.str k :: r.map Val.str) none (some 1) = [.str a] := by rw [show (1 : Int) = ((1 : Nat) : Int) from rfl, cut_toN]; rfl
    have c2 : MW.cut (Val.str a :: Val.str k :: r.map Val.str) (some 2) none = r.map Val.str := by rw [cut_from0 (by decide)]; rfl
    have wa : ∀ w ∈ a :: r, w.length ≤ 990000 := fun w h => hw.2 w (by
      rcases List.mem_cons.mp h with rfl | h
      · exact List.mem_cons_self
      · exact List.mem_cons_of_mem _ (List.mem_cons_of_mem _ h))
    simp only [askF] at q
    simp [zEI, P_ask_in, M_ask_in, c1, c2]
    rw [if_neg (by omega)]
    cases hk : tGet tb_ASK_FORMS k with
    | none => simp only [hk] at q; rw [if_pos rfl]; exact q
    | some f =>
      simp only [hk] at q
      have hf : 1 + f.length ≤ strLim ∧ f.length ≤ 3 ∧ ∀ c ∈ f, c = 110 ∨ c = 116 := by
        rcases ask_key hk with ⟨_, rfl⟩ | ⟨_, rfl⟩ | ⟨_, rfl⟩ | ⟨_, rfl⟩ <;> exact ⟨by decide, by decide, by decide⟩
      rw [if_neg (by simp)]
      refine ⟨hf.1, by omega, ?_⟩
      rw [stop_is]
      refine ⟨a :: r, rfl, ⟨by rw [List.length_cons]; omega, fun c hc => ?_⟩, by rw [List.length_cons]; omega, wa, ?_⟩
      · rcases List.mem_cons.mp hc with rfl | hc
        · exact .inl rfl
        · exact hf.2.2 c hc
      cases hp : partsF (110 :: f) (a :: r) with
      | none =>
        simp only [hp] at q
        simp [zEI]
        exact q
      | some vs =>
        simp only [hp] at q
        rcases ask_key hk with ⟨rfl, rfl⟩ | ⟨rfl, rfl⟩ | ⟨rfl, rfl⟩ | ⟨rfl, rfl⟩
        · obtain ⟨x, y, rfl⟩ := partsF_two hp
          simp [zEI]
          exact ⟨by decide, by decide, q⟩
        · obtain ⟨x, y, rfl⟩ := partsF_two hp
          simp [zEI]
          exact ⟨by decide, by decide, q⟩
        · obtain ⟨x, y, z, rfl⟩ := partsF_three hp
          have c3 : MW.cut [x, y, z] (some 3) none = [] := by rw [cut_from0 (by decide)]; rfl
          simp [zEI, c3]
          exact ⟨by decide, by decide, q⟩
        · obtain ⟨x, y, z, u, rfl⟩ := partsF_four hp
          have c3 : MW.cut [x, y, z, u] (some 3) none = [u] := by rw [cut_from0 (by decide)]; rfl
          simp [zEI, c3]
          exact ⟨by decide, by decide, q⟩
def stepF (ws : List (List Nat)) : Option Val := match ws with
  | k :: r => if k = [101, 100, 105, 116] then editF r else if k = [97, 115, 107] then askF r else
    match tGet tb_STEP_FORMS k with
    | some f => (match partsF f r with
      | some vs => some (.tup (.str k :: vs))
      | none => none)
    | none => none
  | [] => none
def M_step_in : MS :=
  (sSeq (sAsg (.nm 1) (mOp oIx (mVar 0) (mC (.int 0))))
    (sSeq (sIf (mB (mOp oEq (mVar 1) (mC (.str [101, 100, 105, 116]))))
    (sRet (mCall (ck 1 G_edit_in) (aCons (mFrz (lSlc (mVar 0) (pSome (mC (.int 1))) pNone)) aNil)))
    sNil)
    (sSeq (sIf (mB (mOp oEq (mVar 1) (mC (.str [97, 115, 107]))))
    (sRet (mCall (ck 1 G_ask_in) (aCons (mFrz (lSlc (mVar 0) (pSome (mC (.int 1))) pNone)) aNil)))
    sNil)
    (sSeq (sIf (mB (mTIn true tb_STEP_FORMS (mVar 1)))
    (sRet (mC .non))
    sNil)
    (sSeq (sAsg (.nm 2) (mCall (ck 2 G_parts_in) (aCons (mTIx tb_STEP_FORMS (mVar 1)) (aCons (mFrz (lSlc (mVar 0) (pSome (mC (.int 1))) pNone)) aNil))))
    (sRet (mIfE (mB (mOp oIsN (mVar 2) (mC .non))) (mC .non) (mTup (aCons (mVar 1) (aStar (mVar 2) aNil))))))))))
def P_step_in : FnM := fnM 3 1 M_step_in
def G_step_in : FnM := fun vs μ Q _ => match vs with
  | [.lst vs] => ∃ ws : List (List Nat), vs = ws.map Val.str ∧ ws ≠ [] ∧ wsOk ws ∧ Q (match stepF ws with
    | some v => v
    | none => .non) μ
  | _ => False
theorem GP_step_in : ∀ vs μ Q E, vs.length = 1 → G_step_in vs μ Q E → P_step_in vs μ Q E := by
  intro vs μ Q E hl q
  unfold G_step_in at q
  split at q
  rotate_left
  · exact q.elim
  obtain ⟨ws, rfl, hne, hw, q⟩ := q
  have hlm : lim = 1000000 := rfl
  match ws, hne, hw, q with
  | k :: r, _, hw, q =>
    have hw1 := hw.1
    rw [List.length_cons] at hw1
    have hr : wsOk r := ⟨by omega, fun w h => hw.2 w (List.mem_cons_of_mem _ h)⟩
    have c1 : MW.cut (Val.str k :: r.map Val.str) (some 1) none = r.map Val.str := by rw [cut_from0 (by decide)]; rfl
    simp only [stepF] at q
    simp [zEI, P_step_in, M_step_in, c1]
    by_cases h1 : k = [101, 100, 105, 116]
    · rw [if_pos h1] at q ⊢
      exact ⟨r, rfl, hr, q⟩
    rw [if_neg h1] at q ⊢
    by_cases h2 : k = [97, 115, 107]
    · rw [if_pos h2] at q ⊢
      exact ⟨r, rfl, hr, q⟩
    rw [if_neg h2] at q ⊢
    cases hk : tGet tb_STEP_FORMS k with
    | none => simp only [hk] at q; rw [if_pos rfl]; exact q
    | some f =>
      simp only [hk] at q
      rw [if_neg (by simp)]
      have hf : f.length ≤ 3 ∧ ∀ c ∈ f, c = 110 ∨ c = 116 := by
        obtain ⟨p, h3, rfl⟩ := tGet_mem hk
        exact (by decide : ∀ q ∈ tb_STEP_FORMS, q.2.length ≤ 3 ∧ ∀ c ∈ q.2, c = 110 ∨ c = 116) p h3
      refine ⟨r, rfl, ⟨by omega, hf.2⟩, by omega, hr.2, ?_⟩
      cases hp : partsF f r with
      | none =>
        simp only [hp] at q
        simp [zEI]
        exact q
      | some vs =>
        simp only [hp] at q
        have hv := (partsF_length hp).1
        simp [zEI]
        exact ⟨by omega, q⟩
/-! rows -/
def rowsF : Nat → List (List Nat) → Except Nat (List Val)
  | _, [] => .ok []
  | i, r :: rs => match stepF (spl 32 r) with
    | some v => (match rowsF (i + 1) rs with
      | .ok vs => .ok (v :: vs)
      | .error n => .error n)
    | none => .error i
def readF (t : List Nat) : Except Nat (List Val) := if t = [] then .ok [] else rowsF 0 (spl 10 t)
theorem splA_len {d : Nat} : ∀ (s acc : List Nat), (splA d acc s).length ≤ s.length + 1 ∧ splA d acc s ≠ []
  | [], acc => ⟨Nat.le_refl _, by simp [splA]⟩
  | c :: r, acc => by
    rw [splA]
    split
    · have := splA_len (d := d) r []
      exact ⟨by rw [List.length_cons, List.length_cons]; omega, by simp⟩
    · have := splA_len (d := d) r (acc ++ [c])
      exact ⟨by rw [List.length_cons]; omega, this.2⟩
theorem stepF_tup {ws : List (List Nat)} {v : Val} (h : stepF ws = some v) : ∃ vs, v = .tup vs := by
  unfold stepF at h
  split at h
  rotate_left
  · cases h
  split at h
  · unfold editF at h
    split at h
    · cases h; exact ⟨_, rfl⟩
    · cases h
  split at h
  · unfold askF at h
    split at h
    rotate_left
    · cases h
    split at h
    rotate_left
    · cases h
    split at h
    rotate_left
    · cases h
    split at h
    · cases h; exact ⟨_, rfl⟩
    · cases h; exact ⟨_, rfl⟩
    · cases h
  split at h
  rotate_left
  · cases h
  split at h
  · cases h; exact ⟨_, rfl⟩
  · cases h
def M_read : MS :=
  (sSeq (sIf (mB (mOp oEq (mVar 0) (mC (.str []))))
    (sRet (mNew (lDsp aNil)))
    sNil)
    (sSeq (sAsg (.nm 1) (mNew (lDsp aNil)))
    (sSeq (sFor (iEnum' (mFrz (lSm gSplit (mVar 0) (mC (.str [10]))))) (.tp [(.nm 2), (.nm 3)])
    (sSeq (sAsg (.nm 4) (mCall (ck 1 G_step_in) (aCons (mFrz (lSm gSplit (mVar 3) (mC (.str [32])))) aNil)))
    (sSeq (sIf (mB (mOp oIsN (mVar 4) (mC .non)))
    (sRaiseN .BadText .row (mVar 2))
    sNil)
    (sExpr (mLm gAppend (mVar 1) (aCons (mVar 4) aNil))))))
    (sRet (mVar 1)))))
def P_read : FnM := fnM 5 1 M_read
def T_rd : MS :=
  (sSeq (sAsg (.nm 4) (mCall (ck 1 G_step_in) (aCons (mFrz (lSm gSplit (mVar 3) (mC (.str [32])))) aNil)))
    (sSeq (sIf (mB (mOp oIsN (mVar 4) (mC .non)))
    (sRaiseN .BadText .row (mVar 2))
    sNil)
    (sExpr (mLm gAppend (mVar 1) (aCons (mVar 4) aNil)))))
def G_read : FnM := fun vs μ Q E => match vs with
  | [.str t] => (spl 10 t).length ≤ 100 ∧ (∀ r ∈ spl 10 t, wsOk (spl 32 r)) ∧ (match readF t with
    | .ok vs => ∀ μ', μ'.o μ.n = some (.lst vs) → μ'.n = μ.n + 1 → (∀ b, b ≠ μ.n → μ'.o b = μ.o b) → Q (.ref μ.n) μ'
    | .error n => ∀ μ', μ'.n = μ.n + 1 → (∀ b, b ≠ μ.n → μ'.o b = μ.o b) → E ⟨.BadText, some (.row, (n : Nat))⟩ μ')
  | _ => False
theorem rd_loop {D : MEnds} {E : QX} {μ : Sto} {t : List Nat} {ok : Sto → Prop} (hok : ∀ μ', ok μ') : ∀ (rs : List (List Nat)) (i : Nat) (acc : List Val) (μ1 : Sto) (s2 s3 s4 : Slot), μ1.o μ.n = some (.lst acc) → μ1.n = μ.n + 1 → (∀ b, b ≠ μ.n → μ1.o b = μ.o b) → acc.length + rs.length ≤ 100 → (∀ r ∈ rs, wsOk (spl 32 r)) → i = acc.length →
    (match rowsF i rs with
      | .ok vs => ∀ μ' s2 s3 s4, μ'.o μ.n = some (.lst (acc ++ vs)) → μ'.n = μ.n + 1 → (∀ b, b ≠ μ.n → μ'.o b = μ.o b) → D.nx [.val (.str t), .val (.ref μ.n), s2, s3, s4] μ'
      | .error n => ∀ μ', μ'.n = μ.n + 1 → (∀ b, b ≠ μ.n → μ'.o b = μ.o b) → E ⟨.BadText, some (.row, (n : Nat))⟩ μ') →
    forL (.tp [.nm 2, .nm 3]) T_rd ok E D (enF i (rs.map Val.str)) [.val (.str t), .val (.ref μ.n), s2, s3, s4] μ1
  | [], i, acc, μ1, s2, s3, s4, h1, h2, h3, h4, h5, h6, q => ⟨hok _, q μ1 s2 s3 s4 (by rw [List.append_nil]; exact h1) h2 h3⟩
  | r :: rs, i, acc, μ1, s2, s3, s4, h1, h2, h3, h4, h5, h6, q => by
    have hlm : lim = 1000000 := rfl
    refine ⟨hok _, ?_⟩
    rw [List.length_cons] at h4
    have ih := fun (v : Val) (hs : stepF (spl 32 r) = some v) (μ' : Sto) (s4 : Slot) => rd_loop (D := D) (E := E) (μ := μ) (t := t) hok rs (i + 1) (acc ++ [v]) μ' (.val (.int (i : Nat))) (.val (.str r)) s4
    simp [zEI, Tg.mt, Tg.mts, T_rd]
    rw [stop_is]
    refine ⟨spl 32 r, rfl, (splA_len r []).2, h5 r List.mem_cons_self, ?_⟩
    cases hs : stepF (spl 32 r) with
    | none =>
      have e : rowsF i (r :: rs) = .error i := by rw [rowsF, hs]
      rw [e] at q
      simp [zEI]
      exact ⟨by omega, q μ1 h2 h3⟩
    | some v =>
      obtain ⟨us, rfl⟩ := stepF_tup hs
      simp [zEI, h1]
      refine ⟨by omega, ih _ hs _ _ (by simp [put_o]) h2 (fun b hb => by rw [put_o, if_neg hb]; exact h3 b hb) (by rw [List.length_append, List.length_singleton]; omega) (fun r' h => h5 r' (List.mem_cons_of_mem _ h)) (by rw [List.length_append, List.length_singleton, h6]) ?_⟩
      rw [rowsF, hs] at q
      cases hq : rowsF (i + 1) rs with
      | ok vs =>
        rw [hq] at q
        intro μ' s2 s3 s4 k1 k2 k3
        rw [List.append_assoc] at k1
        exact q μ' s2 s3 s4 k1 k2 k3
      | error n => rw [hq] at q; exact q
theorem GP_read : ∀ vs μ Q E, vs.length = 1 → G_read vs μ Q E → P_read vs μ Q E := by
  intro vs μ Q E hl q
  unfold G_read at q
  split at q
  rotate_left
  · exact q.elim
  obtain ⟨hl100, hr, q⟩ := q
  rename_i t
  have hlm : lim = 1000000 := rfl
  simp [zEI, P_read, M_read]
  by_cases h0 : t = []
  · rw [if_pos h0]
    have e : readF t = .ok [] := if_pos h0
    rw [e] at q
    exact q _ (by simp [Sto.new]) rfl (fun b hb => by simp [Sto.new, hb])
  rw [if_neg h0]
  have e : readF t = rowsF 0 (spl 10 t) := if_neg h0
  rw [e] at q
  unfold sFor
  refine enum_of' (v := .lst ((spl 10 t).map Val.str)) (vs := (spl 10 t).map Val.str) (fun Q' q' => ?_) rfl fun ok hok => ?_
  · simp [zEI, mFrz]
    exact q'
  · refine rd_loop (fun μ' => hok μ' fun a z => by cases z) (spl 10 t) 0 [] (μ.new (.lst [])) .no .no .no (by simp [Sto.new]) rfl (fun b hb => by simp [Sto.new, hb]) ?_ hr rfl ?_
    · rw [List.length_nil]; omega
    cases hq : rowsF 0 (spl 10 t) with
    | ok vs => rw [hq] at q; exact fun μ' s2 s3 s4 h1 h2 h3 => q μ' h1 h2 h3
    | error n => rw [hq] at q; exact q

/-! ### writing -/
def wof : Nat → Val → Option (List (List Nat))
  | 0, _ => none
  | k + 1, v => match v with
    | .tup vs => wofs k vs
    | .str l => if l.length ≤ 1000 then some [qtS l] else none
    | .int i => if 0 ≤ i ∧ i < 1000000000 then some [numS i.toNat] else none
    | _ => none
where wofs (k : Nat) : List Val → Option (List (List Nat))
  | [] => some []
  | v :: vs => match wof k v, wofs k vs with
    | some a, some b => some (a ++ b)
    | _, _ => none
def M_words_of (R : FnM) : MS :=
  (sSeq (sIf (mB (mIsi .tup (mVar 0)))
    (sRet (mFrz (lComp2 (MW.iTup (mVar 0)) (.nm 1) [1, 2] (iLst (mCall (ck 1 R) (aCons (mVar 1) aNil))) (.nm 2) [2] (mVar 2))))
    sNil)
    (sSeq (sIf (mB (mIsi .str (mVar 0)))
    (sRet (mFrz (lDsp (aCons (mCall (ck 1 G_written_text) (aCons (mVar 0) aNil)) aNil))))
    sNil)
    (sRet (mFrz (lDsp (aCons (mCB oStr1 (aCons (mVar 0) aNil)) aNil))))))
def P_words_of (R : FnM) : FnM := fnM 3 1 (M_words_of R)
def wofN : Nat → FnM
  | 0 => GNo
  | n + 1 => fun vs μ Q _ => match vs with
    | [v] => ∃ ws, wof (n + 1) v = some ws ∧ ws.length ≤ 100000 ∧ Q (.lst (ws.map Val.str)) μ
    | _ => False
def G_words_of : FnM := wofN 6
theorem wi_loop {ok : Sto → Prop} {σ : Lc} {Z : List Val → Sto → Prop} {μ : Sto} (hok : ok μ) (hl : 2 < σ.length) : ∀ (vs acc : List Val), acc.length + vs.length ≤ 100000 → Z (acc ++ vs) μ → lcI (.nm 2) (mVar 2) ok σ Z vs acc μ
  | [], acc, _, q => ⟨hok, by rw [List.append_nil] at q; exact q⟩
  | v :: vs, acc, h, q => by
    rw [List.length_cons] at h
    refine ⟨hok, by show acc.length < 1000000; omega, ?_⟩
    simp only [Tg.mt]
    have e : (σ.set 2 (.val v))[2]? = some (.val v) := by simp [hl]
    simp only [mVar, e]
    exact wi_loop hok hl vs (acc ++ [v]) (by rw [List.length_append, List.length_singleton]; omega) (by rw [List.append_assoc]; exact q)
theorem wofs_cons {n : Nat} {v : Val} {vs : List Val} {ws : List (List Nat)} (h : wof.wofs n (v :: vs) = some ws) : ∃ a b, wof n v = some a ∧ wof.wofs n vs = some b ∧ ws = a ++ b := by
  rw [wof.wofs] at h
  split at h
  · rename_i a b h1 h2; cases h; exact ⟨a, b, h1, h2, rfl⟩
  · cases h
theorem wo_loop {n : Nat} {v0 : Val} {K : List Val → Sto → Prop} {μ : Sto} : ∀ (vs acc : List Val) (ws : List (List Nat)), wof.wofs n vs = some ws → acc.length + ws.length ≤ 100000 → K (acc ++ ws.map Val.str) μ → lcL2 (.nm 1) (iLst (mCall (ck 1 (wofN n)) (aCons (mVar 1) aNil))) (.nm 2) [2] (mVar 2) (fun _ => True) (wipeM [.val v0, .no, .no] [1, 2]) K vs acc μ
  | [], acc, ws, h, hl, q => by
    rw [wof.wofs] at h
    cases h
    exact ⟨trivial, by simpa using q⟩
  | v :: vs, acc, ws, h, hl, q => by
    obtain ⟨a, b, h1, h2, rfl⟩ := wofs_cons h
    have ih := wo_loop (n := n) (v0 := v0) (K := K) (μ := μ) vs
    refine ⟨trivial, ?_⟩
    cases n with
    | zero => rw [wof] at h1; cases h1
    | succ n =>
      rw [List.length_append] at hl
      simp [zEI, iLst, wipeM, hideM]
      rw [stop_is]
      refine ⟨a, h1, by omega, ?_⟩
      simp only [iLst]
      refine wi_loop trivial (by simp) _ _ (by rw [List.length_map]; omega) ?_
      exact ih (acc ++ a.map Val.str) b h2 (by rw [List.length_append, List.length_map]; omega) (by rw [List.append_assoc, ← List.map_append]; exact q)
theorem wofN_P : ∀ (n : Nat) vs μ Q E, vs.length = 1 → wofN (n + 1) vs μ Q E → P_words_of (wofN n) vs μ Q E := by
  intro n vs μ Q E hl q
  obtain ⟨v, rfl⟩ : ∃ v, vs = [v] := by
    match vs, hl with
    | [v], _ => exact ⟨v, rfl⟩
  obtain ⟨ws, h, hw, q⟩ : ∃ ws, wof (n + 1) v = some ws ∧ ws.length ≤ 100000 ∧ Q (.lst (ws.map Val.str)) μ := q
  cases v with
  | tup vs =>
    rw [wof] at h
    simp [zEI, P_words_of, M_words_of]
    unfold lComp2 MW.iTup
    simp [zEI]
    exact wo_loop vs [] ws h (by simpa using hw) q
  | str l =>
    rw [wof] at h
    split at h
    rotate_left
    · cases h
    rename_i hl1
    cases h
    simp [zEI, P_words_of, M_words_of, mFrz]
    rw [stop_is]
    exact ⟨hl1, by decide, q⟩
  | int i =>
    rw [wof] at h
    split at h
    rotate_left
    · cases h
    rename_i hl1
    cases h
    simp [zEI, P_words_of, M_words_of, mFrz]
    exact ⟨hl1, by decide, q⟩
  | _ => simp [wof] at h
def M_written : MS :=
  (sRet (mSm gJoin (mC (.str [10])) (mFrz (lComp (iLst (mVar 0)) (.nm 1) [1] mYes (mSm gJoin (mC (.str [32])) (mCall (ck 1 G_words_of) (aCons (mVar 1) aNil)))))))
def P_written : FnM := fnM 2 1 M_written
def textF : List (List (List Nat)) → List Nat := fun rows => TL.joinL [10] (rows.map fun r => TL.joinL [32] r)
def wofAll : List Val → Option (List (List (List Nat)))
  | [] => some []
  | v :: vs => match wof 6 v, wofAll vs with
    | some a, some b => some (a :: b)
    | _, _ => none
def rowV (v : Val) : Val := match wof 6 v with
  | some r => .str (TL.joinL [32] r)
  | none => .non
theorem wofAll_cons {v : Val} {vs : List Val} {rows : List (List (List Nat))} (h : wofAll (v :: vs) = some rows) : ∃ a b, wof 6 v = some a ∧ wofAll vs = some b ∧ rows = a :: b := by
  rw [wofAll] at h
  split at h
  · rename_i a b h1 h2; cases h; exact ⟨a, b, h1, h2, rfl⟩
  · cases h
theorem wofAll_mem : ∀ {vs : List Val} {rows : List (List (List Nat))}, wofAll vs = some rows → (∀ v ∈ vs, ∃ r ∈ rows, wof 6 v = some r) ∧ vs.map rowV = rows.map fun r => Val.str (TL.joinL [32] r)
  | [], rows, h => by cases h; exact ⟨fun v hv => (by cases hv), rfl⟩
  | v :: vs, rows, h => by
    obtain ⟨a, b, h1, h2, rfl⟩ := wofAll_cons h
    obtain ⟨k1, k2⟩ := wofAll_mem h2
    refine ⟨fun w hw => ?_, by rw [List.map_cons, List.map_cons, k2]; unfold rowV; rw [h1]⟩
    rcases List.mem_cons.mp hw with rfl | hw
    · exact ⟨a, List.mem_cons_self, h1⟩
    · obtain ⟨r, h3, h4⟩ := k1 w hw; exact ⟨r, List.mem_cons_of_mem _ h3, h4⟩
theorem strsOf_map {α : Type} (f : α → List Nat) : ∀ l : List α, strsOf (l.map fun x => Val.str (f x)) = some (l.map f)
  | [] => rfl
  | x :: l => by rw [List.map_cons, strsOf, strsOf_map f l]; rfl
def G_written : FnM := fun vs μ Q _ => match vs with
  | [v] => ∃ vs rows, seqL μ v = some vs ∧ wofAll vs = some rows ∧ rows.length ≤ 1000 ∧ (∀ r ∈ rows, r.length ≤ 1000 ∧ (TL.joinL [32] r).length ≤ strLim) ∧ (textF rows).length ≤ strLim ∧ Q (.str (textF rows)) μ
  | _ => False
theorem GP_written : ∀ vs μ Q E, vs.length = 1 → G_written vs μ Q E → P_written vs μ Q E := by
  intro vs μ Q E hl q
  unfold G_written at q
  split at q
  rotate_left
  · exact q.elim
  obtain ⟨us, rows, h1, h2, h3, h4, h5, q⟩ := q
  rename_i v
  obtain ⟨k1, k2⟩ := wofAll_mem h2
  simp [zEI, P_written, M_written]
  unfold lComp
  refine list_of (v := v) (vs := us) (fun Q' q' => by simp [zEI]; exact q') h1 fun ok hok => ?_
  refine lcL_map' hok rowV us [] (fun x hx => ?_) ?_
  · obtain ⟨r, hr, e⟩ := k1 x hx
    refine ⟨_, mt_nm _ _ _, fun Q' q' => ?_⟩
    obtain ⟨k3, k4⟩ := h4 r hr
    simp [zEI, wipeM, hideM]
    rw [stop_is]
    refine ⟨r, e, by omega, ?_⟩
    have hs : strsOf (r.map Val.str) = some r := by
      have := strsOf_map (fun l : List Nat => l) r
      simpa using this
    simp [zEI, hs]
    unfold rowV at q'
    rw [e] at q'
    exact ⟨k4, k3, q'⟩
  · rw [List.nil_append, k2, strsOf_map]
    exact ⟨h5, by rw [List.length_map]; exact h3, q⟩

/-! ### steps as they are written -/
inductive Wst where
  | opn (f : Nat) (t : List Nat) | edt (f : Nat) (es : List ((Nat × Nat) × (Nat × Nat) × List Nat)) | cls (f : Nat) | fnd (f : Nat) (t : List Nat) | rws (f : Nat) (t : List Nat) | wrd (f : Nat) (p : Nat × Nat) | ren (f : Nat) (p : Nat × Nat) (t : List Nat) | off (n : Nat) | tke (n : Nat) | wrk (n : Nat) | one (k : List Nat)
def kEdit : List Nat := [101, 100, 105, 116]
def kTake : List Nat := [116, 97, 107, 101]
def kWork : List Nat := [119, 111, 114, 107]
def ones : List (List Nat) := [[99, 97, 114, 114, 121], [98, 114, 105, 110, 103], [102, 97, 108, 108], [97, 110, 101, 119], [115, 101, 116, 116, 108, 101]]
def edV (e : (Nat × Nat) × (Nat × Nat) × List Nat) : Val := .tup [plV e.1, plV e.2.1, .str e.2.2]
def Wst.v : Wst → Val
  | .opn f t => .tup [.str kOpen, .int (f : Nat), .str t]
  | .edt f es => .tup [.str kEdit, .int (f : Nat), .tup (es.map edV)]
  | .cls f => .tup [.str kClose, .int (f : Nat)]
  | .fnd f t => .tup [.str kAsk, .int (f : Nat), .tup [.str kFind, .str t]]
  | .rws f t => .tup [.str kAsk, .int (f : Nat), .tup [.str kRows, .str t]]
  | .wrd f p => .tup [.str kAsk, .int (f : Nat), .tup [.str kWord, plV p]]
  | .ren f p t => .tup [.str kAsk, .int (f : Nat), .tup [.str kRen, plV p, .str t]]
  | .off n => .tup [.str kOff, .int (n : Nat)]
  | .tke n => .tup [.str kTake, .int (n : Nat)]
  | .wrk n => .tup [.str kWork, .int (n : Nat)]
  | .one k => .tup [.str k]
def plW (p : Nat × Nat) : List (List Nat) := [numS p.1, numS p.2]
def edW (e : (Nat × Nat) × (Nat × Nat) × List Nat) : List (List Nat) := plW e.1 ++ plW e.2.1 ++ [qtS e.2.2]
def Wst.k : Wst → List Nat
  | .opn _ _ => kOpen | .edt _ _ => kEdit | .cls _ => kClose | .fnd _ _ => kAsk | .rws _ _ => kAsk | .wrd _ _ => kAsk | .ren _ _ _ => kAsk | .off _ => kOff | .tke _ => kTake | .wrk _ => kWork | .one k => k
def Wst.w : Wst → List (List Nat)
  | .opn f t => [numS f, qtS t]
  | .edt f es => numS f :: es.flatMap edW
  | .cls f => [numS f]
  | .fnd f t => [numS f, kFind, qtS t]
  | .rws f t => [numS f, kRows, qtS t]
  | .wrd f p => numS f :: [119, 111, 114, 100] :: plW p
  | .ren f p t => numS f :: kRen :: (plW p ++ [qtS t])
  | .off n => [numS n]
  | .tke n => [numS n]
  | .wrk n => [numS n]
  | .one _ => []
def plOk (p : Nat × Nat) : Prop := p.1 < 1000 ∧ p.2 < 1000
def ltrs (t : List Nat) : Prop := 1 ≤ t.length ∧ t.length ≤ 8 ∧ t.all ltr = true
def Wst.ok : Wst → Prop
  | .opn f t => f < 1000 ∧ t.length ≤ 200
  | .edt f es => f < 1000 ∧ es.length ≤ 2 ∧ ∀ e ∈ es, plOk e.1 ∧ plOk e.2.1 ∧ e.2.2.length ≤ 200
  | .cls f => f < 1000
  | .fnd f t => f < 1000 ∧ ltrs t
  | .rws f t => f < 1000 ∧ ltrs t
  | .wrd f p => f < 1000 ∧ plOk p
  | .ren f p t => f < 1000 ∧ plOk p ∧ ltrs t
  | .off n => n < 1000
  | .tke n => n < 1000
  | .wrk n => n < 1000
  | .one k => k ∈ ones
theorem qts_ltr {t : List Nat} (h : t.all ltr = true) : qts t = t := by
  induction t with
  | nil => rfl
  | cons c t ih =>
    rw [List.all_cons, Bool.and_eq_true] at h
    have hc : c ≠ 126 ∧ c ≠ 32 ∧ c ≠ 10 := by
      have := h.1
      unfold ltr at this
      simp at this
      omega
    unfold qts at ih ⊢
    rw [List.flatMap_cons, ih h.2]
    unfold qt1
    rw [if_neg hc.1, if_neg hc.2.1, if_neg hc.2.2]
    rfl
/-! ### what is written is read -/
theorem wof_tup {k : Nat} {vs : List Val} : wof (k + 1) (.tup vs) = wof.wofs k vs := by rw [wof]
theorem wof_str {k : Nat} {t : List Nat} (h : t.length ≤ 1000) : wof (k + 1) (.str t) = some [qtS t] := by rw [wof, if_pos h]
theorem wof_nat {k n : Nat} (h : n < 1000) : wof (k + 1) (.int (n : Nat)) = some [numS n] := by
  rw [wof, if_pos ⟨by omega, by omega⟩, Int.toNat_natCast]
theorem wofs_nil {k : Nat} : wof.wofs k [] = some [] := by rw [wof.wofs]
theorem wofs_mk {k : Nat} {v : Val} {vs : List Val} {a b : List (List Nat)} (h1 : wof k v = some a) (h2 : wof.wofs k vs = some b) : wof.wofs k (v :: vs) = some (a ++ b) := by rw [wof.wofs, h1, h2]
theorem wof_pl {k : Nat} {p : Nat × Nat} (h : plOk p) : wof (k + 2) (plV p) = some (plW p) := by
  unfold plV
  rw [wof_tup, wofs_mk (wof_nat h.1) (wofs_mk (wof_nat h.2) wofs_nil)]
  rfl
theorem wof_ed {k : Nat} {e : (Nat × Nat) × (Nat × Nat) × List Nat} (h : plOk e.1 ∧ plOk e.2.1 ∧ e.2.2.length ≤ 200) : wof (k + 3) (edV e) = some (edW e) := by
  unfold edV
  rw [wof_tup, wofs_mk (wof_pl h.1) (wofs_mk (wof_pl h.2.1) (wofs_mk (wof_str (by omega)) wofs_nil))]
  unfold edW
  simp
theorem wofs_eds {k : Nat} : ∀ {es : List ((Nat × Nat) × (Nat × Nat) × List Nat)}, (∀ e ∈ es, plOk e.1 ∧ plOk e.2.1 ∧ e.2.2.length ≤ 200) → wof.wofs (k + 3) (es.map edV) = some (es.flatMap edW)
  | [], _ => wofs_nil
  | e :: es, h => by
    rw [List.map_cons, wofs_mk (wof_ed (h e List.mem_cons_self)) (wofs_eds fun e' he => h e' (List.mem_cons_of_mem _ he)), List.flatMap_cons]
theorem qtS_k {t : List Nat} (h : t ≠ [] ∧ t.all ltr = true) : qtS t = t := by
  unfold qtS
  rw [if_neg h.1, qts_ltr h.2]
theorem wof_k {k : Nat} {t : List Nat} (h : t ≠ [] ∧ t.all ltr = true) (hl : t.length ≤ 1000) : wof (k + 1) (.str t) = some [t] := by rw [wof_str hl, qtS_k h]
theorem wof_sp : ∀ {s : Wst}, s.ok → wof 6 s.v = some (s.k :: s.w)
  | .opn f t, h => by
    rw [Wst.v, wof_tup, wofs_mk (wof_k ⟨by decide, by decide⟩ (by decide)) (wofs_mk (wof_nat h.1) (wofs_mk (wof_str (by have := h.2; omega)) wofs_nil))]
    rfl
  | .edt f es, h => by
    rw [Wst.v, wof_tup, wofs_mk (wof_k ⟨by decide, by decide⟩ (by decide)) (wofs_mk (wof_nat h.1) (wofs_mk (by rw [wof_tup]; exact wofs_eds (k := 1) h.2.2) wofs_nil))]
    simp [Wst.k, Wst.w]
  | .cls f, h => by
    rw [Wst.v, wof_tup, wofs_mk (wof_k ⟨by decide, by decide⟩ (by decide)) (wofs_mk (wof_nat h) wofs_nil)]
    rfl
  | .fnd f t, h => by
    rw [Wst.v, wof_tup, wofs_mk (wof_k ⟨by decide, by decide⟩ (by decide)) (wofs_mk (wof_nat h.1) (wofs_mk (by rw [wof_tup]; exact wofs_mk (wof_k ⟨by decide, by decide⟩ (by decide)) (wofs_mk (wof_str (by have := h.2.2.1; omega)) wofs_nil)) wofs_nil))]
    rfl
  | .rws f t, h => by
    rw [Wst.v, wof_tup, wofs_mk (wof_k ⟨by decide, by decide⟩ (by decide)) (wofs_mk (wof_nat h.1) (wofs_mk (by rw [wof_tup]; exact wofs_mk (wof_k ⟨by decide, by decide⟩ (by decide)) (wofs_mk (wof_str (by have := h.2.2.1; omega)) wofs_nil)) wofs_nil))]
    rfl
  | .wrd f p, h => by
    rw [Wst.v, wof_tup, wofs_mk (wof_k ⟨by decide, by decide⟩ (by decide)) (wofs_mk (wof_nat h.1) (wofs_mk (by rw [wof_tup]; exact wofs_mk (wof_k ⟨by decide, by decide⟩ (by decide)) (wofs_mk (wof_pl (k := 2) h.2) wofs_nil)) wofs_nil))]
    rfl
  | .ren f p t, h => by
    rw [Wst.v, wof_tup, wofs_mk (wof_k ⟨by decide, by decide⟩ (by decide)) (wofs_mk (wof_nat h.1) (wofs_mk (by rw [wof_tup]; exact wofs_mk (wof_k ⟨by decide, by decide⟩ (by decide)) (wofs_mk (wof_pl (k := 2) h.2.1) (wofs_mk (wof_str (by have := h.2.2.2.1; omega)) wofs_nil))) wofs_nil))]
    rfl
  | .off n, h => by
    rw [Wst.v, wof_tup, wofs_mk (wof_k ⟨by decide, by decide⟩ (by decide)) (wofs_mk (wof_nat h) wofs_nil)]
    rfl
  | .tke n, h => by
    rw [Wst.v, wof_tup, wofs_mk (wof_k ⟨by decide, by decide⟩ (by decide)) (wofs_mk (wof_nat h) wofs_nil)]
    rfl
  | .wrk n, h => by
    rw [Wst.v, wof_tup, wofs_mk (wof_k ⟨by decide, by decide⟩ (by decide)) (wofs_mk (wof_nat h) wofs_nil)]
    rfl
  | .one k, h => by
    have hk : (k ≠ [] ∧ k.all ltr = true) ∧ k.length ≤ 1000 := (by decide : ∀ k ∈ ones, (k ≠ [] ∧ k.all ltr = true) ∧ k.length ≤ 1000) k h
    rw [Wst.v, wof_tup, wofs_mk (wof_k hk.1 hk.2) wofs_nil]
    rfl
theorem edW_len (es : List ((Nat × Nat) × (Nat × Nat) × List Nat)) : (es.flatMap edW).length = 5 * es.length := by
  induction es with
  | nil => rfl
  | cons e es ih => rw [List.flatMap_cons, List.length_append, ih, List.length_cons]; show 5 + _ = _; omega
/-! no blanks within words -/
def clean (w : List Nat) : Prop := ∀ c ∈ w, c ≠ 32 ∧ c ≠ 10
theorem clean_qt {t : List Nat} : clean (qtS t) := by
  intro c hc
  unfold qtS at hc
  split at hc
  · simp at hc; omega
  · unfold qts at hc
    obtain ⟨d, _, hd⟩ := List.mem_flatMap.mp hc
    unfold qt1 at hd
    split at hd
    · simp at hd; omega
    split at hd
    · simp at hd; omega
    split at hd
    · simp at hd; omega
    · simp at hd; subst hd; exact ⟨by assumption, by assumption⟩
theorem clean_num {n : Nat} (h : n < 1000) : clean (numS n) := fun c hc => by
  have := (numS_ok 2 n h).2 c hc
  omega
theorem len_num {n : Nat} (h : n < 1000) : (numS n).length ≤ 3 := (numS_ok 2 n h).1
theorem qts_len (t : List Nat) : (qts t).length ≤ 2 * t.length := by
  induction t with
  | nil => exact Nat.le_refl _
  | cons c t ih =>
    unfold qts at ih ⊢
    rw [List.flatMap_cons, List.length_append, List.length_cons]
    have : (qt1 c).length ≤ 2 := by
      unfold qt1
      repeat' split
      all_goals simp
    omega
theorem qtS_len {t : List Nat} (h : t.length ≤ 200) : (qtS t).length ≤ 400 := by
  unfold qtS
  split
  · decide
  · have := qts_len t; omega
def wgood (w : List Nat) : Prop := clean w ∧ w.length ≤ 400
theorem good_num {n : Nat} (h : n < 1000) : wgood (numS n) := ⟨clean_num h, by have := len_num h; omega⟩
theorem good_qt {t : List Nat} (h : t.length ≤ 200) : wgood (qtS t) := ⟨clean_qt, qtS_len h⟩
theorem good_k {k : List Nat} (h : k.all ltr = true ∧ k.length ≤ 400) : wgood k := ⟨fun c hc => by
  have := List.all_eq_true.mp h.1 c hc
  unfold ltr at this
  simp at this
  omega, h.2⟩
theorem sp_good : ∀ {s : Wst}, s.ok → (s.k :: s.w).length ≤ 12 ∧ ∀ w ∈ s.k :: s.w, wgood w
  | .opn f t, h => ⟨by simp [Wst.k, Wst.w], fun w hw => by
    simp only [Wst.k, Wst.w, List.mem_cons, List.not_mem_nil, or_false] at hw
    rcases hw with rfl | rfl | rfl
    · exact good_k ⟨by decide, by decide⟩
    · exact good_num h.1
    · exact good_qt h.2⟩
  | .edt f es, h => ⟨by
      show (kEdit :: numS f :: es.flatMap edW).length ≤ 12
      rw [List.length_cons, List.length_cons, edW_len]; have := h.2.1; omega, fun w hw => by
    simp only [Wst.k, Wst.w, List.mem_cons] at hw
    rcases hw with rfl | rfl | hw
    · exact good_k ⟨by decide, by decide⟩
    · exact good_num h.1
    · obtain ⟨e, he, hw⟩ := List.mem_flatMap.mp hw
      have k := h.2.2 e he
      simp only [edW, plW, List.mem_append, List.mem_cons, List.not_mem_nil, or_false] at hw
      rcases hw with ((rfl | rfl) | rfl | rfl) | rfl
      · exact good_num k.1.1
      · exact good_num k.1.2
      · exact good_num k.2.1.1
      · exact good_num k.2.1.2
      · exact good_qt k.2.2⟩
  | .cls f, h => ⟨by simp [Wst.k, Wst.w], fun w hw => by
    simp only [Wst.k, Wst.w, List.mem_cons, List.not_mem_nil, or_false] at hw
    rcases hw with rfl | rfl
    · exact good_k ⟨by decide, by decide⟩
    · exact good_num h⟩
  | .fnd f t, h => ⟨by simp [Wst.k, Wst.w], fun w hw => by
    simp only [Wst.k, Wst.w, List.mem_cons, List.not_mem_nil, or_false] at hw
    rcases hw with rfl | rfl | rfl | rfl
    · exact good_k ⟨by decide, by decide⟩
    · exact good_num h.1
    · exact good_k ⟨by decide, by decide⟩
    · exact good_qt (by have := h.2.2.1; omega)⟩
  | .rws f t, h => ⟨by simp [Wst.k, Wst.w], fun w hw => by
    simp only [Wst.k, Wst.w, List.mem_cons, List.not_mem_nil, or_false] at hw
    rcases hw with rfl | rfl | rfl | rfl
    · exact good_k ⟨by decide, by decide⟩
    · exact good_num h.1
    · exact good_k ⟨by decide, by decide⟩
    · exact good_qt (by have := h.2.2.1; omega)⟩
  | .wrd f p, h => ⟨by show 5 ≤ 12; decide, fun w hw => by
    simp only [Wst.k, Wst.w, plW, List.mem_cons, List.not_mem_nil, or_false] at hw
    rcases hw with rfl | rfl | rfl | rfl | rfl
    · exact good_k ⟨by decide, by decide⟩
    · exact good_num h.1
    · exact good_k ⟨by decide, by decide⟩
    · exact good_num h.2.1
    · exact good_num h.2.2⟩
  | .ren f p t, h => ⟨by show 6 ≤ 12; decide, fun w hw => by
    simp only [Wst.k, Wst.w, plW, List.mem_cons, List.mem_append, List.not_mem_nil, or_false, List.cons_append, List.nil_append] at hw
    rcases hw with rfl | rfl | rfl | rfl | rfl | rfl
    · exact good_k ⟨by decide, by decide⟩
    · exact good_num h.1
    · exact good_k ⟨by decide, by decide⟩
    · exact good_num h.2.1.1
    · exact good_num h.2.1.2
    · exact good_qt (by have := h.2.2.2.1; omega)⟩
  | .off n, h => ⟨by simp [Wst.k, Wst.w], fun w hw => by
    simp only [Wst.k, Wst.w, List.mem_cons, List.not_mem_nil, or_false] at hw
    rcases hw with rfl | rfl
    · exact good_k ⟨by decide, by decide⟩
    · exact good_num h⟩
  | .tke n, h => ⟨by simp [Wst.k, Wst.w], fun w hw => by
    simp only [Wst.k, Wst.w, List.mem_cons, List.not_mem_nil, or_false] at hw
    rcases hw with rfl | rfl
    · exact good_k ⟨by decide, by decide⟩
    · exact good_num h⟩
  | .wrk n, h => ⟨by simp [Wst.k, Wst.w], fun w hw => by
    simp only [Wst.k, Wst.w, List.mem_cons, List.not_mem_nil, or_false] at hw
    rcases hw with rfl | rfl
    · exact good_k ⟨by decide, by decide⟩
    · exact good_num h⟩
  | .one k, h => ⟨by simp [Wst.k, Wst.w], fun w hw => by
    simp only [Wst.k, Wst.w, List.mem_cons, List.not_mem_nil, or_false] at hw
    subst hw
    have hk : w.all ltr = true ∧ w.length ≤ 400 := (by decide : ∀ k ∈ ones, k.all ltr = true ∧ k.length ≤ 400) w h
    exact good_k hk⟩

/-! ### rows and words apart -/
theorem join_len {d m : Nat} : ∀ {ws : List (List Nat)}, (∀ x ∈ ws, x.length ≤ m) → (TL.joinL [d] ws).length ≤ ws.length * (m + 1)
  | [], _ => by rw [TL.joinL]; exact Nat.zero_le _
  | [w], h => by
    have := h w List.mem_cons_self
    rw [TL.joinL, List.length_singleton]; omega
  | w :: v :: ws, h => by
    have h1 := h w List.mem_cons_self
    have ih := join_len (d := d) (m := m) (ws := v :: ws) fun x hx => h x (List.mem_cons_of_mem _ hx)
    rw [TL.joinL, List.length_append, List.length_append, List.length_singleton, List.length_cons, Nat.add_mul]
    omega
theorem join_mem {d c : Nat} : ∀ {ws : List (List Nat)}, c ∈ TL.joinL [d] ws → c = d ∨ ∃ w ∈ ws, c ∈ w
  | [], h => by rw [TL.joinL] at h; cases h
  | [w], h => by rw [TL.joinL] at h; exact .inr ⟨w, List.mem_cons_self, h⟩
  | w :: v :: ws, h => by
    rw [TL.joinL] at h
    rcases List.mem_append.mp h with h | h
    · exact .inr ⟨w, List.mem_cons_self, h⟩
    rcases List.mem_append.mp h with h | h
    · exact .inl (List.mem_singleton.mp h)
    · rcases join_mem h with h | ⟨x, h1, h2⟩
      · exact .inl h
      · exact .inr ⟨x, List.mem_cons_of_mem _ h1, h2⟩
def rowOf (s : Wst) : List Nat := TL.joinL [32] (s.k :: s.w)
def textOf (ss : List Wst) : List Nat := TL.joinL [10] (ss.map rowOf)
theorem row_len {s : Wst} (h : s.ok) : (rowOf s).length ≤ 5000 := by
  obtain ⟨h1, h2⟩ := sp_good h
  have := join_len (d := 32) (m := 400) (ws := s.k :: s.w) fun x hx => (h2 x hx).2
  have h3 : (s.k :: s.w).length * (400 + 1) ≤ 12 * 401 := Nat.mul_le_mul_right _ h1
  unfold rowOf
  omega
theorem row_10 {s : Wst} (h : s.ok) : 10 ∉ rowOf s := fun z => by
  rcases join_mem z with z | ⟨w, h1, h2⟩
  · cases z
  · exact ((sp_good h).2 w h1).1 10 h2 |>.2 rfl
theorem text_len {ss : List Wst} (h : ∀ s ∈ ss, s.ok) (hl : ss.length ≤ 100) : (textOf ss).length ≤ 600000 := by
  have := join_len (d := 10) (m := 5000) (ws := ss.map rowOf) fun x hx => by
    obtain ⟨s, hs, rfl⟩ := List.mem_map.mp hx
    exact row_len (h s hs)
  rw [List.length_map] at this
  have h3 : ss.length * (5000 + 1) ≤ 100 * 5001 := Nat.mul_le_mul_right _ hl
  unfold textOf
  omega
theorem wofAll_sp : ∀ {ss : List Wst}, (∀ s ∈ ss, s.ok) → wofAll (ss.map Wst.v) = some (ss.map fun s => s.k :: s.w)
  | [], _ => rfl
  | s :: ss, h => by
    rw [List.map_cons, wofAll, wof_sp (h s List.mem_cons_self), wofAll_sp fun x hx => h x (List.mem_cons_of_mem _ hx)]
    rfl
theorem textF_of {ss : List Wst} : textF (ss.map fun s => s.k :: s.w) = textOf ss := by
  unfold textF textOf
  rw [List.map_map]
  rfl

/-! ### steps as they are drawn -/
theorem okSh_take {t : List Nat} (k : Nat) (h : okSh (.str t) = true) : okSh (.str (t.take k)) = true := by
  obtain ⟨h1, h2⟩ := okSh_str.mp h
  refine okSh_str.mpr ⟨by rw [List.length_take]; omega, ?_⟩
  rw [List.all_eq_true] at h2 ⊢
  exact fun c hc => h2 c (List.mem_of_mem_take hc)
theorem seen_pos {s : List Nat} {n : Nat} (hn : n ≤ s.length) (hl : s.length ≤ 900) : plOk (pos s n) := by
  have h : ∀ (l : List Nat) (p : Nat × Nat) (m : Nat), p.1 + p.2 ≤ m → (l.foldl stp p).1 + (l.foldl stp p).2 ≤ m + l.length := by
    intro l
    induction l with
    | nil => intro p m h; exact h
    | cons c l ih =>
      intro p m h
      rw [List.foldl_cons, List.length_cons]
      have : (stp p c).1 + (stp p c).2 ≤ m + 1 := by
        unfold stp
        split <;> simp <;> omega
      have := ih (stp p c) (m + 1) this
      omega
  have := h (s.take n) (0, 0) 0 (by simp)
  rw [List.length_take] at this
  unfold plOk pos posF
  omega
theorem eds_sp : ∀ {es : List Val} {s u : List Nat}, s.length ≤ 200 → edsOn s es = some u → ∃ l : List ((Nat × Nat) × (Nat × Nat) × List Nat), es = l.map edV ∧ ∀ e ∈ l, plOk e.1 ∧ plOk e.2.1 ∧ e.2.2.length ≤ 200
  | [], _, _, _, _ => ⟨[], rfl, fun e h => by cases h⟩
  | e :: es, s, u, hs, h => by
    rw [edsOn] at h
    cases he : edOf s e with
    | none => rw [he] at h; cases h
    | some y =>
      rw [he] at h
      obtain ⟨k1, k2, k3, k4, k5, k6⟩ := edOf_is he
      have ly : y.on.length ≤ 200 := on_len he
      obtain ⟨l, h1, h2⟩ := eds_sp (es := es) ly h
      have h40 : y.q.length ≤ 200 := by
        simp [signsV] at k5
        omega
      refine ⟨(pos s y.a, pos s y.z, y.q) :: l, by rw [List.map_cons, ← h1, k1]; rfl, fun x hx => ?_⟩
      rcases List.mem_cons.mp hx with rfl | hx
      · exact ⟨seen_pos (by omega) (by omega), seen_pos (by omega) (by omega), h40⟩
      · exact h2 x hx
theorem want_sp {s : List Nat} {f : Nat} {w : Val} (hs : s.length ≤ 200) (hf : f < 1000) (ha : (askOf w).isSome = true) (hp : ∀ x, askOf w = some x → (ansV s x).isSome = true) : ∃ p : Wst, p.ok ∧ p.v = .tup [.str kAsk, .int (f : Nat), w] := by
  obtain ⟨a, ha⟩ := Option.isSome_iff_exists.mp ha
  have ha2 := hp a ha
  have pl : ∀ {p : Val}, (placeN s p).isSome = true → ∃ q, plOk q ∧ p = plV q := fun {p} h => by
    obtain ⟨n, hn⟩ := Option.isSome_iff_exists.mp h
    obtain ⟨h1, h2⟩ := placeN_is hn
    exact ⟨_, seen_pos h1 (by omega), h2⟩
  rcases askOf_is ha with ⟨t, rfl, rfl, hw⟩ | ⟨t, rfl, rfl, hw⟩ | ⟨p, rfl, rfl, hw⟩ | ⟨p, t, rfl, rfl, hw, hw2⟩
  · exact ⟨.fnd f t, ⟨hf, wordB_str hw⟩, rfl⟩
  · exact ⟨.rws f t, ⟨hf, wordB_str hw⟩, rfl⟩
  · obtain ⟨q, h1, rfl⟩ := pl (p := p) (by simpa [ansV] using ha2)
    exact ⟨.wrd f q, ⟨hf, h1⟩, rfl⟩
  · obtain ⟨q, h1, rfl⟩ := pl (p := p) (by simpa [ansV] using ha2)
    exact ⟨.ren f q t, ⟨hf, h1, wordB_str hw2⟩, rfl⟩
def M__law_play : MS :=
  (sSeq (sOwn 2 (lDsp aNil))
    (sSeq (sFor (iRg1 (mCall (ck 2 G__law_drawn) (aCons (mVar 0) (aCons (mC (.int 25)) aNil)))) (.nm 3)
    (sSeq (sPar 4 5 (aCons (mCall (ck 2 G__law_drawn) (aCons (mVar 0) (aCons (mC (.int 15)) aNil))) (aCons (mCall (ck 2 G__law_drawn) (aCons (mVar 0) (aCons (mVar 1) aNil))) aNil)))
    (sSeq (sAsg (.nm 6) (mCall (ck 2 G__law_drawn) (aCons (mVar 0) (aCons (mOp oIx (mFrz (lDsp (aCons (mC (.int 4)) (aCons (mC (.int 1000)) aNil)))) (mOp oDiv (mCall (ck 2 G__law_drawn) (aCons (mVar 0) (aCons (mC (.int 9)) aNil))) (mC (.int 8)))) aNil))))
    (sSeq (sAsg (.nm 7) (mSl (mCall (ck 1 G__law_sheet) (aCons (mVar 0) aNil)) pNone (pSome (mC (.int 60)))))
    (sSeq (sAsg (.nm 8) (mFrz (lDsp (aCons (mTup (aCons (mC (.str [111, 112, 101, 110])) (aCons (mVar 5) (aCons (mVar 7) aNil)))) (aCons (mTup (aCons (mC (.str [111, 112, 101, 110])) (aCons (mVar 5) (aCons (mVar 7) aNil)))) (aCons (mTup (aCons (mC (.str [101, 100, 105, 116])) (aCons (mVar 5) (aCons (mCB oTuple (aCons (mOp oIx (mCall (ck 3 G__law_edits) (aCons (mVar 0) (aCons (mVar 7) (aCons (mC (.int 2)) aNil)))) (mC (.int 0))) aNil)) aNil)))) aNil))))))
    (sSeq (sAsg (.nm 8) (mFrz (lAdd (mVar 8) (mFrz (lDsp (aCons (mTup (aCons (mC (.str [101, 100, 105, 116])) (aCons (mVar 5) (aCons (mTup (aCons (mTup (aCons (mTup (aCons (mC (.int 0)) (aCons (mC (.int 0)) aNil))) (aCons (mTup (aCons (mC (.int 0)) (aCons (mC (.int 0)) aNil))) (aCons (mCall (ck 2 G__law_put) (aCons (mVar 0) (aCons (mC (.int 9)) aNil))) aNil)))) aNil)) aNil)))) (aCons (mTup (aCons (mC (.str [99, 108, 111, 115, 101])) (aCons (mVar 5) aNil))) aNil)))))))
    (sSeq (sAsg (.nm 8) (mFrz (lAdd (mVar 8) (mFrz (lDsp (aCons (mTup (aCons (mC (.str [97, 115, 107])) (aCons (mVar 5) (aCons (mCall (ck 2 G__law_want) (aCons (mVar 0) (aCons (mVar 7) aNil))) aNil)))) (aCons (mTup (aCons (mC (.str [97, 115, 107])) (aCons (mVar 5) (aCons (mCall (ck 2 G__law_want) (aCons (mVar 0) (aCons (mVar 7) aNil))) aNil)))) (aCons (mTup (aCons (mC (.str [111, 102, 102])) (aCons (mVar 6) aNil))) aNil))))))))
    (sSeq (sAsg (.nm 8) (mFrz (lAdd (mVar 8) (mFrz (lDsp (aCons (mTup (aCons (mC (.str [116, 97, 107, 101])) (aCons (mVar 6) aNil))) (aCons (mTup (aCons (mC (.str [99, 97, 114, 114, 121])) aNil)) (aCons (mTup (aCons (mC (.str [98, 114, 105, 110, 103])) aNil)) (aCons (mTup (aCons (mC (.str [119, 111, 114, 107])) (aCons (mVar 6) aNil))) (aCons (mTup (aCons (mC (.str [102, 97, 108, 108])) aNil)) (aCons (mTup (aCons (mC (.str [97, 110, 101, 119])) aNil)) (aCons (mTup (aCons (mC (.str [115, 101, 116, 116, 108, 101])) aNil)) aNil))))))))))))
    (sOwnApp 2 (mOp oIx (mVar 8) (mVar 4)))))))))))
    (sFrz 2 (sRet (mVar 2)))))
def P__law_play : FnM := fnM 9 2 M__law_play
def G__law_play : FnM := fun vs μ Q _ => match vs with
  | [.ref a, .int m] => StA μ a ∧ 0 < m ∧ m ≤ 10 ∧ ∀ (ss : List Wst) μ', (∀ s ∈ ss, s.ok) → ss.length ≤ 24 → OnlyA a μ μ' → StA μ' a → Q (.lst (ss.map Wst.v)) μ'
  | _ => False
def T_pl2 : MS :=
  (sSeq (sAsg (.nm 8) (mFrz (lDsp (aCons (mTup (aCons (mC (.str [111, 112, 101, 110])) (aCons (mVar 5) (aCons (mVar 7) aNil)))) (aCons (mTup (aCons (mC (.str [111, 112, 101, 110])) (aCons (mVar 5) (aCons (mVar 7) aNil)))) (aCons (mTup (aCons (mC (.str [101, 100, 105, 116])) (aCons (mVar 5) (aCons (mCB oTuple (aCons (mOp oIx (mCall (ck 3 G__law_edits) (aCons (mVar 0) (aCons (mVar 7) (aCons (mC (.int 2)) aNil)))) (mC (.int 0))) aNil)) aNil)))) aNil))))))
    (sSeq (sAsg (.nm 8) (mFrz (lAdd (mVar 8) (mFrz (lDsp (aCons (mTup (aCons (mC (.str [101, 100, 105, 116])) (aCons (mVar 5) (aCons (mTup (aCons (mTup (aCons (mTup (aCons (mC (.int 0)) (aCons (mC (.int 0)) aNil))) (aCons (mTup (aCons (mC (.int 0)) (aCons (mC (.int 0)) aNil))) (aCons (mCall (ck 2 G__law_put) (aCons (mVar 0) (aCons (mC (.int 9)) aNil))) aNil)))) aNil)) aNil)))) (aCons (mTup (aCons (mC (.str [99, 108, 111, 115, 101])) (aCons (mVar 5) aNil))) aNil)))))))
    (sSeq (sAsg (.nm 8) (mFrz (lAdd (mVar 8) (mFrz (lDsp (aCons (mTup (aCons (mC (.str [97, 115, 107])) (aCons (mVar 5) (aCons (mCall (ck 2 G__law_want) (aCons (mVar 0) (aCons (mVar 7) aNil))) aNil)))) (aCons (mTup (aCons (mC (.str [97, 115, 107])) (aCons (mVar 5) (aCons (mCall (ck 2 G__law_want) (aCons (mVar 0) (aCons (mVar 7) aNil))) aNil)))) (aCons (mTup (aCons (mC (.str [111, 102, 102])) (aCons (mVar 6) aNil))) aNil))))))))
    (sSeq (sAsg (.nm 8) (mFrz (lAdd (mVar 8) (mFrz (lDsp (aCons (mTup (aCons (mC (.str [116, 97, 107, 101])) (aCons (mVar 6) aNil))) (aCons (mTup (aCons (mC (.str [99, 97, 114, 114, 121])) aNil)) (aCons (mTup (aCons (mC (.str [98, 114, 105, 110, 103])) aNil)) (aCons (mTup (aCons (mC (.str [119, 111, 114, 107])) (aCons (mVar 6) aNil))) (aCons (mTup (aCons (mC (.str [102, 97, 108, 108])) aNil)) (aCons (mTup (aCons (mC (.str [97, 110, 101, 119])) aNil)) (aCons (mTup (aCons (mC (.str [115, 101, 116, 116, 108, 101])) aNil)) aNil))))))))))))
    (sOwnApp 2 (mOp oIx (mVar 8) (mVar 4)))))))
section
variable {μ : Sto} {a : Nat} {D : MEnds} {E : QX} {m k : Int} {f n : Nat} {acc : List Val} {t : List Nat} {s3 s8 : Slot}
theorem pl2_ok (st : StA μ a) (ht : okSh (.str t) = true) (hk : 0 ≤ k ∧ k < 15) (hf : f < 1000) (hn : n < 1000) (q : ∀ (s : Wst) μ' y8, s.ok → OnlyA a μ μ' → StA μ' a → acc.length + 1 ≤ lim → D.nx [.val (.ref a), .val (.int m), .own (acc ++ [s.v]), s3, .val (.int k), .val (.int (f : Nat)), .val (.int (n : Nat)), .val (.str t), y8] μ') (hacc : acc.length ≤ 1000) : T_pl2 D [.val (.ref a), .val (.int m), .own acc, s3, .val (.int k), .val (.int (f : Nat)), .val (.int (n : Nat)), .val (.str t), s8] μ E := by
  have hlm : lim = 1000000 := rfl
  have ht2 : t.length ≤ 200 := (okSh_str.mp ht).1
  unfold T_pl2
  refine seq_asgR (fun v μ' => ∃ ss : List Wst, v = .lst (ss.map Wst.v) ∧ ss.length = 3 ∧ (∀ s ∈ ss, s.ok) ∧ OnlyA a μ μ' ∧ StA μ' a) (fun K hK => ?_) ?_
  · simp [zEI, mFrz]
    refine ⟨by decide, by decide, by decide, st, ht, fun es u μ1 h1 h2 h3 o1 st1 => ?_⟩
    simp [zEI, mFrz]
    and_intros
    any_goals decide
    obtain ⟨el, rfl, hel⟩ := eds_sp ht2 h2
    refine hK _ _ ⟨[.opn f t, .opn f t, .edt f el], rfl, rfl, fun s hs => ?_, o1, st1⟩
    simp only [List.mem_cons, List.not_mem_nil, or_false] at hs
    rcases hs with rfl | rfl | rfl
    · exact ⟨hf, ht2⟩
    · exact ⟨hf, ht2⟩
    · rw [List.length_map] at h1
      exact ⟨hf, by omega, hel⟩
  rintro v μ1 ⟨ss1, rfl, l1, ok1, o1, st1⟩
  refine seq_asgR (fun v μ' => ∃ ss : List Wst, v = .lst (ss.map Wst.v) ∧ ss.length = 5 ∧ (∀ s ∈ ss, s.ok) ∧ OnlyA a μ μ' ∧ StA μ' a) (fun K hK => ?_) ?_
  · simp [zEI, mFrz]
    refine ⟨by decide, by decide, st1, fun u μ2 h1 h2 h3 o2 st2 => ?_⟩
    simp [zEI, mFrz, l1]
    and_intros
    any_goals decide
    have := hK (.lst ((ss1 ++ ([.edt f [((0, 0), (0, 0), u)], .cls f] : List Wst)).map Wst.v)) μ2 ⟨_, rfl, by rw [List.length_append, l1]; rfl, fun s hs => ?_, o1.trans o2, st2⟩
    · rw [List.map_append] at this
      exact this
    · rcases List.mem_append.mp hs with hs | hs
      · exact ok1 s hs
      · simp only [List.mem_cons, List.not_mem_nil, or_false] at hs
        rcases hs with rfl | rfl
        · exact ⟨hf, by simp, fun e he => by rw [List.mem_singleton.mp he]; exact ⟨(⟨by decide, by decide⟩ : plOk (0, 0)), (⟨by decide, by decide⟩ : plOk (0, 0)), (show u.length ≤ 200 by omega)⟩⟩
        · exact hf
  rintro v μ2 ⟨ss2, rfl, l2, ok2, o2, st2⟩
  refine seq_asgR (fun v μ' => ∃ ss : List Wst, v = .lst (ss.map Wst.v) ∧ ss.length = 8 ∧ (∀ s ∈ ss, s.ok) ∧ OnlyA a μ μ' ∧ StA μ' a) (fun K hK => ?_) ?_
  · simp [zEI, mFrz]
    refine ⟨st2, by omega, fun w1 μ3 p1 a1 o3 st3 n1 => ?_⟩
    simp [zEI, mFrz]
    refine ⟨by decide, st3, by omega, fun w2 μ4 p2 a2 o4 st4 n2 => ?_⟩
    simp [zEI, mFrz, l2]
    and_intros
    any_goals decide
    obtain ⟨q1, k1, e1⟩ := want_sp ht2 hf a1 n1
    obtain ⟨q2, k2, e2⟩ := want_sp ht2 hf a2 n2
    have := hK (.lst ((ss2 ++ ([q1, q2, .off n] : List Wst)).map Wst.v)) μ4 ⟨_, rfl, by rw [List.length_append, l2]; rfl, fun s hs => ?_, (o2.trans o3).trans o4, st4⟩
    · rw [List.map_append, List.map_cons, List.map_cons, e1, e2] at this
      exact this
    · rcases List.mem_append.mp hs with hs | hs
      · exact ok2 s hs
      · simp only [List.mem_cons, List.not_mem_nil, or_false] at hs
        rcases hs with rfl | rfl | rfl
        · exact k1
        · exact k2
        · exact hn
  rintro v μ3 ⟨ss3, rfl, l3, ok3, o3, st3⟩
  refine seq_asgR (fun v μ' => ∃ ss : List Wst, v = .lst (ss.map Wst.v) ∧ ss.length = 15 ∧ (∀ s ∈ ss, s.ok) ∧ OnlyA a μ μ' ∧ StA μ' a) (fun K hK => ?_) ?_
  · simp [zEI, mFrz, l3]
    and_intros
    any_goals decide
    have := hK (.lst ((ss3 ++ ([.tke n, .one [99, 97, 114, 114, 121], .one [98, 114, 105, 110, 103], .wrk n, .one [102, 97, 108, 108], .one [97, 110, 101, 119], .one [115, 101, 116, 116, 108, 101]] : List Wst)).map Wst.v)) μ3 ⟨_, rfl, by rw [List.length_append, l3]; rfl, fun s hs => ?_, o3, st3⟩
    · rw [List.map_append] at this
      exact this
    · rcases List.mem_append.mp hs with hs | hs
      · exact ok3 s hs
      · simp only [List.mem_cons, List.not_mem_nil, or_false] at hs
        rcases hs with rfl | rfl | rfl | rfl | rfl | rfl | rfl
        · exact hn
        · simp [Wst.ok, ones]
        · simp [Wst.ok, ones]
        · exact hn
        · simp [Wst.ok, ones]
        · simp [Wst.ok, ones]
        · simp [Wst.ok, ones]
  rintro v μ4 ⟨ss4, rfl, l4, ok4, o4, st4⟩
  obtain ⟨v, hv, ev⟩ := atI_in (l := ss4.map Wst.v) hk.1 (by rw [List.length_map, l4]; exact hk.2)
  obtain ⟨s, hs, rfl⟩ := List.mem_map.mp hv
  simp [zEI, ev]
  exact ⟨by omega, q s μ4 _ (ok4 s hs) o4 st4 (by omega)⟩
end
theorem GP__law_play : ∀ vs μ Q E, vs.length = 2 → G__law_play vs μ Q E → P__law_play vs μ Q E := by
  intro vs μ Q E hl q
  unfold G__law_play at q
  split at q
  rotate_left
  · exact q.elim
  rename_i a m
  obtain ⟨st, m0, m1, q⟩ := q
  have hlm : lim = 1000000 := rfl
  simp [zEI, P__law_play, M__law_play]
  simp [zEI, sFor, iRg1]
  refine ⟨by decide, by decide, st, fun r μ1 c0 c1 o1 st1 => ?_⟩
  simp only []
  refine ⟨by omega, by omega, ?_⟩
  refine forL_ind (fun items σ μ' => ∃ (ss : List Wst) (s3 s4 s5 s6 s7 s8 : Slot), σ = [.val (.ref a), .val (.int m), .own (ss.map Wst.v), s3, s4, s5, s6, s7, s8] ∧ ss.length + items.length ≤ 24 ∧ (∀ s ∈ ss, s.ok) ∧ OnlyA a μ μ' ∧ StA μ' a) ?_ ?_ _ _ _ ⟨[], _, _, _, _, _, _, rfl, ?_, (fun s hs => by cases hs), o1, st1⟩
  · rintro σ μ' ⟨ss, s3, s4, s5, s6, s7, s8, rfl, hj, hok, o', st'⟩
    refine ⟨trivial, ?_⟩
    simp [zEI]
    simp at hj
    exact q ss μ' hok hj o' st'
  · rintro v its σ μ' ⟨ss, s3, s4, s5, s6, s7, s8, rfl, hj, hok, o', st'⟩
    rw [List.length_cons] at hj
    refine ⟨trivial, _, mt_nm _ _ _, fun N hN => ?_⟩
    refine seq_parR (fun v w μ2 => ∃ (k : Int) (f : Nat), 0 ≤ k ∧ k < 15 ∧ f < 1000 ∧ v = .int k ∧ w = .int (f : Nat) ∧ OnlyA a μ μ2 ∧ StA μ2 a) (fun K hK => ?_) ?_
    · simp [zEI]
      refine ⟨by decide, by decide, st', fun r1 μ2 d0 d1 o2 st2 => ?_⟩
      simp [zEI]
      exact ⟨by omega, by omega, st2, fun r2 μ3 e0 e1 o3 st3 => hK _ _ _ ⟨r1, r2.toNat, d0, d1, by omega, rfl, by rw [Int.toNat_of_nonneg e0], (o'.trans o2).trans o3, st3⟩⟩
    rintro v1 w1 μ2 ⟨k, f, k0, k1, f1, rfl, rfl, o2, st2⟩
    refine seq_asgR (fun v μ3 => ∃ n : Nat, n < 1000 ∧ v = .int (n : Nat) ∧ OnlyA a μ μ3 ∧ StA μ3 a) (fun K hK => ?_) ?_
    · simp [zEI, mFrz]
      refine ⟨by decide, by decide, by decide, st2, fun r1 μ3 d0 d1 o3 st3 => ?_⟩
      have hr : r1 / 8 = 0 ∨ r1 / 8 = 1 := by omega
      rcases hr with hr | hr
      · simp [zEI, hr]
        exact ⟨divW (by decide) (by decide), by decide, by decide, st3, fun r2 μ4 e0 e1 o4 st4 => hK _ _ ⟨r2.toNat, by omega, by rw [Int.toNat_of_nonneg e0], (o2.trans o3).trans o4, st4⟩⟩
      · simp [zEI, hr]
        exact ⟨divW (by decide) (by decide), by decide, by decide, st3, fun r2 μ4 e0 e1 o4 st4 => hK _ _ ⟨r2.toNat, by omega, by rw [Int.toNat_of_nonneg e0], (o2.trans o3).trans o4, st4⟩⟩
    rintro v2 μ3 ⟨n, n1, rfl, o3, st3⟩
    refine seq_asgR (fun v μ4 => ∃ t, v = .str t ∧ okSh (.str t) = true ∧ OnlyA a μ μ4 ∧ StA μ4 a) (fun K hK => ?_) ?_
    · simp [zEI]
      refine ⟨st3, fun u μ4 hu o4 st4 => ?_⟩
      simp [zEI]
      rw [show cut u none (some 60) = u.take 60 from cut_to0 (by decide)]
      exact hK _ _ ⟨_, rfl, okSh_take 60 hu, o3.trans o4, st4⟩
    rintro v3 μ4 ⟨t, rfl, ht, o4, st4⟩
    refine pl2_ok st4 ht ⟨k0, k1⟩ f1 n1 (fun s μ5 y8 hs o5 st5 _ => ?_) (by rw [List.length_map]; omega)
    refine hN _ _ ⟨ss ++ [s], _, _, _, _, _, _, by rw [List.map_append]; rfl, by rw [List.length_append]; simp; omega, fun x hx => ?_, o4.trans o5, st5⟩
    rcases List.mem_append.mp hx with hx | hx
    · exact hok x hx
    · rw [List.mem_singleton.mp hx]; exact hs
  · unfold rng
    rw [List.length_map, List.length_range]
    simp
    omega

/-! ### the law's own words: numbers, texts -/
theorem dig_in (c : Nat) : decide (c ∈ ([48, 49, 50, 51, 52, 53, 54, 55, 56, 57] : List Nat)) = digB c := by
  have e : ([48, 49, 50, 51, 52, 53, 54, 55, 56, 57] : List Nat) = (List.range 10).map (· + 48) := by decide
  rw [e]
  unfold digB
  rw [← Bool.decide_and]
  congr 1
  rw [List.mem_map]
  apply propext
  constructor
  · rintro ⟨a, ha, rfl⟩
    have := List.mem_range.mp ha
    omega
  · rintro ⟨h1, h2⟩
    exact ⟨c - 48, List.mem_range.mpr (by omega), by omega⟩
def M__law_figures : MS :=
  (sSeq (sIf (mOrT (mNotT (mB (mCh oLt oLt (mC (.int 0)) (mCB oLen (aCons (mVar 0) aNil)) (mC (.int 4))))) (mB (mOp oNe (mFrz (lComp (iStr' (mVar 0)) (.nm 1) [1] (mB (mOp (oIn true) (mVar 1) (mC (.str [48, 49, 50, 51, 52, 53, 54, 55, 56, 57])))) (mVar 1))) (mFrz (lDsp aNil)))))
    (sRet (mC .non))
    sNil)
    (sRet (mIfE (mOrT (mB (mOp oEq (mVar 0) (mC (.str [48])))) (mB (mOp oNe (mOp oIx (mVar 0) (mC (.int 0))) (mC (.str [48]))))) (mCB oIntS (aCons (mVar 0) aNil)) (mC .non))))
def P__law_figures : FnM := fnM 2 1 M__law_figures
def G__law_figures : FnM := fun vs μ Q _ => match vs with
  | [.str l] => l.length ≤ 990000 ∧ Q (match numF l with
    | some n => .int (n : Nat)
    | none => .non) μ
  | _ => False
theorem deeps_strs {μ : Sto} : ∀ l : List Nat, ∃ ds : List PyData, deeps μ 59 (l.map fun c : Nat => Val.str [c]) = some ds ∧ ds.length = l.length
  | [] => ⟨[], by rw [List.map_nil, deeps_nil], rfl⟩
  | y :: l => by
    obtain ⟨ds, h1, h2⟩ := deeps_strs (μ := μ) l
    exact ⟨.str (S [y]) :: ds, by rw [List.map_cons, deeps_cons, deep_str, h1]; rfl, by simp [h2]⟩
theorem GP__law_figures : ∀ vs μ Q E, vs.length = 1 → G__law_figures vs μ Q E → P__law_figures vs μ Q E := by
  intro vs μ Q E hl q
  unfold G__law_figures at q
  split at q
  rotate_left
  · exact q.elim
  rename_i l
  obtain ⟨hlim, q⟩ := q
  have hlm : lim = 1000000 := rfl
  unfold P__law_figures M__law_figures fnM
  by_cases h1 : 1 ≤ l.length ∧ l.length ≤ 3
  rotate_left
  · have e : numF l = none := if_neg fun z => h1 z.1
    rw [e] at q
    by_cases h2 : 1 ≤ l.length
    · have h3 : ¬ l.length < 4 := by omega
      have h4 : 0 < l.length := by omega
      simp [zEI, h4]
      rw [if_pos (by omega)]
      exact q
    · have h4 : ¬ 0 < l.length := by omega
      simp [zEI, h4]
      exact q
  have h3 : l.length < 4 := by omega
  have h4 : 0 < l.length := by omega
  refine seq_ifR (fun b μ' => μ' = μ ∧ b = !l.all digB) (fun K hK => ?_) (fun μ' z => ?_) (fun μ' z => ?_)
  · simp [zEI, h4, mFrz]
    rw [if_neg (by omega)]
    unfold lComp iStr'
    simp [zEI]
    refine lcL_filter' trivial (fun v => match v with | .str [c] => !digB c | _ => false) (fun v => v) _ [] (fun v hv => ?_) ?_
    · obtain ⟨c, hc, rfl⟩ := List.mem_map.mp hv
      refine ⟨_, mt_nm _ _ _, fun Q' q' => ?_, fun _ Q' q' => ?_⟩
      · have q' : Q' (!digB c) μ := q'
        rw [← dig_in] at q'
        simp [zEI, wipeM, hideM, subB_one]
        simpa using q'
      · simp [zEI, wipeM, hideM]
        exact q'
    · have e : List.filter (fun v => match v with | .str [c] => !digB c | _ => false) (l.map fun c : Nat => Val.str [c]) = (l.filter fun c => !digB c).map fun c : Nat => Val.str [c] := by
        rw [List.filter_map]
        rfl
      rw [e, List.map_id', List.nil_append]
      obtain ⟨ds, hd, hl2⟩ := deeps_strs (μ := μ) (l.filter fun c => !digB c)
      cases ha : l.all digB with
      | true =>
        have h0 : l.filter (fun c => !digB c) = [] := by
          rw [List.filter_eq_nil_iff]
          intro c hc
          have := List.all_eq_true.mp ha c hc
          simp [this]
        rw [h0]
        simp [zEI]
        exact hK _ _ ⟨rfl, by rw [ha]; rfl⟩
      | false =>
        cases ds with
        | nil =>
          exfalso
          have h0 : l.filter (fun c => !digB c) = [] := List.length_eq_zero_iff.mp hl2.symm
          rw [List.filter_eq_nil_iff] at h0
          have : l.all digB = true := List.all_eq_true.mpr fun c hc => by
            have := h0 c hc
            simpa using this
          rw [this] at ha
          cases ha
        | cons d ds =>
          simp [zEI, hd, PyData.eqv, PyData.eqvAll]
          exact hK _ _ ⟨rfl, by rw [ha]; rfl⟩
  · obtain ⟨rfl, hz⟩ := z
    have hall : l.all digB = false := by
      cases h : l.all digB with
      | true => rw [h] at hz; cases hz
      | false => rfl
    have e : numF l = none := if_neg fun z => by rw [hall] at z; exact absurd z.2 (by decide)
    rw [e] at q
    simp [zEI]
    exact q
  obtain ⟨rfl, hz⟩ := z
  have hall : l.all digB = true := by
    cases h : l.all digB with
    | true => rfl
    | false => rw [h] at hz; cases hz
  refine seq_nil ?_
  have e0 : numF l = if l.head? = some 48 ∧ l ≠ [48] then none else figs l := if_pos ⟨h1, hall⟩
  obtain ⟨n, hn⟩ := figs_some h1.1 h1.2 hall
  obtain ⟨c, r, rfl⟩ : ∃ c r, l = c :: r := by
    cases l with
    | nil => simp at h1
    | cons c r => exact ⟨c, r, rfl⟩
  by_cases hc : c = 48
  · subst hc
    by_cases hr : r = []
    · subst hr
      simp at e0
      rw [e0, hn] at q
      simp [zEI, oIntS, hn]
      exact q
    · have : numF (48 :: r) = none := by rw [e0, if_pos ⟨rfl, by simpa using hr⟩]
      rw [this] at q
      simp [zEI, oIntS, hn, hr]
      exact q
  · have : numF (c :: r) = some n := by rw [e0, if_neg (by simp [hc]), hn]
    rw [this] at q
    simp [zEI, oIntS, hn, hc]
    exact q
def M__law_unquoted : MS :=
  (sSeq (sAsg (.tp [(.nm 1), (.nm 2)]) (mTup (aCons (mC (.str [])) (aCons (mC (.int 0)) aNil))))
    (sSeq (sWhile (mB (mOp oLt (mVar 2) (mCB oLen (aCons (mVar 0) aNil))))
    (sIf (mB (mOp oEq (mOp oIx (mVar 0) (mVar 2)) (mC (.str [126]))))
    (sSeq (sAsg (.nm 3) (mDGet1 (mDisp [((mC (.str [95])), (mC (.str [32]))), ((mC (.str [47])), (mC (.str [10]))), ((mC (.str [126])), (mC (.str [126]))), ((mC (.str [46])), (mC (.str [])))]) (mSl (mVar 0) (pSome (mOp oAdd (mVar 2) (mC (.int 1)))) (pSome (mOp oAdd (mVar 2) (mC (.int 2)))))))
    (sSeq (sIf (mOrT (mB (mOp oIsN (mVar 3) (mC .non))) (mAndT (mB (mOp oEq (mVar 3) (mC (.str [])))) (mB (mOp oNe (mVar 0) (mC (.str [126, 46]))))))
    (sRet (mC .non))
    sNil)
    (sPar 1 2 (aCons (mOp oAdd (mVar 1) (mVar 3)) (aCons (mOp oAdd (mVar 2) (mC (.int 2))) aNil)))))
    (sPar 1 2 (aCons (mOp oAdd (mVar 1) (mOp oIx (mVar 0) (mVar 2))) (aCons (mOp oAdd (mVar 2) (mC (.int 1))) aNil)))))
    (sRet (mIfE (mB (mOp oNe (mVar 0) (mC (.str [])))) (mVar 1) (mC .non)))))
def P__law_unquoted : FnM := fnM 4 1 M__law_unquoted
def T_uq : MS :=
  (sIf (mB (mOp oEq (mOp oIx (mVar 0) (mVar 2)) (mC (.str [126]))))
    (sSeq (sAsg (.nm 3) (mDGet1 (mDisp [((mC (.str [95])), (mC (.str [32]))), ((mC (.str [47])), (mC (.str [10]))), ((mC (.str [126])), (mC (.str [126]))), ((mC (.str [46])), (mC (.str [])))]) (mSl (mVar 0) (pSome (mOp oAdd (mVar 2) (mC (.int 1)))) (pSome (mOp oAdd (mVar 2) (mC (.int 2)))))))
    (sSeq (sIf (mOrT (mB (mOp oIsN (mVar 3) (mC .non))) (mAndT (mB (mOp oEq (mVar 3) (mC (.str [])))) (mB (mOp oNe (mVar 0) (mC (.str [126, 46]))))))
    (sRet (mC .non))
    sNil)
    (sPar 1 2 (aCons (mOp oAdd (mVar 1) (mVar 3)) (aCons (mOp oAdd (mVar 2) (mC (.int 2))) aNil)))))
    (sPar 1 2 (aCons (mOp oAdd (mVar 1) (mOp oIx (mVar 0) (mVar 2))) (aCons (mOp oAdd (mVar 2) (mC (.int 1))) aNil))))
theorem uq_dict (l : List Nat) : dGet (mergeD [] [(Ky.s [95], Val.str [32]), (Ky.s [47], Val.str [10]), (Ky.s [126], Val.str [126]), (Ky.s [46], Val.str [])]) (Ky.s l) = if l = [95] then some (.str [32]) else if l = [47] then some (.str [10]) else if l = [126] then some (.str [126]) else if l = [46] then some (.str []) else none := by
  have e : mergeD [] [(Ky.s [95], Val.str [32]), (Ky.s [47], Val.str [10]), (Ky.s [126], Val.str [126]), (Ky.s [46], Val.str [])] = [(Ky.s [95], Val.str [32]), (Ky.s [47], Val.str [10]), (Ky.s [126], Val.str [126]), (Ky.s [46], Val.str [])] := by rfl
  rw [e]
  have k : ∀ a : List Nat, (Ky.s a = Ky.s l) = (l = a) := fun a => by
    apply propext
    constructor
    · intro z; injection z with z; exact z.symm
    · intro z; rw [z]
  simp [dGet, k]
theorem tx_sign (d : Nat) : tGet tb_SIGNS [126, d] = if d = 95 then some [32] else if d = 47 then some [10] else if d = 126 then some [126] else none := by
  have e : tb_SIGNS = [([126, 95], [32]), ([126, 47], [10]), ([126, 126], [126])] := rfl
  rw [e]
  simp only [tGet]
  by_cases h1 : d = 95
  · subst h1; rfl
  by_cases h2 : d = 47
  · subst h2; rfl
  by_cases h3 : d = 126
  · subst h3; rfl
  have n1 : ¬ ([126, 95] : List Nat) = [126, d] := fun z => by injection z with _ z; injection z with z; omega
  have n2 : ¬ ([126, 47] : List Nat) = [126, d] := fun z => by injection z with _ z; injection z with z; omega
  have n3 : ¬ ([126, 126] : List Nat) = [126, d] := fun z => by injection z with _ z; injection z with z; omega
  rw [if_neg n1, if_neg n2, if_neg n3, if_neg h1, if_neg h2, if_neg h3]
def Gr (μ μ' : Sto) : Prop := μ.n ≤ μ'.n ∧ ∀ b, b < μ.n → μ'.o b = μ.o b
theorem Gr.refl {μ : Sto} : Gr μ μ := ⟨Nat.le_refl _, fun _ _ => rfl⟩
theorem Gr.trans {μ μ1 μ2 : Sto} (h : Gr μ μ1) (h' : Gr μ1 μ2) : Gr μ μ2 := ⟨Nat.le_trans h.1 h'.1, fun b hb => (h'.2 b (Nat.lt_of_lt_of_le hb h.1)).trans (h.2 b hb)⟩
theorem Gr.new {μ : Sto} {o : Ob} : Gr μ (μ.new o) := ⟨Nat.le_succ _, fun b hb => by show (if b = μ.n then some o else μ.o b) = μ.o b; rw [if_neg (Nat.ne_of_lt hb)]⟩
theorem Gr.put {μ μ' : Sto} {c : Nat} {o : Ob} (g : Gr μ μ') (hc : μ.n ≤ c) : Gr μ (μ'.put c o) := ⟨g.1, fun b hb => by rw [put_o, if_neg (by omega)]; exact g.2 b hb⟩
theorem uq_while {D : MEnds} {E : QX} {μ0 : Sto} {W : List Nat} (hW : W ≠ [126, 46]) : ∀ (n : Nat) (p l acc : List Nat) (s3 : Slot) (μ : Sto), W = p ++ l → l.length ≤ n → (p ++ l).length ≤ 990000 → acc.length ≤ p.length → Gr μ0 μ → (txG l = none → ∀ μ', Gr μ0 μ' → D.rt .non μ') → (∀ r s3 μ', txG l = some r → Gr μ0 μ' → D.nx [.val (.str W), .val (.str (acc ++ r)), .val (.int (W.length : Nat)), s3] μ') →
    whileN (mB (mOp oLt (mVar 2) (mCB oLen (aCons (mVar 0) aNil)))) T_uq D E (n + 1) [.val (.str W), .val (.str acc), .val (.int (p.length : Nat)), s3] μ
  | n, p, [], acc, s3, μ, hw, hl, h1, h2, g, q1, q2 => by
    unfold whileN
    have := q2 [] s3 μ rfl g
    rw [List.append_nil] at hw
    subst hw
    simp at this ⊢
    simp [zEI]
    exact this
  | 0, p, c :: l, acc, s3, μ, hw, hl, h1, h2, g, q1, q2 => by simp at hl
  | n + 1, p, c :: l, acc, s3, μ, hw, hl, h1, h2, g, q1, q2 => by
    have hlm : lim = 1000000 := rfl
    have hsl : strLim = 1000000 := rfl
    have hp : (p ++ c :: l).length = p.length + (l.length + 1) := by rw [List.length_append, List.length_cons]
    have a1 : atI W (p.length : Int) = some c := by
      rw [hw, atI_nat' (by omega), Int.toNat_natCast, List.getElem?_append_right (Nat.le_refl _), Nat.sub_self]; rfl
    have hcut : cut W (some ((p.length : Int) + 1)) (some ((p.length : Int) + 2)) = l.take 1 := by
      have e1 : ((p.length : Int) + 1) = ((p.length + 1 : Nat) : Int) := by omega
      have e2 : ((p.length : Int) + 2) = ((p.length + 2 : Nat) : Int) := by omega
      rw [hw, e1, e2, cut_mid, show p.length + 2 - (p.length + 1) = 1 by omega]
      congr 1
      rw [show p ++ c :: l = (p ++ [c]) ++ l by simp, List.drop_left' (by simp)]
    simp only [List.length_cons] at hl
    have hWl : W.length = p.length + (l.length + 1) := by rw [hw, hp]
    have hlt : (p.length : Int) < (W.length : Int) := by omega
    have ih : ∀ (k : List Nat) (l' x : List Nat) (s3 : Slot) (μ' : Sto), c :: l = k ++ l' → l'.length ≤ n → x.length ≤ k.length → Gr μ0 μ' → (txG l' = none → txG (c :: l) = none) → (∀ r, txG l' = some r → txG (c :: l) = some (x ++ r)) →
        whileN (mB (mOp oLt (mVar 2) (mCB oLen (aCons (mVar 0) aNil)))) T_uq D E (n + 1) [.val (.str W), .val (.str (acc ++ x)), .val (.int ((p.length : Int) + (k.length : Nat))), s3] μ' := fun k l' x s3 μ' h4 h3 h6 g' h7 h8 => by
      have e : ((p.length : Int) + (k.length : Nat)) = (((p ++ k).length : Nat) : Int) := by rw [List.length_append]; omega
      rw [e]
      refine uq_while hW n (p ++ k) l' (acc ++ x) s3 μ' (by rw [hw, h4, List.append_assoc]) h3 (by rw [List.append_assoc, ← h4]; exact h1) (by rw [List.length_append, List.length_append]; omega) g' (fun z => q1 (h7 z)) fun r s3 μ2 z g2 => ?_
      rw [List.append_assoc]
      exact q2 _ s3 μ2 (h8 r z) g2
    unfold whileN
    simp [zEI]
    rw [if_pos (by omega)]
    simp [zEI, T_uq, a1]
    by_cases hc : c = 126
    rotate_left
    · rw [if_neg hc]
      refine ⟨by omega, ?_⟩
      refine ih [c] l [c] _ _ rfl (by omega) (Nat.le_refl _) g (fun z => ?_) fun r z => ?_
      · cases l with
        | nil => cases z
        | cons d l => simp [txG, hc, z]
      · cases l with
        | nil => cases z; simp [txG, hc]
        | cons d l => simp [txG, hc, z]
    subst hc
    rw [if_pos rfl]
    have gd : Gr μ0 ((μ.new (Ob.dic [])).put μ.n (Ob.dic (mergeD [] [(Ky.s [95], Val.str [32]), (Ky.s [47], Val.str [10]), (Ky.s [126], Val.str [126]), (Ky.s [46], Val.str [])]))) := (g.trans Gr.new).put g.1
    simp [zEI, hcut]
    rw [uq_dict]
    cases l with
    | nil =>
      have t0 : ([] : List Nat).take 1 = [] := rfl
      rw [t0]
      exact q1 (by simp [txG]) _ gd
    | cons d l =>
      have t1 : (d :: l).take 1 = [d] := rfl
      rw [t1]
      have hs := tx_sign d
      have two : ∀ (x : Nat), tGet tb_SIGNS [126, d] = some [x] → ∀ (s3 : Slot) (μ' : Sto), Gr μ0 μ' → whileN (mB (mOp oLt (mVar 2) (mCB oLen (aCons (mVar 0) aNil)))) T_uq D E (n + 1) [.val (.str W), .val (.str (acc ++ [x])), .val (.int ((p.length : Int) + 2)), s3] μ' := fun x hx s3 μ' g' => by
        rw [List.length_cons] at hl
        refine ih [126, d] l [x] s3 μ' rfl (by omega) (show 1 ≤ 2 by decide) g' (fun z => ?_) fun r z => ?_
        · simp [txG, hx, z]
        · simp [txG, hx, z]
      by_cases c1 : d = 95
      · subst c1
        simp [zEI]
        exact ⟨by omega, two 32 (by rw [hs]; rfl) _ _ gd⟩
      by_cases c2 : d = 47
      · subst c2
        simp [zEI]
        exact ⟨by omega, two 10 (by rw [hs]; rfl) _ _ gd⟩
      by_cases c3 : d = 126
      · subst c3
        simp [zEI]
        exact ⟨by omega, two 126 (by rw [hs]; rfl) _ _ gd⟩
      have hno : tGet tb_SIGNS [126, d] = none := by rw [hs, if_neg c1, if_neg c2, if_neg c3]
      have hn : txG (126 :: d :: l) = none := by simp [txG, hno]
      by_cases c4 : d = 46
      · subst c4
        simp [zEI, hW]
        exact q1 hn _ gd
      · simp [zEI, c1, c2, c3, c4]
        exact q1 hn _ gd
def G__law_unquoted : FnM := fun vs μ Q _ => match vs with
  | [.str l] => l.length ≤ 990000 ∧ ∀ μ', Gr μ μ' → Q (match txF l with
    | some r => .str r
    | none => .non) μ'
  | _ => False
theorem GP__law_unquoted : ∀ vs μ Q E, vs.length = 1 → G__law_unquoted vs μ Q E → P__law_unquoted vs μ Q E := by
  intro vs μ Q E hl q
  unfold G__law_unquoted at q
  split at q
  rotate_left
  · exact q.elim
  rename_i l
  obtain ⟨hlim, q⟩ := q
  have hlm : lim = 1000000 := rfl
  simp [zEI, P__law_unquoted, M__law_unquoted, mt_tp, mts_cons, mts_nil, mt_nm]
  by_cases h1 : l = []
  · subst h1
    refine ⟨by decide, 1, ?_⟩
    unfold whileN
    simp [zEI]
    exact q _ .refl
  by_cases h2 : l = [126, 46]
  · subst h2
    refine ⟨by decide, 2, ?_⟩
    have hk : MW.cut ([126, 46] : List Nat) (some 1) (some 2) = [46] := by rfl
    unfold whileN
    simp [zEI, hk]
    rw [uq_dict]
    simp [zEI]
    unfold whileN
    simp [zEI]
    exact q _ ((Gr.new).put (Nat.le_refl _))
  have e : txF l = txG l := by unfold txF; rw [if_neg h1, if_neg h2]
  rw [e] at q
  refine ⟨by decide, l.length + 1, ?_⟩
  refine uq_while (μ0 := μ) h2 l.length [] l [] _ _ rfl (Nat.le_refl _) hlim (by simp) .refl (fun z μ' g => ?_) fun r s3 μ' z g => ?_
  · have := q μ' g
    rw [z] at this; exact this
  · have := q μ' g
    rw [z] at this
    simp [zEI, h1]
    exact this

/-! ### what words are, by the law's own reader -/
def intsF (i m : Nat) : List Val := (List.range m).map fun j => Val.int ((i + j : Nat) : Int)
theorem intsF_succ (i m : Nat) : intsF i (m + 1) = .int (i : Nat) :: intsF (i + 1) m := by
  unfold intsF
  rw [List.range_succ_eq_map, List.map_cons, List.map_map]
  congr 1
  refine List.map_congr_left fun j _ => ?_
  show Val.int ((i + (j + 1) : Nat) : Int) = Val.int ((i + 1 + j : Nat) : Int)
  rw [show i + (j + 1) = i + 1 + j by omega]
theorem zipV_snoc {c : Nat} {w : List Nat} : ∀ {f : List Nat} {ws : List (List Nat)}, f.length = ws.length → zipV (f ++ [c]) (ws ++ [w]) = zipV f ws ++ [partV c w]
  | [], [], _ => by simp [zipV]
  | [], _ :: _, h => by cases h
  | _ :: _, [], h => by cases h
  | d :: f, u :: ws, h => by
    rw [List.cons_append, List.cons_append, zipV, zipV, zipV_snoc (Nat.succ.inj h), List.cons_append]
def M__law_parts : MS :=
  (sSeq (sIf (mB (mOp oNe (mCB oLen (aCons (mVar 0) aNil)) (mCB oLen (aCons (mVar 1) aNil))))
    (sRet (mC .non))
    sNil)
    (sSeq (sAsg (.nm 2) (mFrz (lComp (iRg1 (mCB oLen (aCons (mVar 1) aNil))) (.nm 3) [3] mYes (mIfE (mB (mOp oEq (mOp oIx (mVar 1) (mVar 3)) (mC (.str [110])))) (mCall (ck 1 G__law_figures) (aCons (mOp oIx (mVar 0) (mVar 3)) aNil)) (mCall (ck 1 G__law_unquoted) (aCons (mOp oIx (mVar 0) (mVar 3)) aNil))))))
    (sRet (mIfE (mB (mOp (oIn false) (mC .non) (mVar 2))) (mC .non) (mVar 2)))))
def P__law_parts : FnM := fnM 4 2 M__law_parts
def G__law_parts : FnM := fun vs μ Q _ => match vs with
  | [.lst vs, .str f] => ∃ ws : List (List Nat), vs = ws.map Val.str ∧ f.length ≤ 10000 ∧ ws.length ≤ 10000 ∧ (∀ w ∈ ws, w.length ≤ 990000) ∧ ∀ μ', Gr μ μ' → Q (match partsF f ws with
    | some vs => .lst vs
    | none => .non) μ'
  | _ => False
theorem GP__law_parts : ∀ vs μ Q E, vs.length = 2 → G__law_parts vs μ Q E → P__law_parts vs μ Q E := by
  intro vs μ Q E hl q
  unfold G__law_parts at q
  split at q
  rotate_left
  · exact q.elim
  rename_i vs f
  obtain ⟨ws, rfl, hf, hw1, hw2, q⟩ := q
  have hlm : lim = 1000000 := rfl
  simp [zEI, P__law_parts, M__law_parts, mFrz]
  by_cases hlen : f.length = ws.length
  rotate_left
  · rw [if_neg (by omega)]
    have := q μ .refl
    rw [partsF_len hlen] at this
    exact this
  rw [if_pos (by omega)]
  unfold lComp iRg1
  simp [zEI]
  refine ⟨by omega, ?_⟩
  have hr : rng 0 (f.length : Int) = intsF 0 f.length := by
    unfold rng intsF
    simp
  rw [hr]
  refine lcL_ind (fun vs acc μ' => ∃ (f1 f2 : List Nat) (w1 w2 : List (List Nat)), f = f1 ++ f2 ∧ ws = w1 ++ w2 ∧ f1.length = w1.length ∧ vs = intsF f1.length f2.length ∧ acc = zipV f1 w1 ∧ Gr μ μ') (fun acc μ' => ?_) (fun v vs acc μ' => ?_) _ _ _ ⟨[], f, [], ws, rfl, rfl, rfl, rfl, rfl, .refl⟩
  · rintro ⟨f1, f2, w1, w2, rfl, rfl, h1, h2, rfl, g⟩
    have h3 : f2 = [] := by
      cases f2 with
      | nil => rfl
      | cons c f2 => rw [List.length_cons, intsF_succ] at h2; cases h2
    subst h3
    have h4 : w2 = [] := by
      rw [List.length_append, List.length_append, List.length_nil] at hlen
      exact List.length_eq_zero_iff.mp (by omega)
    subst h4
    rw [List.append_nil, List.append_nil] at *
    refine ⟨trivial, ?_⟩
    have := q μ' g
    refine ⟨fun x hx => ?_, ?_⟩
    · rcases zipV_kind hx with rfl | ⟨n, rfl⟩ | ⟨l, rfl⟩ <;> rfl
    rcases partsF_is h1 with ⟨k1, k2⟩ | ⟨k1, k2⟩
    · rw [k1] at this
      rw [if_pos ⟨.non, k2, rfl⟩]
      exact this
    · rw [k1] at this
      rw [if_neg]
      · exact this
      · rintro ⟨x, hx, e⟩
        rcases zipV_kind hx with rfl | ⟨n, rfl⟩ | ⟨l, rfl⟩
        · exact k2 hx
        · cases e
        · cases e
  · rintro ⟨f1, f2, w1, w2, rfl, rfl, h1, h2, rfl, g⟩
    cases f2 with
    | nil => cases h2
    | cons c f2 =>
      cases w2 with
      | nil => simp at hlen; omega
      | cons w w2 =>
        rw [List.length_cons, intsF_succ] at h2
        injection h2 with h2 h3
        subst h2 h3
        refine ⟨trivial, _, mt_nm _ _ _, fun K hK => ?_⟩
        have a1 : atI (f1 ++ c :: f2) (f1.length : Int) = some c := by
          rw [atI_nat' (by omega), Int.toNat_natCast, List.getElem?_append_right (Nat.le_refl _), Nat.sub_self]; rfl
        have a2 : atI (w1.map Val.str ++ Val.str w :: w2.map Val.str) (f1.length : Int) = some (.str w) := by
          rw [atI_nat' (by omega), Int.toNat_natCast, List.getElem?_append_right (by rw [List.length_map]; omega), List.length_map, h1, Nat.sub_self]; rfl
        have hwl := hw2 w (List.mem_append_right _ List.mem_cons_self)
        simp [zEI, wipeM, hideM, a1, a2]
        have fin : ∀ μ2, Gr μ μ2 → K (partV c w) μ2 := fun μ2 g2 => hK _ _ ⟨f1 ++ [c], f2, w1 ++ [w], w2, by simp, by simp, by simp [h1], by simp, (zipV_snoc h1).symm, g2⟩
        unfold partV partF at fin
        by_cases hc : c = 110
        · rw [if_pos hc]
          rw [stop_is]
          refine ⟨hwl, ?_⟩
          have := fin μ' g
          rw [if_pos hc] at this
          cases hn : numF w with
          | none => rw [hn] at this; exact this
          | some n => rw [hn] at this; exact this
        · rw [if_neg hc]
          rw [stop_is]
          refine ⟨hwl, fun μ2 g2 => ?_⟩
          have := fin μ2 (g.trans g2)
          rw [if_neg hc] at this
          cases hn : txF w with
          | none => rw [hn] at this; exact this
          | some n => rw [hn] at this; exact this

/-! ### a row, by the law's own reader -/
def kEditL : List Nat := [101, 100, 105, 116]
def kAskL : List Nat := [97, 115, 107]
def noneL : List Nat := [110, 111, 110, 101]
def fives : List (List Nat) := [[99, 97, 114, 114, 121], [98, 114, 105, 110, 103], [102, 97, 108, 108], [97, 110, 101, 119], [115, 101, 116, 116, 108, 101]]
def wantsD : List (Ky × Val) := [(Ky.s [102, 105, 110, 100], Val.str [116]), (Ky.s [114, 111, 119, 115], Val.str [116]), (Ky.s [119, 111, 114, 100], Val.str [110, 110]), (Ky.s [114, 101, 110, 97, 109, 101], Val.str [110, 110, 116])]
theorem ky_s (a l : List Nat) : (Ky.s a = Ky.s l) = (a = l) := by
  apply propext
  constructor
  · intro z; injection z
  · intro z; rw [z]
theorem dGet_strs (l : List Nat) : ∀ t : List (List Nat × List Nat), dGet (t.map fun p => (Ky.s p.1, Val.str p.2)) (Ky.s l) = (tGet t l).map Val.str
  | [] => rfl
  | (a, b) :: t => by
    rw [List.map_cons, dGet, tGet, dGet_strs l t]
    by_cases h : a = l
    · rw [if_pos (by rw [h]), if_pos h]; rfl
    · rw [if_neg (fun z => h (by injection z)), if_neg h]
theorem wants_is (k : List Nat) : dGet wantsD (Ky.s k) = (tGet tb_ASK_FORMS k).map Val.str := dGet_strs k tb_ASK_FORMS
def shapesD (e : List Nat) : List (Ky × Val) := [(Ky.s [99, 108, 111, 115, 101], Val.str [110]), (Ky.s [111, 102, 102], Val.str [110]), (Ky.s [116, 97, 107, 101], Val.str [110]), (Ky.s [119, 111, 114, 107], Val.str [110]), (Ky.s [111, 112, 101, 110], Val.str [110, 116]), (Ky.s kEditL, Val.str e)]
theorem step_five {w : List Nat} (h : w ∈ fives) : tGet tb_STEP_FORMS w = some [] ∧ w ≠ kEditL ∧ w ≠ kAskL := (by decide : ∀ w ∈ fives, tGet tb_STEP_FORMS w = some [] ∧ w ≠ kEditL ∧ w ≠ kAskL) w h
/- of what is neither of the five nor edit nor ask: both tables say the same -/
theorem step_other {w e : List Nat} (h1 : w ∉ fives) (h2 : w ≠ kEditL) : dGet (shapesD e) (Ky.s w) = (tGet tb_STEP_FORMS w).map Val.str := by
  have hs : tb_STEP_FORMS = [([111, 112, 101, 110], [110, 116]), ([99, 108, 111, 115, 101], [110]), ([111, 102, 102], [110]), ([116, 97, 107, 101], [110]), ([99, 97, 114, 114, 121], []), ([98, 114, 105, 110, 103], []), ([119, 111, 114, 107], [110]), ([102, 97, 108, 108], []), ([97, 110, 101, 119], []), ([115, 101, 116, 116, 108, 101], [])] := rfl
  simp only [fives, List.mem_cons, List.not_mem_nil, or_false, not_or] at h1
  obtain ⟨a1, a2, a3, a4, a5⟩ := h1
  unfold kEditL at h2
  have e1 : ∀ a : List Nat, (a = w) = (w = a) := fun a => propext ⟨Eq.symm, Eq.symm⟩
  unfold shapesD kEditL
  rw [hs]
  simp only [dGet, tGet, ky_s, e1, a1, a2, a3, a4, a5, h2, if_false]
  by_cases b1 : w = [111, 112, 101, 110]
  · subst b1; rfl
  by_cases b2 : w = [99, 108, 111, 115, 101]
  · subst b2; rfl
  by_cases b3 : w = [111, 102, 102]
  · subst b3; rfl
  by_cases b4 : w = [116, 97, 107, 101]
  · subst b4; rfl
  by_cases b5 : w = [119, 111, 114, 107]
  · subst b5; rfl
  simp only [b1, b2, b3, b4, b5, if_false]
  rfl
theorem step_edit {e : List Nat} : dGet (shapesD e) (Ky.s kEditL) = some (.str e) := by
  unfold shapesD
  have n : ∀ a : List Nat, a ≠ kEditL → ¬ Ky.s a = Ky.s kEditL := fun a h z => h (by injection z)
  simp only [dGet]
  rw [if_neg (n _ (by decide)), if_neg (n _ (by decide)), if_neg (n _ (by decide)), if_neg (n _ (by decide)), if_neg (n _ (by decide)), if_pos trivial]
def M__law_row : MS :=
  (sSeq (sAsg (.nm 1) (mFrz (lSm gSplit (mVar 0) (mC (.str [32])))))
    (sSeq (sIf (mB (mOp (oIn false) (mOp oIx (mVar 1) (mC (.int 0))) (mTup (aCons (mC (.str [99, 97, 114, 114, 121])) (aCons (mC (.str [98, 114, 105, 110, 103])) (aCons (mC (.str [102, 97, 108, 108])) (aCons (mC (.str [97, 110, 101, 119])) (aCons (mC (.str [115, 101, 116, 116, 108, 101])) aNil))))))))
    (sRet (mIfE (mB (mOp oEq (mCB oLen (aCons (mVar 1) aNil)) (mC (.int 1)))) (mTup (aCons (mOp oIx (mVar 1) (mC (.int 0))) aNil)) (mC .non)))
    sNil)
    (sSeq (sAsg (.nm 2) (mDisp [((mC (.str [99, 108, 111, 115, 101])), (mC (.str [110]))), ((mC (.str [111, 102, 102])), (mC (.str [110]))), ((mC (.str [116, 97, 107, 101])), (mC (.str [110]))), ((mC (.str [119, 111, 114, 107])), (mC (.str [110]))), ((mC (.str [111, 112, 101, 110])), (mC (.str [110, 116])))]))
    (sSeq (MW.sDput (mVar 2) (mC (.str [101, 100, 105, 116])) (mOp oAdd (mC (.str [110])) (mOp oMul (mC (.str [110, 110, 110, 110, 116])) (mOp oDiv (mCB oLen (aCons (mVar 1) aNil)) (mC (.int 5))))))
    (sSeq (sIf (mB (mOp oEq (mOp oIx (mVar 1) (mC (.int 0))) (mC (.str [97, 115, 107]))))
    (sSeq (sAsg (.nm 3) (mDisp [((mC (.str [102, 105, 110, 100])), (mC (.str [116]))), ((mC (.str [114, 111, 119, 115])), (mC (.str [116]))), ((mC (.str [119, 111, 114, 100])), (mC (.str [110, 110]))), ((mC (.str [114, 101, 110, 97, 109, 101])), (mC (.str [110, 110, 116])))]))
    (sSeq (sAsg (.nm 4) (mDGet2 (mVar 3) (mOp oIx (mFrz (lAdd (mVar 1) (mFrz (lDsp (aCons (mC (.str [])) (aCons (mC (.str [])) aNil)))))) (mC (.int 2))) (mC (.str [110, 111, 110, 101]))))
    (sSeq (sAsg (.nm 5) (mCall (ck 2 G__law_parts) (aCons (mFrz (lAdd (mFrz (lSlc (mVar 1) (pSome (mC (.int 1))) (pSome (mC (.int 2))))) (mFrz (lSlc (mVar 1) (pSome (mC (.int 3))) pNone)))) (aCons (mOp oAdd (mC (.str [110])) (mVar 4)) aNil))))
    (sSeq (sIf (mOrT (mB (mOp oIsN (mVar 5) (mC .non))) (mB (mOp oEq (mVar 4) (mC (.str [110, 111, 110, 101])))))
    (sRet (mC .non))
    sNil)
    (sSeq (sAsg (.nm 6) (mIfE (mB (mOp oEq (mVar 4) (mC (.str [116])))) (mFrz (lSlc (mVar 5) (pSome (mC (.int 1))) pNone)) (mFrz (lAdd (mFrz (lDsp (aCons (mCB oTuple (aCons (mFrz (lSlc (mVar 5) (pSome (mC (.int 1))) (pSome (mC (.int 3))))) aNil)) aNil))) (mFrz (lSlc (mVar 5) (pSome (mC (.int 3))) pNone))))))
    (sRet (mTup (aCons (mC (.str [97, 115, 107])) (aCons (mOp oIx (mVar 5) (mC (.int 0))) (aCons (mCB oTuple (aCons (mFrz (lAdd (mFrz (lDsp (aCons (mOp oIx (mVar 1) (mC (.int 2))) aNil))) (mVar 6))) aNil)) aNil))))))))))
    sNil)
    (sSeq (sAsg (.nm 5) (mCall (ck 2 G__law_parts) (aCons (mFrz (lSlc (mVar 1) (pSome (mC (.int 1))) pNone)) (aCons (mDGet2 (mVar 2) (mOp oIx (mVar 1) (mC (.int 0))) (mC (.str [110, 111, 110, 101]))) aNil))))
    (sSeq (sIf (mOrT (mB (mOp oIsN (mVar 5) (mC .non))) (mB (mDin true (mOp oIx (mVar 1) (mC (.int 0))) (mVar 2))))
    (sRet (mC .non))
    sNil)
    (sSeq (sIf (mB (mOp oNe (mOp oIx (mVar 1) (mC (.int 0))) (mC (.str [101, 100, 105, 116]))))
    (sRet (mCB oTuple (aCons (mFrz (lAdd (mFrz (lDsp (aCons (mOp oIx (mVar 1) (mC (.int 0))) aNil))) (mVar 5))) aNil)))
    sNil)
    (sSeq (sAsg (.nm 7) (mFrz (lComp (iRg3 (mC (.int 1)) (mCB oLen (aCons (mVar 5) aNil)) (mC (.int 5))) (.nm 8) [8] mYes (mFrz (lSlc (mVar 5) (pSome (mVar 8)) (pSome (mOp oAdd (mVar 8) (mC (.int 5)))))))))
    (sRet (mTup (aCons (mC (.str [101, 100, 105, 116])) (aCons (mOp oIx (mVar 5) (mC (.int 0))) (aCons (mCB oTuple (aCons (mFrz (lComp (iLst (mVar 7)) (.nm 9) [9] mYes (mTup (aCons (mCB oTuple (aCons (mFrz (lSlc (mVar 9) pNone (pSome (mC (.int 2))))) aNil)) (aCons (mCB oTuple (aCons (mFrz (lSlc (mVar 9) (pSome (mC (.int 2))) (pSome (mC (.int 4))))) aNil)) (aCons (mOp oIx (mVar 9) (mC (.int 4))) aNil)))))) aNil)) aNil))))))))))))))
def P__law_row : FnM := fnM 10 1 M__law_row
def T_ra : MS :=
  (sSeq (sAsg (.nm 3) (mDisp [((mC (.str [102, 105, 110, 100])), (mC (.str [116]))), ((mC (.str [114, 111, 119, 115])), (mC (.str [116]))), ((mC (.str [119, 111, 114, 100])), (mC (.str [110, 110]))), ((mC (.str [114, 101, 110, 97, 109, 101])), (mC (.str [110, 110, 116])))]))
    (sSeq (sAsg (.nm 4) (mDGet2 (mVar 3) (mOp oIx (mFrz (lAdd (mVar 1) (mFrz (lDsp (aCons (mC (.str [])) (aCons (mC (.str [])) aNil)))))) (mC (.int 2))) (mC (.str [110, 111, 110, 101]))))
    (sSeq (sAsg (.nm 5) (mCall (ck 2 G__law_parts) (aCons (mFrz (lAdd (mFrz (lSlc (mVar 1) (pSome (mC (.int 1))) (pSome (mC (.int 2))))) (mFrz (lSlc (mVar 1) (pSome (mC (.int 3))) pNone)))) (aCons (mOp oAdd (mC (.str [110])) (mVar 4)) aNil))))
    (sSeq (sIf (mOrT (mB (mOp oIsN (mVar 5) (mC .non))) (mB (mOp oEq (mVar 4) (mC (.str [110, 111, 110, 101])))))
    (sRet (mC .non))
    sNil)
    (sSeq (sAsg (.nm 6) (mIfE (mB (mOp oEq (mVar 4) (mC (.str [116])))) (mFrz (lSlc (mVar 5) (pSome (mC (.int 1))) pNone)) (mFrz (lAdd (mFrz (lDsp (aCons (mCB oTuple (aCons (mFrz (lSlc (mVar 5) (pSome (mC (.int 1))) (pSome (mC (.int 3))))) aNil)) aNil))) (mFrz (lSlc (mVar 5) (pSome (mC (.int 3))) pNone))))))
    (sRet (mTup (aCons (mC (.str [97, 115, 107])) (aCons (mOp oIx (mVar 5) (mC (.int 0))) (aCons (mCB oTuple (aCons (mFrz (lAdd (mFrz (lDsp (aCons (mOp oIx (mVar 1) (mC (.int 2))) aNil))) (mVar 6))) aNil)) aNil))))))))))
def T_r5 : MS :=
  (sSeq (sAsg (.nm 5) (mCall (ck 2 G__law_parts) (aCons (mFrz (lSlc (mVar 1) (pSome (mC (.int 1))) pNone)) (aCons (mDGet2 (mVar 2) (mOp oIx (mVar 1) (mC (.int 0))) (mC (.str [110, 111, 110, 101]))) aNil))))
    (sSeq (sIf (mOrT (mB (mOp oIsN (mVar 5) (mC .non))) (mB (mDin true (mOp oIx (mVar 1) (mC (.int 0))) (mVar 2))))
    (sRet (mC .non))
    sNil)
    (sSeq (sIf (mB (mOp oNe (mOp oIx (mVar 1) (mC (.int 0))) (mC (.str [101, 100, 105, 116]))))
    (sRet (mCB oTuple (aCons (mFrz (lAdd (mFrz (lDsp (aCons (mOp oIx (mVar 1) (mC (.int 0))) aNil))) (mVar 5))) aNil)))
    sNil)
    (sSeq (sAsg (.nm 7) (mFrz (lComp (iRg3 (mC (.int 1)) (mCB oLen (aCons (mVar 5) aNil)) (mC (.int 5))) (.nm 8) [8] mYes (mFrz (lSlc (mVar 5) (pSome (mVar 8)) (pSome (mOp oAdd (mVar 8) (mC (.int 5)))))))))
    (sRet (mTup (aCons (mC (.str [101, 100, 105, 116])) (aCons (mOp oIx (mVar 5) (mC (.int 0))) (aCons (mCB oTuple (aCons (mFrz (lComp (iLst (mVar 7)) (.nm 9) [9] mYes (mTup (aCons (mCB oTuple (aCons (mFrz (lSlc (mVar 9) pNone (pSome (mC (.int 2))))) aNil)) (aCons (mCB oTuple (aCons (mFrz (lSlc (mVar 9) (pSome (mC (.int 2))) (pSome (mC (.int 4))))) aNil)) (aCons (mOp oIx (mVar 9) (mC (.int 4))) aNil)))))) aNil)) aNil)))))))))
def rσ (x0 : Slot) (ws : List (List Nat)) (x2 x3 x4 x5 x6 x7 x8 x9 : Slot) : Lc := [x0, .val (.lst (ws.map Val.str)), x2, x3, x4, x5, x6, x7, x8, x9]
/- the rest of an ask -/
theorem ra_ok {μ0 μ : Sto} {D : MEnds} {E : QX} {x0 x2 x3 x4 x5 x6 x7 x8 x9 : Slot} {rest : List (List Nat)} (g : Gr μ0 μ) (hl : rest.length ≤ 1000) (hw : ∀ w ∈ rest, w.length ≤ 990000) (q : ∀ μ', Gr μ0 μ' → D.rt (match askF rest with
    | some v => v
    | none => .non) μ') : T_ra D (rσ x0 (kAskL :: rest) x2 x3 x4 x5 x6 x7 x8 x9) μ E := by
  have hlm : lim = 1000000 := rfl
  have hsl : strLim = 1000000 := rfl
  unfold T_ra rσ
  refine seq_asgR (fun v μ' => ∃ d, v = .ref d ∧ μ'.o d = some (.dic wantsD) ∧ Gr μ0 μ') (fun K hK => ?_) ?_
  · simp [zEI]
    refine hK _ _ ⟨μ.n, rfl, ?_, (g.trans .new).put g.1⟩
    rw [put_o, if_pos rfl]
    rfl
  rintro v μ1 ⟨d, rfl, hd, g1⟩
  -- the third word
  obtain ⟨th, hth⟩ : ∃ th : List Nat, th = rest.getD 1 [] := ⟨_, rfl⟩
  have hat : atI (Val.str kAskL :: (rest.map Val.str ++ [Val.str [], Val.str []])) 2 = some (.str th) := by
    rw [show (2 : Int) = ((2 : Nat) : Int) from rfl, atI_nat' (by omega), Int.toNat_natCast, hth]
    match rest with
    | [] => rfl
    | [a] => rfl
    | a :: k :: r => rfl
  obtain ⟨sh, hsh⟩ : ∃ sh : List Nat, sh = (tGet tb_ASK_FORMS th).getD noneL := ⟨_, rfl⟩
  have hshl : sh.length ≤ 4 := by
    rw [hsh]
    cases hk : tGet tb_ASK_FORMS th with
    | none => decide
    | some f => rcases ask_key hk with ⟨_, rfl⟩ | ⟨_, rfl⟩ | ⟨_, rfl⟩ | ⟨_, rfl⟩ <;> decide
  refine seq_asgM (v := .str sh) (μ' := μ1) (fun K hK => ?_) ?_
  · simp [zEI, mFrz, hd, hat, wants_is]
    refine ⟨by decide, by omega, ?_⟩
    rw [hsh] at hK
    cases hk : tGet tb_ASK_FORMS th with
    | none => rw [hk] at hK; exact hK
    | some f => rw [hk] at hK; exact hK
  have c1 : MW.cut (Val.str kAskL :: rest.map Val.str) (some 1) (some 2) = (rest.take 1).map Val.str := by
    rw [show (1 : Int) = ((1 : Nat) : Int) from rfl, show (2 : Int) = ((2 : Nat) : Int) from rfl, cut_mid]
    cases rest <;> rfl
  have c2 : MW.cut (Val.str kAskL :: rest.map Val.str) (some 3) none = (rest.drop 2).map Val.str := by
    rw [cut_from0 (by decide), List.map_drop]
    rfl
  refine seq_asgR (fun v μ' => v = (match partsF (110 :: sh) (rest.take 1 ++ rest.drop 2) with
    | some vs => .lst vs
    | none => .non) ∧ Gr μ0 μ') (fun K hK => ?_) ?_
  · simp [zEI, mFrz, c1, c2]
    refine ⟨by omega, by omega, ?_⟩
    rw [stop_is]
    refine ⟨rest.take 1 ++ rest.drop 2, by simp, by rw [List.length_cons]; omega, by rw [List.length_append, List.length_take, List.length_drop]; omega, fun w h => ?_, fun μ2 g2 => hK _ _ ⟨rfl, g1.trans g2⟩⟩
    rcases List.mem_append.mp h with h | h
    · exact hw w (List.mem_of_mem_take h)
    · exact hw w (List.mem_of_mem_drop h)
  rintro v μ2 ⟨rfl, g2⟩
  cases hk : tGet tb_ASK_FORMS th with
  | none =>
    have hsn : sh = noneL := by rw [hsh, hk]; rfl
    have ha : askF rest = none := by
      match rest, hth with
      | [], _ => rfl
      | [a], _ => rfl
      | a :: k :: r, hth =>
        have : th = k := hth
        rw [this] at hk
        simp only [askF, hk]
    rw [ha] at q
    subst hsn
    cases ho : partsF (110 :: noneL) (rest.take 1 ++ rest.drop 2) with
    | none => simp [zEI]; exact q _ g2
    | some vs => simp [zEI, noneL]; exact q _ g2
  | some f =>
    have hsf : sh = f := by rw [hsh, hk]; rfl
    subst hsf
    have hne : th ≠ [] := fun z => by
      have h0 : tGet tb_ASK_FORMS [] = none := by decide
      rw [z, h0] at hk; cases hk
    match rest, hth, hl, hw, q, c1, c2 with
    | [], hth, _, _, _, _, _ => exact absurd hth hne
    | [a], hth, _, _, _, _, _ => exact absurd hth hne
    | a :: k :: r, hth, hl, hw, q, c1, c2 =>
      have : th = k := hth
      subst this
      have e1 : (a :: th :: r).take 1 ++ (a :: th :: r).drop 2 = a :: r := rfl
      rw [e1]
      have hsn : sh ≠ noneL := fun z => by
        rcases ask_key hk with ⟨_, h⟩ | ⟨_, h⟩ | ⟨_, h⟩ | ⟨_, h⟩ <;> (rw [z] at h; exact absurd h (by decide))
      unfold noneL at hsn
      simp only [askF, hk] at q
      have i2 : atI (Val.str kAskL :: Val.str a :: Val.str th :: r.map Val.str) 2 = some (.str th) := by
        rw [show (2 : Int) = ((2 : Nat) : Int) from rfl, atI_nat' (by omega)]; rfl
      cases ho : partsF (110 :: sh) (a :: r) with
      | none => simp only [ho] at q; simp [zEI]; exact q _ g2
      | some vs =>
        simp only [ho] at q
        rcases ask_key hk with ⟨rfl, rfl⟩ | ⟨rfl, rfl⟩ | ⟨rfl, rfl⟩ | ⟨rfl, rfl⟩
        · obtain ⟨x, y, rfl⟩ := partsF_two ho
          have d1 : MW.cut [x, y] (some 1) none = [y] := by rw [cut_from0 (by decide)]; rfl
          simp [zEI, mFrz, d1, i2]
          and_intros
          any_goals first | decide | omega
          exact q _ g2
        · obtain ⟨x, y, rfl⟩ := partsF_two ho
          have d1 : MW.cut [x, y] (some 1) none = [y] := by rw [cut_from0 (by decide)]; rfl
          simp [zEI, mFrz, d1, i2]
          and_intros
          any_goals first | decide | omega
          exact q _ g2
        · obtain ⟨x, y, z, rfl⟩ := partsF_three ho
          have d1 : MW.cut [x, y, z] (some 1) (some 3) = [y, z] := by
            rw [show (1 : Int) = ((1 : Nat) : Int) from rfl, show (3 : Int) = ((3 : Nat) : Int) from rfl, cut_mid]; rfl
          have d3 : MW.cut [x, y, z] (some 3) none = [] := by rw [cut_from0 (by decide)]; rfl
          simp [zEI, mFrz, d1, d3, i2]
          and_intros
          any_goals first | decide | omega
          exact q _ g2
        · obtain ⟨x, y, z, u, rfl⟩ := partsF_four ho
          have d1 : MW.cut [x, y, z, u] (some 1) (some 3) = [y, z] := by
            rw [show (1 : Int) = ((1 : Nat) : Int) from rfl, show (3 : Int) = ((3 : Nat) : Int) from rfl, cut_mid]; rfl
          have d3 : MW.cut [x, y, z, u] (some 3) none = [u] := by rw [cut_from0 (by decide)]; rfl
          simp [zEI, mFrz, d1, d3, i2]
          and_intros
          any_goals first | decide | omega
          exact q _ g2
theorem stepF_is (w : List Nat) (rest : List (List Nat)) : stepF (w :: rest) = if w = kEditL then editF rest else if w = kAskL then askF rest else match tGet tb_STEP_FORMS w with
    | some f => (match partsF f rest with
      | some vs => some (.tup (.str w :: vs))
      | none => none)
    | none => none := rfl
theorem edit_parts (rest : List (List Nat)) : partsF (110 :: edF ((rest.length + 1) / 5)) rest = partsF (110 :: edF (rest.length / 5)) rest := by
  by_cases h : (rest.length + 1) / 5 = rest.length / 5
  · rw [h]
  · rw [partsF_len (by rw [List.length_cons, edF_len]; omega), partsF_len (by rw [List.length_cons, edF_len]; omega)]
def sl5 (r : List Val) (j : Nat) : List Val := [r.getD (5 * j) .non, r.getD (5 * j + 1) .non, r.getD (5 * j + 2) .non, r.getD (5 * j + 3) .non, r.getD (5 * j + 4) .non]
theorem sl5_is {r : List Val} {j : Nat} (h : 5 * j + 5 ≤ r.length) : (r.drop (5 * j)).take 5 = sl5 r j := by
  have e : ∀ i, i < 5 → (r.drop (5 * j))[i]? = some (r.getD (5 * j + i) .non) := fun i hi => by
    rw [List.getElem?_drop, List.getD_eq_getElem?_getD, List.getElem?_eq_getElem (show 5 * j + i < r.length by omega)]
    rfl
  match hd : r.drop (5 * j) with
  | [] => have := congrArg List.length hd; simp at this; omega
  | [a] => have := congrArg List.length hd; simp at this; omega
  | [a, b] => have := congrArg List.length hd; simp at this; omega
  | [a, b, c] => have := congrArg List.length hd; simp at this; omega
  | [a, b, c, d] => have := congrArg List.length hd; simp at this; omega
  | a :: b :: c :: d :: e' :: t =>
    have e0 := e 0 (by omega)
    have e1 := e 1 (by omega)
    have e2 := e 2 (by omega)
    have e3 := e 3 (by omega)
    have e4 := e 4 (by omega)
    rw [hd] at e0 e1 e2 e3 e4
    injection e0 with e0
    injection e1 with e1
    injection e2 with e2
    injection e3 with e3
    injection e4 with e4
    unfold sl5
    rw [← e1, ← e2, ← e3, ← e4]
    simp at e0
    simp [e0]
def T_r8 : MS :=
  (sSeq (sAsg (.nm 7) (mFrz (lComp (iRg3 (mC (.int 1)) (mCB oLen (aCons (mVar 5) aNil)) (mC (.int 5))) (.nm 8) [8] mYes (mFrz (lSlc (mVar 5) (pSome (mVar 8)) (pSome (mOp oAdd (mVar 8) (mC (.int 5)))))))))
    (sRet (mTup (aCons (mC (.str [101, 100, 105, 116])) (aCons (mOp oIx (mVar 5) (mC (.int 0))) (aCons (mCB oTuple (aCons (mFrz (lComp (iLst (mVar 7)) (.nm 9) [9] mYes (mTup (aCons (mCB oTuple (aCons (mFrz (lSlc (mVar 9) pNone (pSome (mC (.int 2))))) aNil)) (aCons (mCB oTuple (aCons (mFrz (lSlc (mVar 9) (pSome (mC (.int 2))) (pSome (mC (.int 4))))) aNil)) (aCons (mOp oIx (mVar 9) (mC (.int 4))) aNil)))))) aNil)) aNil))))))
theorem r8_ok {μ : Sto} {D : MEnds} {E : QX} {x0 x1 x2 x3 x4 x6 x7 x8 x9 : Slot} {n : Val} {r : List Val} {k : Nat} (hr : r.length = 5 * k) (hk : k ≤ 1000) (q : D.rt (.tup [.str kEditL, n, .tup (pairs5 k r)]) μ) : T_r8 D [x0, x1, x2, x3, x4, .val (.lst (n :: r)), x6, x7, x8, x9] μ E := by
  have hlm : lim = 1000000 := rfl
  unfold T_r8
  refine seq_asgM (v := .lst ((List.range k).map fun j => .lst (sl5 r j))) (μ' := μ) (fun K hK => ?_) ?_
  · simp [zEI, mFrz]
    unfold lComp iRg3
    simp [zEI]
    refine ⟨⟨by omega, by omega, by omega⟩, ?_⟩
    rw [rngC_five (k := k) (by omega)]
    refine lcL_map' trivial (fun v => match v with | .int i => .lst (sl5 r ((i.toNat - 1) / 5)) | _ => .non) _ [] (fun v hv => ?_) ?_
    · obtain ⟨j, hj, rfl⟩ := List.mem_map.mp hv
      have hj := List.mem_range.mp hj
      refine ⟨_, mt_nm _ _ _, fun Q' q' => ?_⟩
      simp only [show ((1 + (j : Int) * 5).toNat - 1) / 5 = j by omega] at q'
      have hc : MW.cut (n :: r) (some (1 + (j : Int) * 5)) (some (1 + (j : Int) * 5 + 5)) = sl5 r j := by
        rw [show (1 + (j : Int) * 5) = ((5 * j + 1 : Nat) : Int) by omega, show (((5 * j + 1 : Nat) : Int) + 5) = ((5 * j + 6 : Nat) : Int) by omega, cut_mid, show 5 * j + 6 - (5 * j + 1) = 5 by omega, List.drop_succ_cons]
        exact sl5_is (by omega)
      simp [zEI, wipeM, hideM, hc]
      exact q'
    · rw [List.nil_append, List.map_map]
      have e : (List.range k).map ((fun v => match v with | .int i => Val.lst (sl5 r ((i.toNat - 1) / 5)) | _ => .non) ∘ fun j : Nat => Val.int (1 + (j : Nat) * 5)) = (List.range k).map fun j => Val.lst (sl5 r j) := List.map_congr_left fun j _ => by
        show Val.lst (sl5 r (((1 + (j : Int) * 5).toNat - 1) / 5)) = Val.lst (sl5 r j)
        rw [show ((1 + (j : Int) * 5).toNat - 1) / 5 = j by omega]
      rw [e]
      exact hK
  have i0 : atI (n :: r) 0 = some n := by simp [atI_0]
  simp [zEI, mFrz, i0]
  unfold lComp iLst
  simp [zEI]
  refine lcL_map' trivial (fun v => match v with | .lst [a, b, c, d, e] => .tup [.tup [a, b], .tup [c, d], e] | _ => .non) _ [] (fun v hv => ?_) ?_
  · obtain ⟨j, hj, rfl⟩ := List.mem_map.mp hv
    refine ⟨_, mt_nm _ _ _, fun Q' q' => ?_⟩
    unfold sl5 at q' ⊢
    generalize r.getD (5 * j) .non = a at q' ⊢
    generalize r.getD (5 * j + 1) .non = b at q' ⊢
    generalize r.getD (5 * j + 2) .non = c at q' ⊢
    generalize r.getD (5 * j + 3) .non = d at q' ⊢
    generalize r.getD (5 * j + 4) .non = e at q' ⊢
    have c1 : MW.cut [a, b, c, d, e] none (some 2) = [a, b] := by rw [show (2 : Int) = ((2 : Nat) : Int) from rfl, cut_toN]; rfl
    have c2 : MW.cut [a, b, c, d, e] (some 2) (some 4) = [c, d] := by rw [show (2 : Int) = ((2 : Nat) : Int) from rfl, show (4 : Int) = ((4 : Nat) : Int) from rfl, cut_mid]; rfl
    have c3 : atI [a, b, c, d, e] 4 = some e := by rw [show (4 : Int) = ((4 : Nat) : Int) from rfl, atI_nat' (by omega)]; rfl
    simp [zEI, wipeM, hideM, mFrz, c1, c2, c3]
    and_intros
    all_goals first | exact q' | decide | omega
  · rw [List.nil_append, List.map_map]
    have e : (List.range k).map ((fun v => match v with | .lst [a, b, c, d, e] => Val.tup [.tup [a, b], .tup [c, d], e] | _ => .non) ∘ fun j : Nat => Val.lst (sl5 r j)) = pairs5 k r := by
      rw [pairs5_is k r hr]
      rfl
    rw [e]
    exact ⟨by decide, q⟩
theorem r5_ok {μ0 μ : Sto} {D : MEnds} {E : QX} {x0 x3 x4 x5 x6 x7 x8 x9 : Slot} {w : List Nat} {rest : List (List Nat)} {ds : Nat} (g : Gr μ0 μ) (hl : rest.length ≤ 1000) (hw : ∀ w ∈ rest, w.length ≤ 990000) (h1 : w ∉ fives) (h2 : w ≠ kAskL) (hd : μ.o ds = some (.dic (shapesD (110 :: edF ((rest.length + 1) / 5))))) (dl : ds < μ.n) (q : ∀ μ', Gr μ0 μ' → D.rt (match stepF (w :: rest) with
    | some v => v
    | none => .non) μ') : T_r5 D (rσ x0 (w :: rest) (.val (.ref ds)) x3 x4 x5 x6 x7 x8 x9) μ E := by
  have hlm : lim = 1000000 := rfl
  unfold T_r5 rσ
  have c1 : MW.cut (Val.str w :: rest.map Val.str) (some 1) none = rest.map Val.str := by rw [cut_from0 (by decide)]; rfl
  have i0 : atI (Val.str w :: rest.map Val.str) 0 = some (.str w) := by simp [atI_0]
  -- the form
  obtain ⟨sh, hsh⟩ : ∃ sh : List Nat, sh = (if w = kEditL then 110 :: edF ((rest.length + 1) / 5) else (tGet tb_STEP_FORMS w).getD noneL) := ⟨_, rfl⟩
  have hshl : sh.length ≤ 10000 := by
    rw [hsh]
    split
    · rw [List.length_cons, edF_len]; omega
    · cases hk : tGet tb_STEP_FORMS w with
      | none => decide
      | some f =>
        obtain ⟨p, h3, rfl⟩ := tGet_mem hk
        have := (by decide : ∀ q ∈ tb_STEP_FORMS, q.2.length ≤ 3) p h3
        show p.2.length ≤ 10000
        omega
  have hget : dGet (shapesD (110 :: edF ((rest.length + 1) / 5))) (Ky.s w) = if w = kEditL then some (.str sh) else (tGet tb_STEP_FORMS w).map Val.str := by
    by_cases hE : w = kEditL
    · rw [if_pos hE, hE, step_edit, hsh, if_pos hE]
    · rw [if_neg hE, step_other h1 hE]
  refine seq_asgR (fun v μ' => v = (match partsF sh rest with
    | some vs => .lst vs
    | none => .non) ∧ Gr μ0 μ' ∧ μ'.o ds = μ.o ds) (fun K hK => ?_) ?_
  · have pr : G__law_parts [.lst (rest.map Val.str), .str sh] μ K E := ⟨rest, rfl, hshl, by omega, hw, fun μ2 g2 => hK _ _ ⟨rfl, g.trans g2, g2.2 ds dl⟩⟩
    by_cases hE : w = kEditL
    · rw [if_pos hE] at hget
      simp [zEI, mFrz, c1, i0, hd, hget]
      try rw [stop_is]
      exact pr
    · rw [if_neg hE] at hget
      rw [if_neg hE] at hsh
      cases hk : tGet tb_STEP_FORMS w with
      | none =>
        rw [hk] at hget hsh
        have hsh : sh = noneL := hsh
        rw [hsh] at pr
        have hget : dGet (shapesD (110 :: edF ((rest.length + 1) / 5))) (Ky.s w) = none := hget
        simp [zEI, mFrz, c1, i0, hd, hget]
        try rw [stop_is]
        exact pr
      | some f =>
        rw [hk] at hget hsh
        have hsh : sh = f := hsh
        rw [hsh] at pr
        have hget : dGet (shapesD (110 :: edF ((rest.length + 1) / 5))) (Ky.s w) = some (.str f) := hget
        simp [zEI, mFrz, c1, i0, hd, hget]
        try rw [stop_is]
        exact pr
  rintro v μ1 ⟨rfl, g1, ho1⟩
  rw [hd] at ho1
  cases hp : partsF sh rest with
  | none =>
    have hs : stepF (w :: rest) = none := by
      rw [stepF_is]
      by_cases hE : w = kEditL
      · rw [if_pos hE]
        rw [if_pos hE] at hsh
        rw [hsh, edit_parts] at hp
        unfold editF
        rw [hp]
      · rw [if_neg hE, if_neg h2]
        rw [if_neg hE] at hsh
        cases hk : tGet tb_STEP_FORMS w with
        | none => rfl
        | some f =>
          rw [hk] at hsh
          have hsh : sh = f := hsh
          rw [← hsh]
          simp only [hp]
    rw [hs] at q
    simp [zEI]
    exact q _ g1
  | some vs =>
    by_cases hE : w = kEditL
    · rw [if_pos hE] at hsh hget
      have hp2 : partsF (110 :: edF (rest.length / 5)) rest = some vs := by rw [← edit_parts, ← hsh]; exact hp
      obtain ⟨k1, k2⟩ := partsF_length hp2
      match vs, k1, hp2 with
      | n :: r, k1, hp2 =>
        have hr : r.length = 5 * (rest.length / 5) := by rw [List.length_cons, List.length_cons, edF_len] at k1; omega
        have hs : stepF (w :: rest) = some (.tup [.str kEditL, n, .tup (pairs5 (rest.length / 5) r)]) := by
          rw [stepF_is]
          rw [if_pos hE]
          unfold editF
          rw [hp2]
          rfl
        rw [hs] at q
        refine seq_if (b := false) (fun K hK => ?_) (fun z => by cases z) fun _ => seq_nil ?_
        · simp [zEI, mFrz, c1, i0, ho1, hget]
          exact hK
        refine seq_if (b := false) (fun K hK => ?_) (fun z => by cases z) fun _ => seq_nil ?_
        · subst hE
          simp [zEI, i0, kEditL]
          exact hK
        exact r8_ok hr (by omega) (q _ g1)
    · rw [if_neg hE] at hsh hget
      cases hk : tGet tb_STEP_FORMS w with
      | none =>
        have hs : stepF (w :: rest) = none := by
          rw [stepF_is]
          rw [if_neg hE, if_neg h2, hk]
        rw [hs] at q
        rw [hk] at hget
        have hget : dGet (shapesD (110 :: edF ((rest.length + 1) / 5))) (Ky.s w) = none := hget
        simp [zEI, mFrz, c1, i0, ho1, hget]
        exact q _ g1
      | some f =>
        rw [hk] at hget hsh
        have hsh : sh = f := hsh
        subst hsh
        have hget : dGet (shapesD (110 :: edF ((rest.length + 1) / 5))) (Ky.s w) = some (.str sh) := hget
        have hs : stepF (w :: rest) = some (.tup (.str w :: vs)) := by
          rw [stepF_is]
          rw [if_neg hE, if_neg h2, hk]
          dsimp only
          rw [hp]
        rw [hs] at q
        have hv := (partsF_length hp).1
        unfold kEditL at hE
        simp [zEI, mFrz, c1, i0, ho1, hget, hE]
        and_intros
        all_goals first | exact q _ g1 | decide | omega
def G__law_row : FnM := fun vs μ Q _ => match vs with
  | [.str r] => (spl 32 r).length ≤ 1000 ∧ (∀ w ∈ spl 32 r, w.length ≤ 990000) ∧ ∀ μ', Gr μ μ' → Q (match stepF (spl 32 r) with
    | some v => v
    | none => .non) μ'
  | _ => False
theorem seq_into {a b : MS} {D : MEnds} {σ : Lc} {μ : Sto} {E : QX} (h : a { D with nx := fun σ' μ' => b D σ' μ' E } σ μ E) : sSeq a b D σ μ E := h
set_option maxHeartbeats 1000000 in
theorem GP__law_row : ∀ vs μ Q E, vs.length = 1 → G__law_row vs μ Q E → P__law_row vs μ Q E := by
  intro vs μ Q E hl q
  unfold G__law_row at q
  split at q
  rotate_left
  · exact q.elim
  rename_i r
  obtain ⟨h1, h2, q⟩ := q
  have hlm : lim = 1000000 := rfl
  have hsl : strLim = 1000000 := rfl
  unfold P__law_row M__law_row fnM
  obtain ⟨w, rest, hws⟩ : ∃ w rest, spl 32 r = w :: rest := by
    cases h : spl 32 r with
    | nil => exact absurd h (splA_len r []).2
    | cons w rest => exact ⟨w, rest, rfl⟩
  rw [hws] at h1 h2 q
  rw [List.length_cons] at h1
  refine seq_asgM (v := .lst ((w :: rest).map Val.str)) (μ' := μ) (fun K hK => ?_) ?_
  · simp [zEI, mFrz, hws]
    exact hK
  have i0 : atI (Val.str w :: rest.map Val.str) 0 = some (.str w) := by simp [atI_0]
  refine seq_ifR (fun b μ' => μ' = μ ∧ (b = true ↔ w ∈ fives)) (fun K hK => ?_) (fun μ9 z => ?_) (fun μ9 z => ?_)
  · simp [zEI, i0]
    refine ⟨by decide, hK _ _ ⟨rfl, ?_⟩⟩
    simp only [fives, List.mem_cons, List.not_mem_nil, or_false, Bool.or_eq_true, beq_iff_eq]
    constructor <;> (rintro (h | h | h | h | h) <;> subst h <;> simp)
  · obtain ⟨e9, z⟩ := z
    rw [e9]
    have hf := z.mp rfl
    obtain ⟨k1, k2, k3⟩ := step_five hf
    have hs : stepF (w :: rest) = match partsF [] rest with
      | some vs => some (.tup (.str w :: vs))
      | none => none := by rw [stepF_is, if_neg k2, if_neg k3, k1]
    rw [hs] at q
    cases rest with
    | nil =>
      simp [zEI, i0]
      exact ⟨by decide, q _ .refl⟩
    | cons a rest =>
      have hp : partsF [] (a :: rest) = none := rfl
      rw [hp] at q
      simp [zEI, i0]
      exact q _ .refl
  · obtain ⟨e9, z⟩ := z
    rw [e9]
    have hf : w ∉ fives := fun h => by have := z.mpr h; cases this
    refine seq_nil ?_
    refine seq_asgR (fun v μ' => ∃ d, v = .ref d ∧ d < μ'.n ∧ μ'.o d = some (.dic [(Ky.s [99, 108, 111, 115, 101], Val.str [110]), (Ky.s [111, 102, 102], Val.str [110]), (Ky.s [116, 97, 107, 101], Val.str [110]), (Ky.s [119, 111, 114, 107], Val.str [110]), (Ky.s [111, 112, 101, 110], Val.str [110, 116])]) ∧ Gr μ' μ' ∧ Gr μ μ' ∧ μ.n ≤ d) (fun K hK => ?_) ?_
    · simp [zEI]
      refine hK _ _ ⟨_, rfl, ?_, ?_, .refl, (Gr.new).put (Nat.le_refl _), Nat.le_refl _⟩
      · show _ < μ.n + 1; omega
      · rw [put_o, if_pos rfl]
        rfl
    rintro v μ1 ⟨d, rfl, dl, hd, _, g1, dg⟩
    have e1 : (((rest.length : Int) + 1) / 5).toNat = (rest.length + 1) / 5 := by omega
    refine seq_dput (a := d) (z := .str (110 :: edF ((rest.length + 1) / 5))) (kv := .str kEditL) (ky := .s kEditL) (fun K hK => ?_) (fun K hK => ?_) (fun K hK => ?_) rfl hd (by show 5 < lim; decide) ?_
    · simp [zEI]
      rw [e1, edF_is]
      have hle := edF_len ((rest.length + 1) / 5)
      and_intros
      all_goals first | exact hK | exact divW (by decide) (by decide) | decide | omega
    · simp [zEI]; exact hK
    · simp [zEI]; exact hK
    have hd2 : (μ1.put d (.dic (dPut [(Ky.s [99, 108, 111, 115, 101], Val.str [110]), (Ky.s [111, 102, 102], Val.str [110]), (Ky.s [116, 97, 107, 101], Val.str [110]), (Ky.s [119, 111, 114, 107], Val.str [110]), (Ky.s [111, 112, 101, 110], Val.str [110, 116])] (.s kEditL) (.str (110 :: edF ((rest.length + 1) / 5)))))).o d = some (.dic (shapesD (110 :: edF ((rest.length + 1) / 5)))) := by
      rw [put_o, if_pos rfl]
      rfl
    have g2 : Gr μ (μ1.put d (.dic (dPut [(Ky.s [99, 108, 111, 115, 101], Val.str [110]), (Ky.s [111, 102, 102], Val.str [110]), (Ky.s [116, 97, 107, 101], Val.str [110]), (Ky.s [119, 111, 114, 107], Val.str [110]), (Ky.s [111, 112, 101, 110], Val.str [110, 116])] (.s kEditL) (.str (110 :: edF ((rest.length + 1) / 5)))))) := g1.put dg
    have dl2 : d < (μ1.put d (.dic (dPut [(Ky.s [99, 108, 111, 115, 101], Val.str [110]), (Ky.s [111, 102, 102], Val.str [110]), (Ky.s [116, 97, 107, 101], Val.str [110]), (Ky.s [119, 111, 114, 107], Val.str [110]), (Ky.s [111, 112, 101, 110], Val.str [110, 116])] (.s kEditL) (.str (110 :: edF ((rest.length + 1) / 5)))))).n := dl
    generalize (μ1.put d (.dic (dPut [(Ky.s [99, 108, 111, 115, 101], Val.str [110]), (Ky.s [111, 102, 102], Val.str [110]), (Ky.s [116, 97, 107, 101], Val.str [110]), (Ky.s [119, 111, 114, 107], Val.str [110]), (Ky.s [111, 112, 101, 110], Val.str [110, 116])] (.s kEditL) (.str (110 :: edF ((rest.length + 1) / 5)))))) = μ2 at hd2 g2 dl2 ⊢
    have hwr : ∀ x ∈ rest, x.length ≤ 990000 := fun x hx => h2 x (List.mem_cons_of_mem _ hx)
    refine seq_ifR (fun b μ' => μ' = μ2 ∧ (b = true ↔ w = kAskL)) (fun K hK => ?_) (fun μ8 z => ?_) (fun μ8 z => ?_)
    · simp [zEI, i0]
      exact hK _ _ ⟨rfl, by simp [kAskL]⟩
    · obtain ⟨e8, z⟩ := z
      rw [e8]
      have hw := z.mp rfl
      subst hw
      have hs : stepF (kAskL :: rest) = askF rest := by rw [stepF_is, if_neg (by decide), if_pos rfl]
      rw [hs] at q
      refine seq_into ?_
      exact ra_ok (x0 := .val (.str r)) (x2 := .val (.ref d)) (x3 := .no) (x4 := .no) (x5 := .no) (x6 := .no) (x7 := .no) (x8 := .no) (x9 := .no) g2 (by omega) hwr q
    · obtain ⟨e8, z⟩ := z
      rw [e8]
      have hw : w ≠ kAskL := fun h => by have := z.mpr h; cases this
      refine seq_nil ?_
      exact r5_ok (x0 := .val (.str r)) (x3 := .no) (x4 := .no) (x5 := .no) (x6 := .no) (x7 := .no) (x8 := .no) (x9 := .no) g2 (by omega) hwr hf hw hd2 dl2 q

/-! ### how great a text is: spaces within a row, line ends, signs -/
def cnt (d : Nat) : List Nat → Nat
  | [] => 0
  | x :: t => (if x = d then 1 else 0) + cnt d t
def mx (c : Nat) : List Nat → Nat
  | [] => c
  | x :: t => if x = 10 then max c (mx 0 t) else mx (c + if x = 32 then 1 else 0) t
theorem cnt_app (d : Nat) : ∀ a b : List Nat, cnt d (a ++ b) = cnt d a + cnt d b
  | [], b => by simp [cnt]
  | x :: a, b => by rw [List.cons_append, cnt, cnt, cnt_app d a b]; omega
theorem cnt_no {d : Nat} : ∀ {a : List Nat}, d ∉ a → cnt d a = 0
  | [], _ => rfl
  | x :: a, h => by
    rw [cnt, if_neg (fun z => h (by rw [z]; exact List.mem_cons_self)), cnt_no fun z => h (List.mem_cons_of_mem _ z)]
theorem mx_up : ∀ (t : List Nat) (c : Nat), c ≤ mx c t
  | [], c => Nat.le_refl _
  | x :: t, c => by
    rw [mx]
    split
    · exact Nat.le_max_left _ _
    · exact Nat.le_trans (Nat.le_add_right _ _) (mx_up t _)
theorem mx_mono : ∀ (t : List Nat) {c e : Nat}, c ≤ e → mx c t ≤ mx e t
  | [], c, e, h => h
  | x :: t, c, e, h => by
    rw [mx, mx]
    split
    · exact Nat.max_le.mpr ⟨Nat.le_trans h (Nat.le_max_left _ _), Nat.le_max_right _ _⟩
    · exact mx_mono t (Nat.add_le_add_right h _)
theorem mx_add : ∀ (t : List Nat) (c e : Nat), mx (c + e) t ≤ c + mx e t
  | [], c, e => Nat.le_refl _
  | x :: t, c, e => by
    rw [mx, mx]
    split
    · refine Nat.max_le.mpr ⟨?_, ?_⟩
      · have := Nat.le_max_left e (mx 0 t); omega
      · have := Nat.le_max_right e (mx 0 t); omega
    · rw [Nat.add_assoc]; exact mx_add t c _
theorem mx_app : ∀ (a b : List Nat) (c : Nat), mx c (a ++ b) ≤ mx c a + mx 0 b
  | [], b, c => by
    have := mx_add b c 0
    rw [Nat.add_zero] at this
    exact this
  | x :: a, b, c => by
    rw [List.cons_append, mx, mx]
    split
    · refine Nat.max_le.mpr ⟨?_, ?_⟩
      · have := Nat.le_max_left c (mx 0 a); omega
      · have h1 := mx_app a b 0
        have := Nat.le_max_right c (mx 0 a)
        omega
    · exact mx_app a b _
theorem mx_pre : ∀ (a b : List Nat) (c : Nat), mx c a ≤ mx c (a ++ b)
  | [], b, c => mx_up b c
  | x :: a, b, c => by
    rw [List.cons_append, mx, mx]
    split
    · exact Nat.max_le.mpr ⟨Nat.le_max_left _ _, Nat.le_trans (mx_pre a b 0) (Nat.le_max_right _ _)⟩
    · exact mx_pre a b _
theorem mx_suf : ∀ (a b : List Nat) (c : Nat), mx 0 b ≤ mx c (a ++ b)
  | [], b, c => mx_mono b (Nat.zero_le _)
  | x :: a, b, c => by
    rw [List.cons_append, mx]
    split
    · exact Nat.le_trans (mx_suf a b 0) (Nat.le_max_right _ _)
    · exact mx_suf a b _
theorem mx_take (t : List Nat) (i : Nat) : mx 0 (t.take i) ≤ mx 0 t := by
  have := mx_pre (t.take i) (t.drop i) 0
  rwa [List.take_append_drop] at this
theorem mx_drop (t : List Nat) (i : Nat) : mx 0 (t.drop i) ≤ mx 0 t := by
  have := mx_suf (t.take i) (t.drop i) 0
  rwa [List.take_append_drop] at this
theorem cnt_cut (d : Nat) (t : List Nat) {i j : Nat} (h : i ≤ j) : cnt d (t.take i) + cnt d (t.drop j) ≤ cnt d t := by
  have h1 := cnt_app d (t.take i) (t.drop i)
  rw [List.take_append_drop] at h1
  have h2 := cnt_app d ((t.drop i).take (j - i)) ((t.drop i).drop (j - i))
  rw [List.take_append_drop, List.drop_drop, show i + (j - i) = j by omega] at h2
  omega
theorem mx_row : ∀ (w : List Nat) (c : Nat), 10 ∉ w → mx c w = c + cnt 32 w
  | [], c, _ => rfl
  | x :: w, c, h => by
    rw [mx, if_neg (fun z => h (by rw [z]; exact List.mem_cons_self)), mx_row w _ fun z => h (List.mem_cons_of_mem _ z), cnt, Nat.add_assoc]
/- rows and words apart -/
theorem spl_rows : ∀ (t acc : List Nat), 10 ∉ acc → ∀ r ∈ splA 10 acc t, 10 ∉ r ∧ cnt 32 r ≤ mx (cnt 32 acc) t
  | [], acc, h, r, hr => by
    rw [splA, List.mem_singleton] at hr
    subst hr
    exact ⟨h, Nat.le_refl _⟩
  | x :: t, acc, h, r, hr => by
    rw [splA] at hr
    rw [mx]
    by_cases hx : x = 10
    · rw [if_pos hx] at hr ⊢
      rcases List.mem_cons.mp hr with rfl | hr
      · exact ⟨h, Nat.le_max_left _ _⟩
      · obtain ⟨k1, k2⟩ := spl_rows t [] (by simp) r hr
        exact ⟨k1, Nat.le_trans k2 (Nat.le_max_right _ _)⟩
    · rw [if_neg hx] at hr ⊢
      obtain ⟨k1, k2⟩ := spl_rows t (acc ++ [x]) (fun z => by
        rcases List.mem_append.mp z with z | z
        · exact h z
        · exact hx (List.mem_singleton.mp z).symm) r hr
      rw [cnt_app] at k2
      exact ⟨k1, by simpa [cnt] using k2⟩
theorem spl_no {d : Nat} : ∀ (t acc : List Nat), d ∉ acc → ∀ r ∈ splA d acc t, d ∉ r ∧ ∀ c ∈ r, c ∈ acc ∨ c ∈ t
  | [], acc, h, r, hr => by
    rw [splA, List.mem_singleton] at hr
    subst hr
    exact ⟨h, fun c hc => .inl hc⟩
  | x :: t, acc, h, r, hr => by
    rw [splA] at hr
    by_cases hx : x = d
    · rw [if_pos hx] at hr
      rcases List.mem_cons.mp hr with rfl | hr
      · exact ⟨h, fun c hc => .inl hc⟩
      · obtain ⟨k1, k2⟩ := spl_no t [] (by simp) r hr
        exact ⟨k1, fun c hc => by
          rcases k2 c hc with z | z
          · cases z
          · exact .inr (List.mem_cons_of_mem _ z)⟩
    · rw [if_neg hx] at hr
      obtain ⟨k1, k2⟩ := spl_no t (acc ++ [x]) (fun z => by
        rcases List.mem_append.mp z with z | z
        · exact h z
        · exact hx (List.mem_singleton.mp z).symm) r hr
      exact ⟨k1, fun c hc => by
        rcases k2 c hc with z | z
        · rcases List.mem_append.mp z with z | z
          · exact .inl z
          · rw [List.mem_singleton.mp z]; exact .inr List.mem_cons_self
        · exact .inr (List.mem_cons_of_mem _ z)⟩
theorem spl_cnt {d : Nat} : ∀ (t acc : List Nat), (splA d acc t).length = cnt d t + 1
  | [], acc => rfl
  | x :: t, acc => by
    rw [splA, cnt]
    by_cases hx : x = d
    · rw [if_pos hx, if_pos hx, List.length_cons, spl_cnt t]; omega
    · rw [if_neg hx, if_neg hx, spl_cnt t]; omega
def sl : List (List Nat) → Nat
  | [] => 0
  | r :: rs => r.length + 1 + sl rs
theorem sl_app : ∀ a b : List (List Nat), sl (a ++ b) = sl a + sl b
  | [], b => by simp [sl]
  | r :: a, b => by rw [List.cons_append, sl, sl, sl_app a b]; omega
theorem spl_sl {d : Nat} : ∀ (t acc : List Nat), sl (splA d acc t) = acc.length + t.length + 1
  | [], acc => rfl
  | x :: t, acc => by
    rw [splA]
    by_cases hx : x = d
    · rw [if_pos hx, sl, spl_sl t, List.length_cons, List.length_nil]; omega
    · rw [if_neg hx, spl_sl t, List.length_append, List.length_singleton, List.length_cons]; omega
theorem sl_mem : ∀ {rs : List (List Nat)} {r : List Nat}, r ∈ rs → r.length + 1 ≤ sl rs
  | x :: rs, r, h => by
    rw [sl]
    rcases List.mem_cons.mp h with rfl | h
    · omega
    · have := sl_mem h; omega
theorem join_sl {d : Nat} : ∀ rs : List (List Nat), (TL.joinL [d] rs).length ≤ sl rs
  | [] => by rw [TL.joinL]; exact Nat.zero_le _
  | [r] => by rw [TL.joinL, sl]; omega
  | r :: u :: rs => by
    have := join_sl (d := d) (u :: rs)
    rw [TL.joinL, sl, List.length_append, List.length_append, List.length_singleton]; omega
theorem join_mx {S : Nat} : ∀ rs : List (List Nat), (∀ r ∈ rs, 10 ∉ r ∧ cnt 32 r ≤ S) → mx 0 (TL.joinL [10] rs) ≤ S
  | [], _ => by rw [TL.joinL]; exact Nat.zero_le _
  | [r], h => by
    obtain ⟨k1, k2⟩ := h r List.mem_cons_self
    rw [TL.joinL, mx_row r 0 k1]; omega
  | r :: u :: rs, h => by
    obtain ⟨k1, k2⟩ := h r List.mem_cons_self
    have ih := join_mx (S := S) (u :: rs) fun x hx => h x (List.mem_cons_of_mem _ hx)
    have key : ∀ (w t : List Nat) (c : Nat), 10 ∉ w → mx c (w ++ 10 :: t) = max (c + cnt 32 w) (mx 0 t) := by
      intro w t
      induction w with
      | nil => intro c _; rw [List.nil_append, mx, if_pos rfl]; rfl
      | cons x w ihw =>
        intro c hw
        rw [List.cons_append, mx, if_neg (fun z => hw (by rw [z]; exact List.mem_cons_self)), ihw _ (fun z => hw (List.mem_cons_of_mem _ z)), cnt, Nat.add_assoc]
    rw [TL.joinL]
    show mx 0 (r ++ 10 :: TL.joinL [10] (u :: rs)) ≤ S
    rw [key r _ 0 k1]
    exact Nat.max_le.mpr ⟨by omega, ih⟩
theorem join_cnt {d : Nat} : ∀ rs : List (List Nat), (∀ r ∈ rs, d ∉ r) → cnt d (TL.joinL [d] rs) ≤ rs.length - 1
  | [], _ => by rw [TL.joinL]; exact Nat.zero_le _
  | [r], h => by rw [TL.joinL, cnt_no (h r List.mem_cons_self)]; exact Nat.zero_le _
  | r :: u :: rs, h => by
    have ih := join_cnt (u :: rs) fun x hx => h x (List.mem_cons_of_mem _ hx)
    rw [TL.joinL, cnt_app, cnt_app, cnt_no (h r List.mem_cons_self)]
    simp only [List.length_cons, cnt] at ih ⊢
    simp
    omega

/-! ### a text after one change -/
def TxI (S N L : Nat) (t : List Nat) : Prop := mx 0 t ≤ S ∧ cnt 10 t ≤ N ∧ t.length ≤ L
theorem cnt_le {d : Nat} : ∀ {x : List Nat}, x.length ≤ 1 → cnt d x ≤ 1 ∧ mx 0 x ≤ 1
  | [], _ => ⟨Nat.zero_le _, Nat.zero_le _⟩
  | [c], _ => by
    constructor
    · simp only [cnt]; split <;> omega
    · simp only [mx]
      split
      · simp
      · split <;> omega
  | _ :: _ :: _, h => by simp at h
theorem tx_cut {S N L i j : Nat} {t x : List Nat} (h : TxI S N L t) (hx : x.length ≤ 1) (hij : i ≤ j) : TxI (2 * S + 1) (N + 1) (2 * L + 20) (t.take i ++ x ++ t.drop j) := by
  obtain ⟨h1, h2, h3⟩ := h
  obtain ⟨c1, c2⟩ := cnt_le (d := 10) hx
  refine ⟨?_, ?_, ?_⟩
  · have a1 := mx_app (t.take i ++ x) (t.drop j) 0
    have a2 := mx_app (t.take i) x 0
    have a3 := mx_take t i
    have a4 := mx_drop t j
    omega
  · rw [cnt_app, cnt_app]
    have := cnt_cut 10 t hij
    omega
  · rw [List.length_append, List.length_append, List.length_take, List.length_drop]
    omega
/- rows, as they are put together again -/
theorem tx_rows {S N L : Nat} {t : List Nat} (h : TxI S N L t) : (spl 10 t).length ≤ N + 1 ∧ sl (spl 10 t) ≤ L + 1 ∧ ∀ r ∈ spl 10 t, 10 ∉ r ∧ cnt 32 r ≤ S := by
  obtain ⟨h1, h2, h3⟩ := h
  refine ⟨by unfold spl; rw [spl_cnt]; omega, by unfold spl; rw [spl_sl, List.length_nil]; omega, fun r hr => ?_⟩
  obtain ⟨k1, k2⟩ := spl_rows t [] (by simp) r hr
  have k2 : cnt 32 r ≤ mx 0 t := k2
  exact ⟨k1, by omega⟩
theorem tx_join {S N L : Nat} {rs : List (List Nat)} (h1 : ∀ r ∈ rs, 10 ∉ r ∧ cnt 32 r ≤ S) (h2 : rs.length ≤ N + 1) (h3 : sl rs ≤ L) : TxI S N L (TL.joinL [10] rs) :=
  ⟨join_mx rs h1, by have := join_cnt rs fun r hr => (h1 r hr).1; omega, Nat.le_trans (join_sl rs) h3⟩
theorem tx_up {S N L S' N' L' : Nat} {t : List Nat} (h : TxI S N L t) (h1 : S ≤ S') (h2 : N ≤ N') (h3 : L ≤ L') : TxI S' N' L' t := ⟨Nat.le_trans h.1 h1, Nat.le_trans h.2.1 h2, Nat.le_trans h.2.2 h3⟩
theorem sl_take_drop (rs : List (List Nat)) (k : Nat) : sl (rs.take k) + sl (rs.drop k) = sl rs := by rw [← sl_app, List.take_append_drop]
theorem sl_split {rs : List (List Nat)} {k : Nat} (h : k < rs.length) : sl (rs.take k) + (rs[k].length + 1) + sl (rs.drop (k + 1)) = sl rs := by
  have := sl_take_drop rs k
  rw [List.drop_eq_getElem_cons h, sl] at this
  omega
theorem tx_less {S N L k : Nat} {t : List Nat} (h : TxI S N L t) : TxI (2 * S + 1) (N + 1) (2 * L + 20) (TL.joinL [10] ((spl 10 t).take k ++ (spl 10 t).drop (k + 1))) := by
  obtain ⟨h1, h2, h3⟩ := tx_rows h
  refine tx_join (fun r hr => ?_) ?_ ?_
  · have : r ∈ spl 10 t := by
      rcases List.mem_append.mp hr with hr | hr
      · exact List.mem_of_mem_take hr
      · exact List.mem_of_mem_drop hr
    obtain ⟨k1, k2⟩ := h3 r this
    exact ⟨k1, by omega⟩
  · rw [List.length_append, List.length_take, List.length_drop]; omega
  · have a := sl_take_drop (spl 10 t) k
    have b := sl_take_drop ((spl 10 t).drop k) 1
    rw [List.drop_drop] at b
    rw [sl_app]
    omega
theorem tx_twice {S N L k : Nat} {t : List Nat} (h : TxI S N L t) (hk : k < (spl 10 t).length) : TxI (2 * S + 1) (N + 1) (2 * L + 20) (TL.joinL [10] ((spl 10 t).take (k + 1) ++ (spl 10 t).drop k)) := by
  obtain ⟨h1, h2, h3⟩ := tx_rows h
  refine tx_join (fun r hr => ?_) ?_ ?_
  · have : r ∈ spl 10 t := by
      rcases List.mem_append.mp hr with hr | hr
      · exact List.mem_of_mem_take hr
      · exact List.mem_of_mem_drop hr
    obtain ⟨k1, k2⟩ := h3 r this
    exact ⟨k1, by omega⟩
  · rw [List.length_append, List.length_take, List.length_drop]; omega
  · have a := sl_take_drop (spl 10 t) (k + 1)
    have b := sl_take_drop (spl 10 t) k
    have c := sl_take_drop ((spl 10 t).drop k) 1
    rw [List.drop_drop] at c
    rw [sl_app]
    omega
theorem tx_turn {S N L k : Nat} {t : List Nat} (h : TxI S N L t) : TxI (2 * S + 1) (N + 1) (2 * L + 20) (TL.joinL [10] ((spl 10 t).drop k ++ (spl 10 t).take k)) := by
  obtain ⟨h1, h2, h3⟩ := tx_rows h
  refine tx_join (fun r hr => ?_) ?_ ?_
  · have : r ∈ spl 10 t := by
      rcases List.mem_append.mp hr with hr | hr
      · exact List.mem_of_mem_drop hr
      · exact List.mem_of_mem_take hr
    obtain ⟨k1, k2⟩ := h3 r this
    exact ⟨k1, by omega⟩
  · rw [List.length_append, List.length_take, List.length_drop]; omega
  · have a := sl_take_drop (spl 10 t) k
    rw [sl_app]
    omega
/- a row of which a word is told otherwise -/
theorem tx_words {S N L k j : Nat} {t : List Nat} {r w : List Nat} {mid : List (List Nat)} (h : TxI S N L t) (hk : (spl 10 t)[k]? = some r) (hj : (spl 32 r)[j]? = some w) (hm : mid.length ≤ 2) (hs : sl mid ≤ 2 * (w.length + 1) + 11) (hw : ∀ x ∈ mid, x ∈ spl 32 r ∨ (10 ∉ x ∧ 32 ∉ x)) : TxI (2 * S + 1) (N + 1) (2 * L + 20) (TL.joinL [10] ((spl 10 t).take k ++ [TL.joinL [32] ((spl 32 r).take j ++ mid ++ (spl 32 r).drop (j + 1))] ++ (spl 10 t).drop (k + 1)))
    ∧ (TL.joinL [32] ((spl 32 r).take j ++ mid ++ (spl 32 r).drop (j + 1))).length ≤ 2 * L + 20 ∧ ((spl 32 r).take j ++ mid ++ (spl 32 r).drop (j + 1)).length ≤ S + 2 := by
  obtain ⟨h1, h2, h3⟩ := tx_rows h
  obtain ⟨kl, ek⟩ := List.getElem?_eq_some_iff.mp hk
  obtain ⟨jl, ej⟩ := List.getElem?_eq_some_iff.mp hj
  have hr := List.mem_of_getElem? hk
  obtain ⟨r10, r32⟩ := h3 r hr
  have wl : (spl 32 r).length = cnt 32 r + 1 := spl_cnt r []
  have ws : ∀ x ∈ spl 32 r, 10 ∉ x ∧ 32 ∉ x := fun x hx => by
    obtain ⟨k1, k2⟩ := spl_no r [] (by simp) x hx
    exact ⟨fun z => by
      rcases k2 10 z with z | z
      · cases z
      · exact r10 z, k1⟩
  have wsl : sl (spl 32 r) = r.length + 1 := by unfold spl; rw [spl_sl, List.length_nil]; omega
  have all : ∀ x ∈ (spl 32 r).take j ++ mid ++ (spl 32 r).drop (j + 1), 10 ∉ x ∧ 32 ∉ x := fun x hx => by
    rcases List.mem_append.mp hx with hx | hx
    · rcases List.mem_append.mp hx with hx | hx
      · exact ws x (List.mem_of_mem_take hx)
      · rcases hw x hx with hx | hx
        · exact ws x hx
        · exact hx
    · exact ws x (List.mem_of_mem_drop hx)
  have len : ((spl 32 r).take j ++ mid ++ (spl 32 r).drop (j + 1)).length ≤ S + 2 := by
    rw [List.length_append, List.length_append, List.length_take, List.length_drop]; omega
  have sls : sl ((spl 32 r).take j ++ mid ++ (spl 32 r).drop (j + 1)) ≤ 2 * r.length + 13 := by
    have a := sl_split jl
    rw [ej, wsl] at a
    rw [sl_app, sl_app]
    omega
  have rlen := Nat.le_trans (join_sl (d := 32) ((spl 32 r).take j ++ mid ++ (spl 32 r).drop (j + 1))) sls
  have rsl : r.length + 1 ≤ sl (spl 10 t) := sl_mem hr
  refine ⟨tx_join (fun x hx => ?_) ?_ ?_, by omega, len⟩
  · rcases List.mem_append.mp hx with hx | hx
    · rcases List.mem_append.mp hx with hx | hx
      · obtain ⟨k1, k2⟩ := h3 x (List.mem_of_mem_take hx)
        exact ⟨k1, by omega⟩
      · rw [List.mem_singleton.mp hx]
        refine ⟨fun z => ?_, ?_⟩
        · rcases join_mem z with z | ⟨y, hy, z⟩
          · cases z
          · exact (all y hy).1 z
        · have := join_cnt (d := 32) _ fun y hy => (all y hy).2
          omega
    · obtain ⟨k1, k2⟩ := h3 x (List.mem_of_mem_drop hx)
      exact ⟨k1, by omega⟩
  · rw [List.length_append, List.length_append, List.length_take, List.length_drop, List.length_singleton]; omega
  · have a := sl_split kl
    rw [ek] at a
    rw [sl_app, sl_app]
    simp only [sl]
    omega
def M__law_spoilt : MS :=
  (sSeq (sPar 2 3 (aCons (mCall (ck 2 G__law_drawn) (aCons (mVar 0) (aCons (mC (.int 9)) aNil))) (aCons (mCall (ck 2 G__law_drawn) (aCons (mVar 0) (aCons (mOp oAdd (mCB oLen (aCons (mVar 1) aNil)) (mC (.int 1))) aNil))) aNil)))
    (sSeq (sAsg (.nm 4) (mOp oIx (mFrz (lDsp (aCons (mOp oIx (mC (.str [48, 49, 50, 51, 52, 53, 54, 55, 56, 57, 32, 126, 46, 95, 47, 45])) (mCall (ck 2 G__law_drawn) (aCons (mVar 0) (aCons (mC (.int 16)) aNil)))) (aCons (mCall (ck 1 G__law_sign) (aCons (mVar 0) aNil)) aNil)))) (mCall (ck 2 G__law_drawn) (aCons (mVar 0) (aCons (mC (.int 2)) aNil)))))
    (sSeq (sIf (mB (mOp oLt (mVar 2) (mC (.int 3))))
    (sRet (mOp oAdd (mOp oAdd (mSl (mVar 1) pNone (pSome (mVar 3))) (mOp oIx (mFrz (lDsp (aCons (mVar 4) (aCons (mC (.str [])) (aCons (mVar 4) aNil))))) (mVar 2))) (mSl (mVar 1) (pSome (mOp oAdd (mVar 3) (mCB oInt1 (aCons (mOp oGt (mVar 2) (mC (.int 0))) aNil)))) pNone)))
    sNil)
    (sSeq (sAsg (.nm 5) (mFrz (lSm gSplit (mVar 1) (mC (.str [10])))))
    (sSeq (sAsg (.nm 6) (mCall (ck 2 G__law_drawn) (aCons (mVar 0) (aCons (mCB oLen (aCons (mVar 5) aNil)) aNil))))
    (sSeq (sIf (mB (mOp oLt (mVar 2) (mC (.int 6))))
    (sRet (mSm gJoin (mC (.str [10])) (mOp oIx (mFrz (lDsp (aCons (mFrz (lAdd (mFrz (lSlc (mVar 5) pNone (pSome (mVar 6)))) (mFrz (lSlc (mVar 5) (pSome (mOp oAdd (mVar 6) (mC (.int 1)))) pNone)))) (aCons (mFrz (lAdd (mFrz (lSlc (mVar 5) pNone (pSome (mOp oAdd (mVar 6) (mC (.int 1)))))) (mFrz (lSlc (mVar 5) (pSome (mVar 6)) pNone)))) (aCons (mFrz (lAdd (mFrz (lSlc (mVar 5) (pSome (mVar 6)) pNone)) (mFrz (lSlc (mVar 5) pNone (pSome (mVar 6)))))) aNil))))) (mOp oSub (mVar 2) (mC (.int 3))))))
    sNil)
    (sSeq (sAsg (.nm 7) (mFrz (lSm gSplit (mOp oIx (mVar 5) (mVar 6)) (mC (.str [32])))))
    (sSeq (sAsg (.nm 8) (mCall (ck 2 G__law_drawn) (aCons (mVar 0) (aCons (mCB oLen (aCons (mVar 7) aNil)) aNil))))
    (sSeq (sAsg (.nm 9) (mFrz (lDsp (aCons (mC (.str [])) (aCons (mC (.str [48])) (aCons (mC (.str [48, 48])) (aCons (mC (.str [48, 55])) (aCons (mC (.str [57, 57, 57])) (aCons (mC (.str [49, 48, 48, 48])) (aCons (mC (.str [45, 49])) (aCons (mC (.str [126])) (aCons (mC (.str [126, 46])) (aCons (mC (.str [126, 95])) (aCons (mC (.str [126, 120])) (aCons (mC (.str [97, 126, 46])) (aCons (mC (.str [126, 46, 126, 46])) (aCons (mC (.str [97, 115, 107])) (aCons (mC (.str [102, 105, 110, 100])) (aCons (mC (.str [119, 111, 114, 100])) aNil)))))))))))))))))))
    (sSeq (sAsg (.nm 9) (mFrz (lAdd (mVar 9) (mFrz (lDsp (aCons (mC (.str [101, 100, 105, 116])) (aCons (mC (.str [114, 101, 110, 97, 109, 101])) (aCons (mC (.str [114, 111, 119, 115])) (aCons (mC (.str [111, 112, 101, 110])) (aCons (mC (.str [115, 101, 116, 116, 108, 101])) (aCons (mC (.str [79, 112, 101, 110])) (aCons (mC (.str [111, 102, 102])) (aCons (mC (.str [98])) aNil)))))))))))))
    (sSeq (sAsg (.nm 7) (mFrz (lAdd (mFrz (lAdd (mFrz (lSlc (mVar 7) pNone (pSome (mVar 8)))) (mOp oIx (mFrz (lDsp (aCons (mFrz (lDsp aNil)) (aCons (mFrz (lMul (mFrz (lDsp (aCons (mOp oIx (mVar 7) (mVar 8)) aNil))) (mC (.int 2)))) (aCons (mFrz (lDsp (aCons (mOp oIx (mVar 9) (mCall (ck 2 G__law_drawn) (aCons (mVar 0) (aCons (mC (.int 24)) aNil)))) aNil))) aNil))))) (mOp oSub (mVar 2) (mC (.int 6)))))) (mFrz (lSlc (mVar 7) (pSome (mOp oAdd (mVar 8) (mC (.int 1)))) pNone)))))
    (sRet (mSm gJoin (mC (.str [10])) (mFrz (lAdd (mFrz (lAdd (mFrz (lSlc (mVar 5) pNone (pSome (mVar 6)))) (mFrz (lDsp (aCons (mSm gJoin (mC (.str [32])) (mVar 7)) aNil))))) (mFrz (lSlc (mVar 5) (pSome (mOp oAdd (mVar 6) (mC (.int 1)))) pNone)))))))))))))))))
def P__law_spoilt : FnM := fnM 10 2 M__law_spoilt
def T_s6 : MS :=
  (sSeq (sAsg (.nm 7) (mFrz (lSm gSplit (mOp oIx (mVar 5) (mVar 6)) (mC (.str [32])))))
    (sSeq (sAsg (.nm 8) (mCall (ck 2 G__law_drawn) (aCons (mVar 0) (aCons (mCB oLen (aCons (mVar 7) aNil)) aNil))))
    (sSeq (sAsg (.nm 9) (mFrz (lDsp (aCons (mC (.str [])) (aCons (mC (.str [48])) (aCons (mC (.str [48, 48])) (aCons (mC (.str [48, 55])) (aCons (mC (.str [57, 57, 57])) (aCons (mC (.str [49, 48, 48, 48])) (aCons (mC (.str [45, 49])) (aCons (mC (.str [126])) (aCons (mC (.str [126, 46])) (aCons (mC (.str [126, 95])) (aCons (mC (.str [126, 120])) (aCons (mC (.str [97, 126, 46])) (aCons (mC (.str [126, 46, 126, 46])) (aCons (mC (.str [97, 115, 107])) (aCons (mC (.str [102, 105, 110, 100])) (aCons (mC (.str [119, 111, 114, 100])) aNil)))))))))))))))))))
    (sSeq (sAsg (.nm 9) (mFrz (lAdd (mVar 9) (mFrz (lDsp (aCons (mC (.str [101, 100, 105, 116])) (aCons (mC (.str [114, 101, 110, 97, 109, 101])) (aCons (mC (.str [114, 111, 119, 115])) (aCons (mC (.str [111, 112, 101, 110])) (aCons (mC (.str [115, 101, 116, 116, 108, 101])) (aCons (mC (.str [79, 112, 101, 110])) (aCons (mC (.str [111, 102, 102])) (aCons (mC (.str [98])) aNil)))))))))))))
    (sSeq (sAsg (.nm 7) (mFrz (lAdd (mFrz (lAdd (mFrz (lSlc (mVar 7) pNone (pSome (mVar 8)))) (mOp oIx (mFrz (lDsp (aCons (mFrz (lDsp aNil)) (aCons (mFrz (lMul (mFrz (lDsp (aCons (mOp oIx (mVar 7) (mVar 8)) aNil))) (mC (.int 2)))) (aCons (mFrz (lDsp (aCons (mOp oIx (mVar 9) (mCall (ck 2 G__law_drawn) (aCons (mVar 0) (aCons (mC (.int 24)) aNil)))) aNil))) aNil))))) (mOp oSub (mVar 2) (mC (.int 6)))))) (mFrz (lSlc (mVar 7) (pSome (mOp oAdd (mVar 8) (mC (.int 1)))) pNone)))))
    (sRet (mSm gJoin (mC (.str [10])) (mFrz (lAdd (mFrz (lAdd (mFrz (lSlc (mVar 5) pNone (pSome (mVar 6)))) (mFrz (lDsp (aCons (mSm gJoin (mC (.str [32])) (mVar 7)) aNil))))) (mFrz (lSlc (mVar 5) (pSome (mOp oAdd (mVar 6) (mC (.int 1)))) pNone)))))))))))
def G__law_spoilt : FnM := fun vs μ Q _ => match vs with
  | [.ref a, .str t] => ∃ S N L, StA μ a ∧ TxI S N L t ∧ S ≤ 200 ∧ N ≤ 200 ∧ 2 * L + 20 ≤ 990000 ∧ ∀ t' μ', TxI (2 * S + 1) (N + 1) (2 * L + 20) t' → OnlyA a μ μ' → StA μ' a → Q (.str t') μ'
  | _ => False
theorem strsL (l : List (List Nat)) : strsOf (l.map Val.str) = some l := by
  have := strsOf_map (fun l : List Nat => l) l
  simpa using this
def sgσ (a : Nat) (t : List Nat) (way pt : Int) (x : List Nat) (s5 s6 s7 s8 s9 : Slot) : Lc := [.val (.ref a), .val (.str t), .val (.int way), .val (.int pt), .val (.str x), s5, s6, s7, s8, s9]
set_option maxHeartbeats 1000000 in
theorem s6_ok {μ : Sto} {a : Nat} {D : MEnds} {E : QX} {t x : List Nat} {way pt : Int} {k : Nat} {s7 s8 s9 : Slot} {S N L : Nat} {r : List Nat} (st : StA μ a) (h : TxI S N L t) (hS : S ≤ 200) (hN : N ≤ 200) (hL : 2 * L + 20 ≤ 990000) (w6 : 6 ≤ way) (w9 : way < 9) (hk : (spl 10 t)[k]? = some r) (q : ∀ t' μ', TxI (2 * S + 1) (N + 1) (2 * L + 20) t' → OnlyA a μ μ' → StA μ' a → D.rt (.str t') μ') : T_s6 D (sgσ a t way pt x (.val (.lst ((spl 10 t).map Val.str))) (.val (.int (k : Nat))) s7 s8 s9) μ E := by
  have hlm : lim = 1000000 := rfl
  have hsl : strLim = 1000000 := rfl
  obtain ⟨h1, h2, h3⟩ := tx_rows h
  obtain ⟨kl, ek⟩ := List.getElem?_eq_some_iff.mp hk
  obtain ⟨r10, r32⟩ := h3 r (List.mem_of_getElem? hk)
  have wl : (spl 32 r).length = cnt 32 r + 1 := spl_cnt r []
  have ak : atI ((spl 10 t).map Val.str) (k : Int) = some (.str r) := by
    rw [atI_nat' (by omega), Int.toNat_natCast, List.getElem?_map, hk]; rfl
  unfold T_s6 sgσ
  refine seq_asgM (v := .lst ((spl 32 r).map Val.str)) (μ' := μ) (fun K hK => ?_) ?_
  · simp [zEI, mFrz, ak]
    exact hK
  refine seq_asgR (fun v μ' => ∃ j : Nat, v = .int (j : Nat) ∧ j < (spl 32 r).length ∧ OnlyA a μ μ' ∧ StA μ' a) (fun K hK => ?_) ?_
  · simp [zEI]
    exact ⟨by omega, by omega, st, fun i μ1 i0 i1 o1 s1 => hK _ _ ⟨i.toNat, by rw [Int.toNat_of_nonneg i0], by omega, o1, s1⟩⟩
  rintro v μ1 ⟨j, rfl, hj, o1, st1⟩
  obtain ⟨w, hw⟩ : ∃ w, (spl 32 r)[j]? = some w := ⟨_, List.getElem?_eq_getElem hj⟩
  have aj : atI ((spl 32 r).map Val.str) (j : Int) = some (.str w) := by
    rw [atI_nat' (by omega), Int.toNat_natCast, List.getElem?_map, hw]; rfl
  refine seq_asgR (fun v μ' => ∃ od : List (List Nat), v = .lst (od.map Val.str) ∧ od.length = 16 ∧ (∀ x ∈ od, 10 ∉ x ∧ 32 ∉ x ∧ x.length ≤ 10) ∧ μ1 = μ') (fun K hK => ?_) ?_
  · simp [zEI, mFrz]
    refine ⟨by decide, hK _ _ ⟨[[], [48], [48, 48], [48, 55], [57, 57, 57], [49, 48, 48, 48], [45, 49], [126], [126, 46], [126, 95], [126, 120], [97, 126, 46], [126, 46, 126, 46], [97, 115, 107], [102, 105, 110, 100], [119, 111, 114, 100]], rfl, rfl, by decide, rfl⟩⟩
  rintro v μ' ⟨od1, rfl, ol1, oo1, rfl⟩
  refine seq_asgR (fun v μ' => ∃ od : List (List Nat), v = .lst (od.map Val.str) ∧ od.length = 24 ∧ (∀ x ∈ od, 10 ∉ x ∧ 32 ∉ x ∧ x.length ≤ 10) ∧ μ1 = μ') (fun K hK => ?_) ?_
  · simp [zEI, mFrz, ol1]
    refine ⟨by decide, ?_⟩
    have := hK (.lst ((od1 ++ ([[101, 100, 105, 116], [114, 101, 110, 97, 109, 101], [114, 111, 119, 115], [111, 112, 101, 110], [115, 101, 116, 116, 108, 101], [79, 112, 101, 110], [111, 102, 102], [98]] : List (List Nat))).map Val.str)) μ1 ⟨_, rfl, by rw [List.length_append, ol1]; rfl, fun x hx => ?_, rfl⟩
    · rw [List.map_append] at this
      exact ⟨by decide, this⟩
    · rcases List.mem_append.mp hx with hx | hx
      · exact oo1 x hx
      · exact (by decide : ∀ x ∈ ([[101, 100, 105, 116], [114, 101, 110, 97, 109, 101], [114, 111, 119, 115], [111, 112, 101, 110], [115, 101, 116, 116, 108, 101], [79, 112, 101, 110], [111, 102, 102], [98]] : List (List Nat)), 10 ∉ x ∧ 32 ∉ x ∧ x.length ≤ 10) x hx
  rintro v μ' ⟨od, rfl, ol, oo, rfl⟩
  have c1 : MW.cut ((spl 32 r).map Val.str) none (some (j : Int)) = ((spl 32 r).take j).map Val.str := by
    rw [cut_toN, List.map_take]
  have c2 : MW.cut ((spl 32 r).map Val.str) (some ((j : Int) + 1)) none = ((spl 32 r).drop (j + 1)).map Val.str := by
    rw [cut_from0 (by omega), show ((j : Int) + 1).toNat = j + 1 by omega, List.map_drop]
  have c3 : MW.cut ((spl 10 t).map Val.str) none (some (k : Int)) = ((spl 10 t).take k).map Val.str := by
    rw [cut_toN, List.map_take]
  have c4 : MW.cut ((spl 10 t).map Val.str) (some ((k : Int) + 1)) none = ((spl 10 t).drop (k + 1)).map Val.str := by
    rw [cut_from0 (by omega), show ((k : Int) + 1).toNat = k + 1 by omega, List.map_drop]
  have wsl : w.length + 1 ≤ sl (spl 32 r) := sl_mem (List.mem_of_getElem? hw)
  have rsl : sl (spl 32 r) = r.length + 1 := by unfold spl; rw [spl_sl, List.length_nil]; omega
  refine seq_asgR (fun v μ' => ∃ mid : List (List Nat), v = .lst (((spl 32 r).take j ++ mid ++ (spl 32 r).drop (j + 1)).map Val.str) ∧ mid.length ≤ 2 ∧ sl mid ≤ 2 * (w.length + 1) + 11 ∧ (∀ x ∈ mid, x ∈ spl 32 r ∨ (10 ∉ x ∧ 32 ∉ x)) ∧ OnlyA a μ μ' ∧ StA μ' a) (fun K hK => ?_) ?_
  · simp [zEI, mFrz, c1, c2, aj]
    refine ⟨by decide, by decide, ?_⟩
    rw [stop_is]
    refine ⟨by decide, by decide, st1, fun i μ2 i0 i1 o2 s2 => ?_⟩
    obtain ⟨ov, hov, eo⟩ := atI_in (l := od.map Val.str) i0 (by rw [List.length_map, ol]; exact i1)
    obtain ⟨oz, hoz, rfl⟩ := List.mem_map.mp hov
    have fin : ∀ mid : List (List Nat), mid.length ≤ 2 → sl mid ≤ 2 * (w.length + 1) + 11 → (∀ x ∈ mid, x ∈ spl 32 r ∨ (10 ∉ x ∧ 32 ∉ x)) → K (.lst (List.map Val.str (List.take j (spl 32 r)) ++ (List.map Val.str mid ++ List.map Val.str (List.drop (j + 1) (spl 32 r))))) μ2 := fun mid k1 k2 k3 => by
      have := hK (.lst (((spl 32 r).take j ++ mid ++ (spl 32 r).drop (j + 1)).map Val.str)) μ2 ⟨mid, rfl, k1, k2, k3, o1.trans o2, s2⟩
      rw [List.map_append, List.map_append, List.append_assoc] at this
      exact this
    have w678 : way = 6 ∨ way = 7 ∨ way = 8 := by omega
    rcases w678 with rfl | rfl | rfl
    · simp [zEI, eo, mFrz, c1, c2, aj]
      have := fin [] (by decide) (by simp [sl]) (fun x hx => by cases hx)
      exact ⟨by decide, by decide, by omega, by omega, by simpa [List.map_take, List.map_drop] using this⟩
    · simp [zEI, eo, mFrz, c1, c2, aj]
      have := fin [w, w] (by simp) (by simp [sl]; omega) (fun x hx => by simp at hx; subst hx; exact .inl (List.mem_of_getElem? hw))
      exact ⟨by decide, by decide, by omega, by omega, by simpa [List.map_take, List.map_drop] using this⟩
    · simp [zEI, eo, mFrz, c1, c2, aj]
      have := fin [oz] (by simp) (by simp [sl]; have := (oo oz hoz).2.2; omega) (fun x hx => by simp at hx; subst hx; exact .inr ⟨(oo x hoz).1, (oo x hoz).2.1⟩)
      exact ⟨by decide, by decide, by omega, by omega, by simpa [List.map_take, List.map_drop] using this⟩
  rintro v μ2 ⟨mid, rfl, m1, m2, m3, o2, st2⟩
  obtain ⟨t1, t2, t3⟩ := tx_words h hk hw m1 m2 m3
  have tl := t1.2.2
  simp [zEI, mFrz, c3, c4]
  have e1 : List.take j (List.map Val.str (spl 32 r)) ++ (List.map Val.str mid ++ List.drop (j + 1) (List.map Val.str (spl 32 r))) = ((spl 32 r).take j ++ mid ++ (spl 32 r).drop (j + 1)).map Val.str := by
    rw [List.map_append, List.map_append, List.map_take, List.map_drop, List.append_assoc]
  rw [e1, strsL]
  dsimp only
  have e2 : List.take k (List.map Val.str (spl 10 t)) ++ Val.str (TL.joinL [32] ((spl 32 r).take j ++ mid ++ (spl 32 r).drop (j + 1))) :: List.drop (k + 1) (List.map Val.str (spl 10 t)) = ((spl 10 t).take k ++ [TL.joinL [32] ((spl 32 r).take j ++ mid ++ (spl 32 r).drop (j + 1))] ++ (spl 10 t).drop (k + 1)).map Val.str := by
    simp [List.map_take, List.map_drop]
  rw [e2, strsL]
  refine ⟨by omega, by omega, by decide, by omega, by omega, by omega, ?_, q _ _ t1 o2 st2⟩
  rw [List.length_append, List.length_append, List.length_take, List.length_drop, List.length_singleton]
  omega
set_option maxHeartbeats 1000000 in
theorem GP__law_spoilt : ∀ vs μ Q E, vs.length = 2 → G__law_spoilt vs μ Q E → P__law_spoilt vs μ Q E := by
  intro vs μ Q E hl q
  unfold G__law_spoilt at q
  split at q
  rotate_left
  · exact q.elim
  rename_i a t
  obtain ⟨S, N, L, st, h, hS, hN, hL, q⟩ := q
  have hlm : lim = 1000000 := rfl
  have hsl : strLim = 1000000 := rfl
  have tl := h.2.2
  unfold P__law_spoilt M__law_spoilt fnM
  refine seq_parR (fun v w μ' => ∃ (way pt : Int), v = .int way ∧ w = .int pt ∧ 0 ≤ way ∧ way < 9 ∧ 0 ≤ pt ∧ pt ≤ t.length ∧ OnlyA a μ μ' ∧ StA μ' a) (fun K hK => ?_) ?_
  · simp [zEI]
    refine ⟨by decide, by decide, st, fun r μ1 r0 r1 o1 s1 => ?_⟩
    simp [zEI]
    exact ⟨by omega, by omega, s1, fun p μ2 p0 p1 o2 s2 => hK _ _ _ ⟨r, p, rfl, rfl, r0, r1, p0, by omega, o1.trans o2, s2⟩⟩
  rintro v w μ1 ⟨way, pt, rfl, rfl, w0, w9, p0, p1, o1, st1⟩
  refine seq_asgR (fun v μ' => ∃ c : Nat, v = .str [c] ∧ OnlyA a μ μ' ∧ StA μ' a) (fun K hK => ?_) ?_
  · simp [zEI, mFrz]
    refine ⟨by decide, by decide, st1, fun i μ2 i0 i1 o2 s2 => ?_⟩
    obtain ⟨c, hc, ec⟩ := atI_in (l := [48, 49, 50, 51, 52, 53, 54, 55, 56, 57, 32, 126, 46, 95, 47, 45]) i0 i1
    simp [zEI, mFrz, ec]
    refine ⟨s2, fun d μ3 hd o3 s3 => ?_⟩
    simp [zEI, mFrz]
    refine ⟨by decide, by decide, by decide, s3, fun z μ4 z0 z1 o4 s4 => ?_⟩
    have hz : z = 0 ∨ z = 1 := by omega
    rcases hz with rfl | rfl
    · simp [zEI]
      exact hK _ _ ⟨c, rfl, ((o1.trans o2).trans o3).trans o4, s4⟩
    · simp [zEI]
      exact hK _ _ ⟨d, rfl, ((o1.trans o2).trans o3).trans o4, s4⟩
  rintro v μ2 ⟨c, rfl, o2, st2⟩
  have fin : ∀ (x : List Nat) (i j : Nat), x.length ≤ 1 → i ≤ j → Q (.str (t.take i ++ (x ++ t.drop j))) μ2 := fun x i j hx hij => by
    rw [← List.append_assoc]
    exact q _ _ (tx_cut h hx hij) o2 st2
  have c1 : MW.cut t none (some pt) = t.take pt.toNat := cut_to0 p0
  have c2 : MW.cut t (some pt) none = t.drop pt.toNat := by rw [cut_from0 p0]
  have c3 : MW.cut t (some (pt + 1)) none = t.drop (pt.toNat + 1) := by rw [cut_from0 (by omega), show (pt + 1).toNat = pt.toNat + 1 by omega]
  refine seq_ifR (fun b μ' => μ2 = μ' ∧ b = decide (way < 3)) (fun K hK => ?_) (fun μ' z => ?_) (fun μ' z => ?_)
  · simp [zEI]
    exact hK _ _ ⟨rfl, rfl⟩
  · obtain ⟨rfl, z⟩ := z
    have z := of_decide_eq_true z.symm
    have w012 : way = 0 ∨ way = 1 ∨ way = 2 := by omega
    rcases w012 with rfl | rfl | rfl
    · simp [zEI, mFrz, c1, c2, c3]
      exact ⟨by decide, by omega, by omega, fin [c] pt.toNat pt.toNat (by simp) (Nat.le_refl _)⟩
    · simp [zEI, mFrz, c1, c2, c3]
      exact ⟨by decide, by omega, by omega, fin [] pt.toNat (pt.toNat + 1) (by simp) (by omega)⟩
    · simp [zEI, mFrz, c1, c2, c3]
      exact ⟨by decide, by omega, by omega, fin [c] pt.toNat (pt.toNat + 1) (by simp) (by omega)⟩
  obtain ⟨rfl, z⟩ := z
  have w3 : ¬ way < 3 := of_decide_eq_false z.symm
  refine seq_nil ?_
  obtain ⟨h1, h2, h3⟩ := tx_rows h
  refine seq_asgM (v := .lst ((spl 10 t).map Val.str)) (μ' := μ2) (fun K hK => ?_) ?_
  · simp [zEI, mFrz]
    exact hK
  have rl : 1 ≤ (spl 10 t).length := by unfold spl; rw [spl_cnt]; omega
  refine seq_asgR (fun v μ' => ∃ k : Nat, v = .int (k : Nat) ∧ k < (spl 10 t).length ∧ OnlyA a μ μ' ∧ StA μ' a) (fun K hK => ?_) ?_
  · simp [zEI]
    exact ⟨by omega, by omega, st2, fun i μ3 i0 i1 o3 s3 => hK _ _ ⟨i.toNat, by rw [Int.toNat_of_nonneg i0], by omega, o2.trans o3, s3⟩⟩
  rintro v μ3 ⟨k, rfl, hk, o3, st3⟩
  have d1 : MW.cut ((spl 10 t).map Val.str) none (some (k : Int)) = ((spl 10 t).take k).map Val.str := by
    rw [cut_toN, List.map_take]
  have d2 : MW.cut ((spl 10 t).map Val.str) (some ((k : Int) + 1)) none = ((spl 10 t).drop (k + 1)).map Val.str := by
    rw [cut_from0 (by omega), show ((k : Int) + 1).toNat = k + 1 by omega, List.map_drop]
  have d3 : MW.cut ((spl 10 t).map Val.str) none (some ((k : Int) + 1)) = ((spl 10 t).take (k + 1)).map Val.str := by
    rw [show ((k : Int) + 1) = ((k + 1 : Nat) : Int) by omega, cut_toN, List.map_take]
  have d4 : MW.cut ((spl 10 t).map Val.str) (some (k : Int)) none = ((spl 10 t).drop k).map Val.str := by
    rw [cut_from0 (by omega), Int.toNat_natCast, List.map_drop]
  have f1 := tx_less (k := k) h
  have f2 := tx_twice h hk
  have f3 := tx_turn (k := k) h
  refine seq_ifR (fun b μ' => μ3 = μ' ∧ b = decide (way < 6)) (fun K hK => ?_) (fun μ' z => ?_) (fun μ' z => ?_)
  · simp [zEI]
    exact hK _ _ ⟨rfl, rfl⟩
  · obtain ⟨rfl, z⟩ := z
    have z := of_decide_eq_true z.symm
    have w345 : way = 3 ∨ way = 4 ∨ way = 5 := by omega
    have l1 := f1.2.2
    have l2 := f2.2.2
    have l3 := f3.2.2
    have e1 : List.take k (List.map Val.str (spl 10 t)) ++ List.drop (k + 1) (List.map Val.str (spl 10 t)) = ((spl 10 t).take k ++ (spl 10 t).drop (k + 1)).map Val.str := by simp [List.map_take, List.map_drop]
    have e2 : List.take (k + 1) (List.map Val.str (spl 10 t)) ++ List.drop k (List.map Val.str (spl 10 t)) = ((spl 10 t).take (k + 1) ++ (spl 10 t).drop k).map Val.str := by simp [List.map_take, List.map_drop]
    have e3 : List.drop k (List.map Val.str (spl 10 t)) ++ List.take k (List.map Val.str (spl 10 t)) = ((spl 10 t).drop k ++ (spl 10 t).take k).map Val.str := by simp [List.map_take, List.map_drop]
    rcases w345 with rfl | rfl | rfl
    · simp [zEI, mFrz, d1, d2, d3, d4]
      refine ⟨by omega, by omega, by omega, by decide, ?_⟩
      rw [e1, strsL]
      exact ⟨by omega, by rw [List.length_append, List.length_take, List.length_drop]; omega, q _ _ f1 o3 st3⟩
    · simp [zEI, mFrz, d1, d2, d3, d4]
      refine ⟨by omega, by omega, by omega, by decide, ?_⟩
      rw [e2, strsL]
      exact ⟨by omega, by rw [List.length_append, List.length_take, List.length_drop]; omega, q _ _ f2 o3 st3⟩
    · simp [zEI, mFrz, d1, d2, d3, d4]
      refine ⟨by omega, by omega, by omega, by decide, ?_⟩
      rw [e3, strsL]
      exact ⟨by omega, by rw [List.length_append, List.length_drop, List.length_take]; omega, q _ _ f3 o3 st3⟩
  · obtain ⟨rfl, z⟩ := z
    have w6 : ¬ way < 6 := of_decide_eq_false z.symm
    refine seq_nil ?_
    exact s6_ok (s7 := .no) (s8 := .no) (s9 := .no) st3 h hS hN hL (by omega) w9 (List.getElem?_eq_getElem hk) fun t' μ' k1 k2 k3 => q t' μ' k1 (o3.trans k2) k3

/-! ### what the rows of a text tell -/
def stepV (r : List Nat) : Val := match stepF (spl 32 r) with
  | some v => v
  | none => .non
theorem partsF_kind : ∀ {f : List Nat} {ws : List (List Nat)} {vs : List Val}, partsF f ws = some vs → ∀ v ∈ vs, Sm 1 v
  | [], [], vs, h => by cases h; intro v hv; cases hv
  | [], _ :: _, _, h => by cases h
  | _ :: _, [], _, h => by cases h
  | c :: f, w :: ws, vs, h => by
    rw [partsF] at h
    split at h
    · rename_i v us h1 h2
      cases h
      intro x hx
      rcases List.mem_cons.mp hx with rfl | hx
      · unfold partF at h1
        split at h1
        · obtain ⟨n, _, rfl⟩ := Option.map_eq_some_iff.mp h1; trivial
        · obtain ⟨n, _, rfl⟩ := Option.map_eq_some_iff.mp h1; trivial
      · exact partsF_kind h2 x hx
    · cases h
theorem getD_sm {r : List Val} (h : ∀ v ∈ r, Sm 1 v) (i : Nat) : Sm 1 (r.getD i .non) := by
  rw [List.getD_eq_getElem?_getD]
  cases e : r[i]? with
  | none => trivial
  | some v => exact h v (List.mem_of_getElem? e)
theorem stepF_sm {ws : List (List Nat)} {v : Val} (hl : ws.length ≤ 1000) (h : stepF ws = some v) : Sm 5 v := by
  cases ws with
  | nil => cases h
  | cons w rest =>
    rw [List.length_cons] at hl
    rw [stepF_is] at h
    split at h
    · unfold editF at h
      split at h
      · rename_i n r hp
        cases h
        have hk := partsF_kind hp
        obtain ⟨k1, k2⟩ := partsF_length hp
        rw [List.length_cons, List.length_cons, edF_len] at k1
        have hr : r.length = 5 * (rest.length / 5) := by omega
        refine ⟨by simp, fun x hx => ?_⟩
        simp only [List.mem_cons, List.not_mem_nil, or_false] at hx
        rcases hx with rfl | rfl | rfl
        · trivial
        · exact (hk _ List.mem_cons_self).le (by decide)
        · rw [pairs5_is _ _ hr]
          refine ⟨by rw [List.length_map, List.length_range]; omega, fun y hy => ?_⟩
          obtain ⟨j, _, rfl⟩ := List.mem_map.mp hy
          have g : ∀ i, Sm 1 (r.getD i .non) := getD_sm fun v hv => hk v (List.mem_cons_of_mem _ hv)
          refine ⟨by simp, fun z hz => ?_⟩
          simp only [List.mem_cons, List.not_mem_nil, or_false] at hz
          rcases hz with rfl | rfl | rfl
          · refine ⟨by simp, fun u hu => ?_⟩
            simp only [List.mem_cons, List.not_mem_nil, or_false] at hu
            rcases hu with rfl | rfl <;> exact g _
          · refine ⟨by simp, fun u hu => ?_⟩
            simp only [List.mem_cons, List.not_mem_nil, or_false] at hu
            rcases hu with rfl | rfl <;> exact g _
          · exact (g _).le (by decide)
      · cases h
    split at h
    · match rest, h with
      | a :: k :: r, h =>
        cases hk : tGet tb_ASK_FORMS k with
        | none => simp only [askF, hk] at h; cases h
        | some f =>
          cases hp : partsF (110 :: f) (a :: r) with
          | none => simp only [askF, hk, hp] at h; cases h
          | some vs =>
            have hv := partsF_kind hp
            simp only [askF, hk, hp] at h
            have tri : ∀ {k : List Nat} {n : Val} {l : List Val}, l.length ≤ 3 → Sm 1 n → (∀ v ∈ l, Sm 2 v) → Sm 5 (.tup [.str [97, 115, 107], n, .tup (.str k :: l)]) := fun {k n l} h1 h2 h3 => by
              refine ⟨by simp, fun x hx => ?_⟩
              simp only [List.mem_cons, List.not_mem_nil, or_false] at hx
              rcases hx with rfl | rfl | rfl
              · trivial
              · exact h2.le (by decide)
              · refine ⟨by rw [List.length_cons]; omega, fun y hy => ?_⟩
                rcases List.mem_cons.mp hy with rfl | hy
                · trivial
                · exact (h3 y hy).le (by decide)
            rcases ask_key hk with ⟨rfl, rfl⟩ | ⟨rfl, rfl⟩ | ⟨rfl, rfl⟩ | ⟨rfl, rfl⟩
            · obtain ⟨x, y, rfl⟩ := partsF_two hp
              cases h
              exact tri (by simp) (hv _ (by simp)) fun v hm => (hv v (by simp at hm; simp [hm])).le (by decide)
            · obtain ⟨x, y, rfl⟩ := partsF_two hp
              cases h
              exact tri (by simp) (hv _ (by simp)) fun v hm => (hv v (by simp at hm; simp [hm])).le (by decide)
            · obtain ⟨x, y, z, rfl⟩ := partsF_three hp
              cases h
              refine tri (by simp) (hv _ (by simp)) fun v hm => ?_
              simp at hm
              subst hm
              refine ⟨by simp, fun u hu => ?_⟩
              simp at hu
              rcases hu with rfl | rfl <;> exact hv _ (by simp)
            · obtain ⟨x, y, z, u, rfl⟩ := partsF_four hp
              cases h
              refine tri (by simp) (hv _ (by simp)) fun v hm => ?_
              simp at hm
              rcases hm with rfl | rfl
              · refine ⟨by simp, fun u hu => ?_⟩
                simp at hu
                rcases hu with rfl | rfl <;> exact hv _ (by simp)
              · exact (hv _ (by simp)).le (by decide)
    split at h
    · rename_i f hf
      split at h
      · rename_i vs hp
        cases h
        have hv := partsF_kind hp
        obtain ⟨p, h3, rfl⟩ := tGet_mem hf
        have h4 := (by decide : ∀ q ∈ tb_STEP_FORMS, q.2.length ≤ 3) p h3
        have k1 := (partsF_length hp).1
        refine ⟨by rw [List.length_cons]; omega, fun x hx => ?_⟩
        rcases List.mem_cons.mp hx with rfl | hx
        · trivial
        · exact (hv x hx).le (by decide)
      · cases h
    · cases h
theorem stepV_sm {r : List Nat} (hl : (spl 32 r).length ≤ 1000) : Sm 5 (stepV r) := by
  unfold stepV
  cases h : stepF (spl 32 r) with
  | none => trivial
  | some v => exact stepF_sm hl h
theorem rowsF_ok : ∀ {rs : List (List Nat)} {i : Nat} {vs : List Val}, rowsF i rs = .ok vs → vs = rs.map stepV ∧ ∀ r ∈ rs, ∃ us, stepV r = .tup us
  | [], i, vs, h => by cases h; exact ⟨rfl, fun r hr => by cases hr⟩
  | r :: rs, i, vs, h => by
    rw [rowsF] at h
    cases hs : stepF (spl 32 r) with
    | none => rw [hs] at h; cases h
    | some v =>
      rw [hs] at h
      cases hq : rowsF (i + 1) rs with
      | error n => simp only [hq] at h; cases h
      | ok us =>
        simp only [hq] at h
        cases h
        obtain ⟨k1, k2⟩ := rowsF_ok hq
        have hv : stepV r = v := by unfold stepV; rw [hs]
        refine ⟨by rw [List.map_cons, ← k1, hv], fun x hx => ?_⟩
        rcases List.mem_cons.mp hx with rfl | hx
        · rw [hv]; exact stepF_tup hs
        · exact k2 x hx
theorem rowsF_err : ∀ {rs : List (List Nat)} {i n : Nat}, rowsF i rs = .error n → ∃ a r b, rs = a ++ r :: b ∧ n = i + a.length ∧ (∀ x ∈ a, ∃ us, stepV x = .tup us) ∧ stepV r = .non
  | [], i, n, h => by cases h
  | r :: rs, i, n, h => by
    rw [rowsF] at h
    cases hs : stepF (spl 32 r) with
    | none =>
      rw [hs] at h
      cases h
      exact ⟨[], r, rs, rfl, rfl, fun x hx => (by cases hx), by unfold stepV; rw [hs]⟩
    | some v =>
      rw [hs] at h
      cases hq : rowsF (i + 1) rs with
      | ok us => simp only [hq] at h; cases h
      | error m =>
        simp only [hq] at h
        cases h
        obtain ⟨a, r', b, k1, k2, k3, k4⟩ := rowsF_err hq
        have hv : stepV r = v := by unfold stepV; rw [hs]
        refine ⟨r :: a, r', b, by rw [k1]; rfl, by rw [List.length_cons]; omega, fun x hx => ?_, k4⟩
        rcases List.mem_cons.mp hx with rfl | hx
        · rw [hv]; exact stepF_tup hs
        · exact k3 x hx
theorem deeps_at {μ : Sto} {n : Nat} : ∀ {vs : List Val} {ds : List PyData}, deeps μ n vs = some ds → ds.length = vs.length ∧ ∀ (i : Nat) (v : Val), vs[i]? = some v → ∃ d, ds[i]? = some d ∧ deep μ n v = some d
  | [], ds, h => by rw [deeps_nil] at h; cases h; exact ⟨rfl, fun i v hv => by simp at hv⟩
  | v :: vs, ds, h => by
    rw [deeps_cons] at h
    obtain ⟨d, h1, h2⟩ := Option.bind_eq_some_iff.mp h
    obtain ⟨r, h3, rfl⟩ := Option.map_eq_some_iff.mp h2
    obtain ⟨k1, k2⟩ := deeps_at h3
    refine ⟨by rw [List.length_cons, List.length_cons, k1], fun i w hw => ?_⟩
    cases i with
    | zero => cases hw; exact ⟨d, rfl, h1⟩
    | succ i => exact k2 i w hw
theorem tup_none {μ : Sto} {n : Nat} {us : List Val} {d : PyData} (h : deep μ (n + 1) (.tup us) = some d) : PyData.eqv d .none = false := by
  rw [deep_tup] at h
  obtain ⟨ds, _, rfl⟩ := Option.map_eq_some_iff.mp h
  simp [PyData.eqv]
theorem non_none {μ : Sto} {n : Nat} {d : PyData} (h : deep μ n .non = some d) : PyData.eqv d .none = true := by
  rw [deep_non] at h
  cases h
  simp [PyData.eqv]

/-! ### the law -/
def SL (μ : Sto) (a : Nat) : Prop := StA μ a ∧ a < μ.n
theorem SL.gr {μ μ' : Sto} {a : Nat} (h : SL μ a) (g : Gr μ μ') : SL μ' a := ⟨h.1.same (g.2 a h.2), Nat.lt_of_lt_of_le h.2 g.1⟩
theorem SL.only {μ μ' : Sto} {a : Nat} (h : SL μ a) (o : OnlyA a μ μ') (st : StA μ' a) : SL μ' a := ⟨st, by rw [o.1]; exact h.2⟩
theorem Gr.of {μ μ' : Sto} (h1 : μ'.n = μ.n + 1) (h2 : ∀ b, b ≠ μ.n → μ'.o b = μ.o b) : Gr μ μ' := ⟨by omega, fun b hb => h2 b (by omega)⟩
theorem one_ifR {t : MT} {a c : MS} {D : MEnds} {σ : Lc} {μ : Sto} {E : QX} (R : Bool → Sto → Prop) (ht : ∀ K : Bool → Sto → Prop, (∀ b μ', R b μ' → K b μ') → t σ μ K E) (h1 : ∀ μ', R true μ' → a D σ μ' E) (h2 : ∀ μ', R false μ' → c D σ μ' E) : sIf t a c D σ μ E := by
  unfold sIf
  refine ht _ fun b μ' h => ?_
  cases b with
  | true => rw [if_pos rfl]; exact h1 μ' h
  | false => rw [if_neg (by decide)]; exact h2 μ' h
def T0 (t : List Nat) : Prop := TxI 11 23 120024 t
theorem text_T0 {ss : List Wst} (h : ∀ s ∈ ss, s.ok) (hl : ss.length ≤ 24) : T0 (textOf ss) := by
  unfold T0 textOf
  refine ⟨join_mx _ fun r hr => ?_, ?_, ?_⟩
  · obtain ⟨s, hs, rfl⟩ := List.mem_map.mp hr
    refine ⟨row_10 (h s hs), ?_⟩
    obtain ⟨k1, k2⟩ := sp_good (h s hs)
    have := join_cnt (d := 32) (s.k :: s.w) fun x hx z => ((k2 x hx).1 32 z).1 rfl
    unfold rowOf
    omega
  · have := join_cnt (d := 10) (ss.map rowOf) fun r hr => by
      obtain ⟨s, hs, rfl⟩ := List.mem_map.mp hr
      exact row_10 (h s hs)
    rw [List.length_map] at this
    omega
  · have := join_len (d := 10) (m := 5000) (ws := ss.map rowOf) fun x hx => by
      obtain ⟨s, hs, rfl⟩ := List.mem_map.mp hx
      exact row_len (h s hs)
    rw [List.length_map] at this
    have h3 : ss.length * (5000 + 1) ≤ 24 * 5001 := Nat.mul_le_mul_right _ hl
    omega
def someF : List (List Nat) := [[], [10], [99, 97, 114, 114, 121, 32], [32, 99, 97, 114, 114, 121], [97, 115, 107, 32, 49, 32, 102, 105, 110, 100], [97, 115, 107, 32, 49, 32, 119, 111, 114, 100, 32, 48], [101, 100, 105, 116], [101, 100, 105, 116, 32, 49], [101, 100, 105, 116, 32, 49, 32, 48, 32, 48, 32, 48, 32, 48], [111, 112, 101, 110, 32, 49, 32, 126], [111, 112, 101, 110, 32, 49, 32, 97, 32, 98], [111, 112, 101, 110, 32, 49, 32, 126, 46, 126, 46], [97, 115, 107, 32, 49, 32, 114, 101, 110, 97, 109, 101, 32, 48, 32, 48], [99, 108, 111, 115, 101], [111, 102, 102, 32, 49, 32, 49], [101, 100, 105, 116, 32, 49, 32, 48, 32, 48, 32, 48, 32, 48, 32, 126, 46, 32, 48]]
theorem some_T0 : ∀ t ∈ someF, T0 t := by
  have : ∀ t ∈ someF, mx 0 t ≤ 11 ∧ cnt 10 t ≤ 23 ∧ t.length ≤ 120024 := by decide
  exact this
/- behind so many changes -/
def TJ : Nat → List Nat → Prop
  | 0, t => TxI 11 23 120024 t
  | 1, t => TxI 23 24 240068 t
  | 2, t => TxI 47 25 480156 t
  | _, t => TxI 95 26 960332 t
theorem TJ.top : ∀ {j : Nat} {t : List Nat}, TJ j t → TxI 95 26 960332 t
  | 0, t, h => tx_up h (by decide) (by decide) (by decide)
  | 1, t, h => tx_up h (by decide) (by decide) (by decide)
  | 2, t, h => tx_up h (by decide) (by decide) (by decide)
  | _ + 3, t, h => h
theorem TJ.step {j : Nat} {t : List Nat} (h : TJ j t) (hj : j < 3) : ∃ S N L, TxI S N L t ∧ S ≤ 200 ∧ N ≤ 200 ∧ 2 * L + 20 ≤ 990000 ∧ ∀ t', TxI (2 * S + 1) (N + 1) (2 * L + 20) t' → TJ (j + 1) t' := by
  match j, hj, h with
  | 0, _, h => exact ⟨11, 23, 120024, h, by decide, by decide, by decide, fun t' h => h⟩
  | 1, _, h => exact ⟨23, 24, 240068, h, by decide, by decide, by decide, fun t' h => h⟩
  | 2, _, h => exact ⟨47, 25, 480156, h, by decide, by decide, by decide, fun t' h => h⟩
theorem top_rows {t : List Nat} (h : TxI 95 26 960332 t) : (spl 10 t).length ≤ 27 ∧ ∀ r ∈ spl 10 t, (spl 32 r).length ≤ 96 ∧ ∀ w ∈ spl 32 r, w.length ≤ 990000 := by
  obtain ⟨h1, h2, h3⟩ := tx_rows h
  refine ⟨h1, fun r hr => ?_⟩
  have k := (h3 r hr).2
  have rl := sl_mem hr
  have wl : (spl 32 r).length = cnt 32 r + 1 := spl_cnt r []
  have wsl : sl (spl 32 r) = r.length + 1 := by unfold spl; rw [spl_sl, List.length_nil]; omega
  refine ⟨by omega, fun w hw => ?_⟩
  have := sl_mem hw
  omega
def M_law : MS :=
  (sSeq (sAsg (.nm 1) (mCall (ck 1 G__law_start) (aCons (mVar 0) aNil)))
    (sSeq (sAsg (.nm 2) (mFrz (lDsp (aCons (mC (.str [])) (aCons (mC (.str [10])) (aCons (mC (.str [99, 97, 114, 114, 121, 32])) (aCons (mC (.str [32, 99, 97, 114, 114, 121])) (aCons (mC (.str [97, 115, 107, 32, 49, 32, 102, 105, 110, 100])) (aCons (mC (.str [97, 115, 107, 32, 49, 32, 119, 111, 114, 100, 32, 48])) (aCons (mC (.str [101, 100, 105, 116])) (aCons (mC (.str [101, 100, 105, 116, 32, 49])) (aCons (mC (.str [101, 100, 105, 116, 32, 49, 32, 48, 32, 48, 32, 48, 32, 48])) (aCons (mC (.str [111, 112, 101, 110, 32, 49, 32, 126])) aNil)))))))))))))
    (sSeq (sAsg (.nm 2) (mFrz (lAdd (mVar 2) (mFrz (lDsp (aCons (mC (.str [111, 112, 101, 110, 32, 49, 32, 97, 32, 98])) (aCons (mC (.str [111, 112, 101, 110, 32, 49, 32, 126, 46, 126, 46])) (aCons (mC (.str [97, 115, 107, 32, 49, 32, 114, 101, 110, 97, 109, 101, 32, 48, 32, 48])) (aCons (mC (.str [99, 108, 111, 115, 101])) (aCons (mC (.str [111, 102, 102, 32, 49, 32, 49])) (aCons (mC (.str [101, 100, 105, 116, 32, 49, 32, 48, 32, 48, 32, 48, 32, 48, 32, 126, 46, 32, 48])) aNil)))))))))))
    (sSeq (sFor (iRg1 (mC (.int 6))) (.nm 3)
    (sSeq (sAsg (.nm 4) (mCall (ck 1 G_written) (aCons (mCall (ck 2 G__law_play) (aCons (mVar 1) (aCons (mC (.int 10)) aNil))) aNil)))
    (sSeq (sIf (mB (mOp oEq (mCall (ck 2 G__law_drawn) (aCons (mVar 1) (aCons (mC (.int 4)) aNil))) (mC (.int 0))))
    (sAsg (.nm 4) (mOp oIx (mVar 2) (mCall (ck 2 G__law_drawn) (aCons (mVar 1) (aCons (mC (.int 16)) aNil)))))
    sNil)
    (sSeq (sFor (iRg1 (mCall (ck 2 G__law_drawn) (aCons (mVar 1) (aCons (mC (.int 4)) aNil)))) (.nm 5)
    (sAsg (.nm 4) (mCall (ck 2 G__law_spoilt) (aCons (mVar 1) (aCons (mVar 4) aNil)))))
    (sSeq (sAsg (.nm 6) (mIfE (mB (mOp oNe (mVar 4) (mC (.str [])))) (mFrz (lComp (iLst (mFrz (lSm gSplit (mVar 4) (mC (.str [10]))))) (.nm 8) [8] mYes (mCall (ck 1 G__law_row) (aCons (mVar 8) aNil)))) (mFrz (lDsp aNil))))
    (sSeq (sAsg (.nm 7) (mIfE (mB (mOp oInD (mC .non) (mVar 6))) (mTup (aCons (mC (.str [66, 97, 100, 84, 101, 120, 116])) (aCons (mIndexD (mVar 6) (mC .non)) aNil))) (mVar 6)))
    (sIf (mNotT (mB (mCall (ck 2 G__law_same) (aCons (mWord (mCall (ck 1 G_read) (aCons (mVar 4) aNil))) (aCons (mVar 7) aNil)))))
    (sRet (mC (.bl false)))
    sNil)))))))
    (sRet (mC (.bl true)))))))
def P_law : FnM := fnM 9 1 M_law
def T_b : MS :=
  (sSeq (sAsg (.nm 4) (mCall (ck 1 G_written) (aCons (mCall (ck 2 G__law_play) (aCons (mVar 1) (aCons (mC (.int 10)) aNil))) aNil)))
    (sSeq (sIf (mB (mOp oEq (mCall (ck 2 G__law_drawn) (aCons (mVar 1) (aCons (mC (.int 4)) aNil))) (mC (.int 0))))
    (sAsg (.nm 4) (mOp oIx (mVar 2) (mCall (ck 2 G__law_drawn) (aCons (mVar 1) (aCons (mC (.int 16)) aNil)))))
    sNil)
    (sSeq (sFor (iRg1 (mCall (ck 2 G__law_drawn) (aCons (mVar 1) (aCons (mC (.int 4)) aNil)))) (.nm 5)
    (sAsg (.nm 4) (mCall (ck 2 G__law_spoilt) (aCons (mVar 1) (aCons (mVar 4) aNil)))))
    (sSeq (sAsg (.nm 6) (mIfE (mB (mOp oNe (mVar 4) (mC (.str [])))) (mFrz (lComp (iLst (mFrz (lSm gSplit (mVar 4) (mC (.str [10]))))) (.nm 8) [8] mYes (mCall (ck 1 G__law_row) (aCons (mVar 8) aNil)))) (mFrz (lDsp aNil))))
    (sSeq (sAsg (.nm 7) (mIfE (mB (mOp oInD (mC .non) (mVar 6))) (mTup (aCons (mC (.str [66, 97, 100, 84, 101, 120, 116])) (aCons (mIndexD (mVar 6) (mC .non)) aNil))) (mVar 6)))
    (sIf (mNotT (mB (mCall (ck 2 G__law_same) (aCons (mWord (mCall (ck 1 G_read) (aCons (mVar 4) aNil))) (aCons (mVar 7) aNil)))))
    (sRet (mC (.bl false)))
    sNil))))))
def T_b2 : MS :=
  (sSeq (sFor (iRg1 (mCall (ck 2 G__law_drawn) (aCons (mVar 1) (aCons (mC (.int 4)) aNil)))) (.nm 5)
    (sAsg (.nm 4) (mCall (ck 2 G__law_spoilt) (aCons (mVar 1) (aCons (mVar 4) aNil)))))
    (sSeq (sAsg (.nm 6) (mIfE (mB (mOp oNe (mVar 4) (mC (.str [])))) (mFrz (lComp (iLst (mFrz (lSm gSplit (mVar 4) (mC (.str [10]))))) (.nm 8) [8] mYes (mCall (ck 1 G__law_row) (aCons (mVar 8) aNil)))) (mFrz (lDsp aNil))))
    (sSeq (sAsg (.nm 7) (mIfE (mB (mOp oInD (mC .non) (mVar 6))) (mTup (aCons (mC (.str [66, 97, 100, 84, 101, 120, 116])) (aCons (mIndexD (mVar 6) (mC .non)) aNil))) (mVar 6)))
    (sIf (mNotT (mB (mCall (ck 2 G__law_same) (aCons (mWord (mCall (ck 1 G_read) (aCons (mVar 4) aNil))) (aCons (mVar 7) aNil)))))
    (sRet (mC (.bl false)))
    sNil))))
def T_b4 : MS :=
  (sSeq (sAsg (.nm 6) (mIfE (mB (mOp oNe (mVar 4) (mC (.str [])))) (mFrz (lComp (iLst (mFrz (lSm gSplit (mVar 4) (mC (.str [10]))))) (.nm 8) [8] mYes (mCall (ck 1 G__law_row) (aCons (mVar 8) aNil)))) (mFrz (lDsp aNil))))
    (sSeq (sAsg (.nm 7) (mIfE (mB (mOp oInD (mC .non) (mVar 6))) (mTup (aCons (mC (.str [66, 97, 100, 84, 101, 120, 116])) (aCons (mIndexD (mVar 6) (mC .non)) aNil))) (mVar 6)))
    (sIf (mNotT (mB (mCall (ck 2 G__law_same) (aCons (mWord (mCall (ck 1 G_read) (aCons (mVar 4) aNil))) (aCons (mVar 7) aNil)))))
    (sRet (mC (.bl false)))
    sNil)))
def lσ (x0 : Slot) (a : Nat) (s2 s3 s4 s5 s6 s7 s8 : Slot) : Lc := [x0, .val (.ref a), s2, s3, s4, s5, s6, s7, s8]
/- what is read, beside the law's own rows -/
theorem b4_ok {μ : Sto} {a : Nat} {D : MEnds} {E : QX} {x0 s2 s3 s5 s6 s7 : Slot} {t : List Nat} (h : SL μ a) (ht : TxI 95 26 960332 t) (q : ∀ μ' s6 s7, SL μ' a → D.nx (lσ x0 a s2 s3 (.val (.str t)) s5 s6 s7 .no) μ') : T_b4 D (lσ x0 a s2 s3 (.val (.str t)) s5 s6 s7 .no) μ E := by
  have hlm : lim = 1000000 := rfl
  have hsl : strLim = 1000000 := rfl
  obtain ⟨hr1, hr2⟩ := top_rows ht
  unfold T_b4 lσ
  obtain ⟨rs, hrs⟩ : ∃ rs : List (List Nat), rs = if t = [] then [] else spl 10 t := ⟨_, rfl⟩
  have rsl : rs.length ≤ 27 := by
    rw [hrs]
    split
    · exact Nat.zero_le _
    · exact hr1
  have rsw : ∀ r ∈ rs, (spl 32 r).length ≤ 96 ∧ ∀ w ∈ spl 32 r, w.length ≤ 990000 := fun r hr => by
    rw [hrs] at hr
    split at hr
    · cases hr
    · exact hr2 r hr
  refine seq_asgR (fun v μ' => v = .lst (rs.map stepV) ∧ SL μ' a) (fun K hK => ?_) ?_
  · by_cases h0 : t = []
    · rw [if_pos h0] at hrs
      subst h0
      simp [zEI, mFrz]
      rw [hrs] at hK
      exact hK _ _ ⟨rfl, h⟩
    · rw [if_neg h0] at hrs
      simp [zEI, mFrz, h0]
      unfold lComp iLst
      simp [zEI]
      rw [← hrs]
      refine lcL_ind (fun vs acc μ' => ∃ l r, rs = l ++ r ∧ vs = r.map Val.str ∧ acc = l.map stepV ∧ SL μ' a) (fun acc μ' => ?_) (fun v vs acc μ' => ?_) _ _ _ ⟨[], rs, rfl, rfl, rfl, h⟩
      · rintro ⟨l, r, e1, e2, rfl, e4⟩
        have hr : r = [] := by cases r <;> first | rfl | cases e2
        subst hr
        rw [List.append_nil] at e1
        subst e1
        exact ⟨trivial, hK _ _ ⟨rfl, e4⟩⟩
      · rintro ⟨l, r, e1, e2, rfl, e4⟩
        cases r with
        | nil => cases e2
        | cons r0 r =>
          rw [List.map_cons] at e2
          injection e2 with e2 e3
          subst e2 e3
          obtain ⟨k1, k2⟩ := rsw r0 (by rw [e1]; exact List.mem_append_right _ List.mem_cons_self)
          refine ⟨trivial, _, mt_nm _ _ _, fun K' hK' => ?_⟩
          simp [zEI, wipeM, hideM]
          try rw [stop_is]
          exact ⟨by omega, k2, fun μ2 g2 => hK' _ _ ⟨l ++ [r0], r, by rw [e1]; simp, rfl, by rw [List.map_append]; rfl, e4.gr g2⟩⟩
  rintro v μ1 ⟨rfl, h1⟩
  have sm : Sm 6 (.lst (rs.map stepV)) := ⟨by rw [List.length_map]; omega, fun w hw => by
    obtain ⟨r, hr, rfl⟩ := List.mem_map.mp hw
    exact stepV_sm (by have := (rsw r hr).1; omega)⟩
  -- what read tells
  obtain ⟨d, hd⟩ := (sm.le (show 6 ≤ 60 by decide)).deep
  obtain ⟨ds, hds⟩ : ∃ ds, deeps μ1 59 (rs.map stepV) = some ds := by
    have := hd μ1
    rw [show (60 : Nat) = 59 + 1 from rfl, deep_lst] at this
    obtain ⟨ds, h1, _⟩ := Option.map_eq_some_iff.mp this
    exact ⟨ds, h1⟩
  obtain ⟨dl, da⟩ := deeps_at hds
  have hrd : readF t = rowsF 0 rs := by
    unfold readF
    rw [hrs]
    split
    · rfl
    · rfl
  have rdy : (spl 10 t).length ≤ 100 ∧ ∀ r ∈ spl 10 t, wsOk (spl 32 r) := ⟨by omega, fun r hr => ⟨by have := (hr2 r hr).1; omega, (hr2 r hr).2⟩⟩
  cases hq : rowsF 0 rs with
  | ok vs =>
    rw [hq] at hrd
    obtain ⟨rfl, hall⟩ := rowsF_ok hq
    have hno : (ds.any fun z => PyData.eqv z .none) = false := by
      rw [List.any_eq_false]
      intro z hz
      obtain ⟨i, hi⟩ := List.getElem?_of_mem hz
      have il : i < rs.length := by rw [← List.length_map (f := stepV), ← dl]; exact (List.getElem?_eq_some_iff.mp hi).1
      obtain ⟨e, h3, h4⟩ := da i (stepV rs[i]) (by rw [List.getElem?_map, List.getElem?_eq_getElem il]; rfl)
      rw [hi] at h3
      cases h3
      obtain ⟨us, hus⟩ := hall _ (List.getElem_mem il)
      rw [hus] at h4
      rw [tup_none h4]
      decide
    refine seq_asgM (v := .lst (rs.map stepV)) (μ' := μ1) (fun K hK => ?_) ?_
    · simp [zEI, hds, hno]
      exact hK
    refine one_ifR (fun b μ' => b = false ∧ SL μ' a) (fun K hK => ?_) (fun μ' z => by cases z.1) ?_
    · unfold mWord
      simp [zEI]
      refine ⟨rdy.1, rdy.2, ?_⟩
      rw [hrd]
      intro μ2 k1 k2 k3
      simp [zEI]
      rw [stop_is]
      refine samN_call (n := 9) ?_ (by simpa using hK _ _ ⟨rfl, h1.gr (.of k2 k3)⟩)
      have := ((sm.le (show 6 ≤ 9 by decide)).eqR (μ := μ2))
      unfold eqR at this ⊢
      obtain ⟨vs, e1, e2⟩ := this
      cases e1
      exact ⟨_, by simp [seqL, k1], e2⟩
    rintro μ2 ⟨_, h2⟩
    exact q _ _ _ h2
  | error n =>
    rw [hq] at hrd
    obtain ⟨a1, r1, b1, e1, e2, e3, e4⟩ := rowsF_err hq
    have hn : n = a1.length := by omega
    subst hn
    have il : a1.length < rs.length := by rw [e1, List.length_append, List.length_cons]; omega
    have hat : ∀ (i : Nat) (r : List Nat), rs[i]? = some r → ∃ d, ds[i]? = some d ∧ deep μ1 59 (stepV r) = some d := fun i r hr => da i (stepV r) (by rw [List.getElem?_map, hr]; rfl)
    obtain ⟨z, hz, hz2⟩ := hat a1.length r1 (by rw [e1, List.getElem?_append_right (Nat.le_refl _), Nat.sub_self]; rfl)
    rw [e4] at hz2
    have hz3 := non_none hz2
    have hany : (ds.any fun z => PyData.eqv z .none) = true := List.any_eq_true.mpr ⟨z, List.mem_of_getElem? hz, hz3⟩
    have hno : ∀ (m : Nat) (z' : PyData), m < a1.length → ds[m]? = some z' → PyData.eqv z' .none = false := fun m z' hm hz' => by
      have hr : rs[m]? = some a1[m] := by rw [e1, List.getElem?_append_left hm, List.getElem?_eq_getElem hm]
      obtain ⟨e, h3, h4⟩ := hat m _ hr
      rw [hz'] at h3
      cases h3
      obtain ⟨us, hus⟩ := e3 _ (List.getElem_mem hm)
      rw [hus] at h4
      exact tup_none h4
    refine seq_asgM (v := .tup [.str [66, 97, 100, 84, 101, 120, 116], .int (a1.length : Nat)]) (μ' := μ1) (fun K hK => ?_) ?_
    · simp [zEI, hds, hany]
      exact ⟨a1.length, z, hz, hz3, hno, by decide, hK⟩
    refine one_ifR (fun b μ' => b = false ∧ SL μ' a) (fun K hK => ?_) (fun μ' z => by cases z.1) ?_
    · unfold mWord
      simp [zEI]
      refine ⟨rdy.1, rdy.2, ?_⟩
      rw [hrd]
      intro μ2 k2 k3
      have hw : wordOf { c := Cl.BadText, f := some (Fd.row, (a1.length : Int)) } = some (13, (a1.length : Int)) := rfl
      rw [hw]
      dsimp only
      try rw [stop_is]
      have hv : wordV 13 (a1.length : Nat) = .tup [.str [66, 97, 100, 84, 101, 120, 116], .int (a1.length : Nat)] := by
        unfold wordV
        rw [show nameL 13 = [66, 97, 100, 84, 101, 120, 116] by decide +kernel]
      simp [zEI]
      rw [hv]
      try rw [stop_is]
      refine samN_call (n := 9) (Sm.eqR ⟨by simp, fun w hw => ?_⟩) (by simpa using hK _ _ ⟨rfl, h1.gr (.of k2 k3)⟩)
      simp at hw
      rcases hw with rfl | rfl <;> trivial
    rintro μ2 ⟨_, h2⟩
    exact q _ _ _ h2
theorem seq_ifL {t : MT} {a c rest : MS} {D : MEnds} {σ : Lc} {μ : Sto} {E : QX} (R : Bool → Sto → Prop) (ht : ∀ K : Bool → Sto → Prop, (∀ b μ', R b μ' → K b μ') → t σ μ K E) (h1 : ∀ μ', R true μ' → a { D with nx := fun σ' μ' => rest D σ' μ' E } σ μ' E) (h2 : ∀ μ', R false μ' → c { D with nx := fun σ' μ' => rest D σ' μ' E } σ μ' E) : sSeq (sIf t a c) rest D σ μ E := seq_ifR R ht h1 h2
theorem for_rgA {m : ME} {t : Tg} {b : MS} {D : MEnds} {σ : Lc} {μ : Sto} {E : QX} (P : Int → Sto → Prop) (hm : ∀ K : QV, (∀ n μ', P n μ' → K (.int n) μ') → m σ μ K E) (q : ∀ n μ', P n μ' → n ≤ lim ∧ -(lim : Int) ≤ n ∧ forL t b (fun _ => True) E D (rng 0 n) σ μ') : sFor (iRg1 m) t b D σ μ E := rg_of P hm q
theorem one_asgR {m : ME} {i : Nat} {D : MEnds} {σ : Lc} {μ : Sto} {E : QX} (R : Val → Sto → Prop) (hm : ∀ K : QV, (∀ v μ', R v μ' → K v μ') → m σ μ K E) (hr : ∀ v μ', R v μ' → D.nx (σ.set i (.val v)) μ') : sAsg (.nm i) m D σ μ E := by
  unfold sAsg
  refine hm _ fun v μ' h => ?_
  simp only [mt_nm]
  exact hr v μ' h
/- the changes, and what comes behind -/
theorem b2_ok {μ : Sto} {a : Nat} {D : MEnds} {E : QX} {x0 s2 s3 s5 s6 s7 : Slot} {t : List Nat} (h : SL μ a) (ht : T0 t) (q : ∀ μ' s4 s5 s6 s7, SL μ' a → D.nx (lσ x0 a s2 s3 s4 s5 s6 s7 .no) μ') : T_b2 D (lσ x0 a s2 s3 (.val (.str t)) s5 s6 s7 .no) μ E := by
  have hlm : lim = 1000000 := rfl
  unfold T_b2
  refine seq_for ?_
  refine for_rgA (fun n μ' => 0 ≤ n ∧ n ≤ 3 ∧ SL μ' a) (fun K hK => ?_) ?_
  · unfold lσ
    simp [zEI]
    exact ⟨by decide, by decide, h.1, fun r μ1 r0 r1 o1 s1 => hK _ _ ⟨r0, by omega, h.only o1 s1⟩⟩
  rintro n μ1 ⟨n0, n3, h1⟩
  refine ⟨by omega, by omega, ?_⟩
  have hl : (rng 0 n).length ≤ 3 := by
    unfold rng
    rw [List.length_map, List.length_range]
    omega
  refine forL_ind (fun items σ μ' => ∃ (t : List Nat) (j : Nat) (s5 : Slot), j + items.length ≤ 3 ∧ TJ j t ∧ σ = lσ x0 a s2 s3 (.val (.str t)) s5 s6 s7 .no ∧ SL μ' a) ?_ ?_ _ _ _ ⟨t, 0, _, by omega, ht, rfl, h1⟩
  · rintro σ μ2 ⟨t, j, s5, _, ht, rfl, h2⟩
    refine ⟨trivial, ?_⟩
    dsimp only
    exact b4_ok h2 ht.top fun μ' s6 s7 h => q _ _ _ _ _ h
  · rintro v its σ μ2 ⟨t, j, s5, hj, ht, rfl, h2⟩
    rw [List.length_cons] at hj
    obtain ⟨S, N, L, k1, k2, k3, k4, k5⟩ := ht.step (by omega)
    refine ⟨trivial, _, mt_nm _ _ _, fun N' hN => ?_⟩
    unfold lσ
    simp [zEI]
    exact ⟨S, N, L, h2.1, k1, k2, k3, k4, fun t' μ3 e1 o3 s3 => hN _ _ ⟨t', j + 1, _, by omega, k5 t' e1, rfl, h2.only o3 s3⟩⟩
theorem b_ok {μ : Sto} {a : Nat} {D : MEnds} {E : QX} {x0 s3 s4 s5 s6 s7 : Slot} (h : SL μ a) (q : ∀ μ' s4 s5 s6 s7, SL μ' a → D.nx (lσ x0 a (.val (.lst (someF.map Val.str))) s3 s4 s5 s6 s7 .no) μ') : T_b D (lσ x0 a (.val (.lst (someF.map Val.str))) s3 s4 s5 s6 s7 .no) μ E := by
  have hlm : lim = 1000000 := rfl
  have hsl : strLim = 1000000 := rfl
  unfold T_b
  refine seq_asgR (fun v μ' => ∃ t, v = .str t ∧ T0 t ∧ SL μ' a) (fun K hK => ?_) ?_
  · unfold lσ
    simp [zEI]
    refine ⟨h.1, by decide, by decide, fun ss μ1 k1 k2 o1 s1 => ?_⟩
    have htl : (textOf ss).length ≤ 600000 := text_len k1 (by omega)
    simp [zEI]
    try rw [stop_is]
    refine ⟨ss.map Wst.v, ss.map fun s => s.k :: s.w, by simp [seqL], wofAll_sp k1, by rw [List.length_map]; omega, fun r hr => ?_, by rw [textF_of]; omega, ?_⟩
    · obtain ⟨s, hs, rfl⟩ := List.mem_map.mp hr
      have := (sp_good (k1 s hs)).1
      have h4 := row_len (k1 s hs)
      exact ⟨by omega, by show (rowOf s).length ≤ _; omega⟩
    rw [textF_of]
    exact hK _ _ ⟨_, rfl, text_T0 k1 k2, h.only o1 s1⟩
  rintro v μ1 ⟨t, rfl, ht, h1⟩
  refine seq_ifL (fun b μ' => SL μ' a) (fun K hK => ?_) (fun μ2 h2 => ?_) (fun μ2 h2 => ?_)
  · unfold lσ
    simp [zEI]
    refine ⟨by decide, by decide, h1.1, fun r μ2 r0 r1 o2 s2 => ?_⟩
    simp [zEI]
    exact hK _ _ (h1.only o2 s2)
  · refine one_asgR (fun v μ' => ∃ u, v = .str u ∧ T0 u ∧ SL μ' a) (fun K hK => ?_) ?_
    · unfold lσ
      simp [zEI]
      refine ⟨by decide, by decide, h2.1, fun r μ3 r0 r1 o3 s3 => ?_⟩
      obtain ⟨v, hv, ev⟩ := atI_in (l := someF.map Val.str) r0 (by rw [List.length_map]; exact r1)
      obtain ⟨u, hu, rfl⟩ := List.mem_map.mp hv
      simp [zEI, ev]
      exact hK _ _ ⟨u, rfl, some_T0 u hu, h2.only o3 s3⟩
    rintro v μ3 ⟨u, rfl, hu, h3⟩
    exact b2_ok h3 hu q
  · simp only [sNil]
    exact b2_ok h2 ht q
def G_law : FnM := fun vs μ Q _ => match vs with
  | [.scr ns] => ∀ μ', Q (.bl true) μ'
  | _ => False
theorem GP_law : ∀ vs μ Q E, vs.length = 1 → G_law vs μ Q E → P_law vs μ Q E := by
  intro vs μ Q E hl q
  unfold G_law at q
  split at q
  rotate_left
  · exact q.elim
  rename_i ns
  have hlm : lim = 1000000 := rfl
  unfold P_law M_law fnM
  refine seq_asgR (fun v μ' => v = .ref μ.n ∧ SL μ' μ.n) (fun K hK => by simp [zEI]; exact fun μ' h1 h2 h3 => hK _ _ ⟨rfl, h3, by omega⟩) ?_
  rintro v μ1 ⟨rfl, h1⟩
  refine seq_asgM (v := .lst ((someF.take 10).map Val.str)) (μ' := μ1) (fun K hK => ?_) ?_
  · simp [zEI, mFrz]
    exact ⟨by decide, hK⟩
  refine seq_asgM (v := .lst (someF.map Val.str)) (μ' := μ1) (fun K hK => ?_) ?_
  · have e : someF.map Val.str = (someF.take 10).map Val.str ++ (someF.drop 10).map Val.str := by rw [← List.map_append, List.take_append_drop]
    rw [e] at hK
    simp [zEI, mFrz]
    refine ⟨by decide, by decide, ?_⟩
    exact hK
  refine seq_for ?_
  refine for_rgA (fun n μ' => n = 6 ∧ μ' = μ1) (fun K hK => by simp [zEI]; exact hK _ _ ⟨rfl, rfl⟩) ?_
  rintro n μ' ⟨rfl, rfl⟩
  refine ⟨by decide, by decide, ?_⟩
  refine forL_ind (fun items σ μ' => ∃ s3 s4 s5 s6 s7, σ = lσ (.val (.scr ns)) μ.n (.val (.lst (someF.map Val.str))) s3 s4 s5 s6 s7 .no ∧ SL μ' μ.n) ?_ ?_ _ _ _ ⟨_, _, _, _, _, rfl, h1⟩
  · rintro σ μ2 ⟨s3, s4, s5, s6, s7, rfl, h2⟩
    refine ⟨trivial, ?_⟩
    simp [zEI]
    exact q _
  · rintro v its σ μ2 ⟨s3, s4, s5, s6, s7, rfl, h2⟩
    refine ⟨trivial, lσ (.val (.scr ns)) μ.n (.val (.lst (someF.map Val.str))) (.val v) s4 s5 s6 s7 .no, by simp [lσ, mt_nm], fun N hN => ?_⟩
    exact b_ok h2 fun μ' s4 s5 s6 s7 h => hN _ _ ⟨_, _, _, _, _, rfl, h⟩

end MW
set_option Elab.async false
set_option linter.all false
set_option maxRecDepth 100000
set_option maxHeartbeats 2000000
namespace MW
open PySem PySem.Spec PyProof.Rows L2 Evl SX HW
def topS (i : Nat) : Stmt := PySem.Challenge.pw_helperwire_k15_texts_refused.main.body.getD i (.Pass ⟨0, 0, 0, 0⟩)
section
variable {P : Program} {w : World} {mg : Str → Option Value} {base : Heap} {F : Cf}
theorem sc__law_word : FnScope ["_law_work", "e", "_law_kinds", "_law_words", "_law_word_here"] ["_law_work"] (defScope (topS 37)) := ⟨rfl, rfl, rfl, by decide +kernel, rfl, by decide +kernel, by decide +kernel⟩
theorem D__law_word {K : PySem.W.Frag} {f : Addr} {fd : FuncData} (Fn : Fun K "_law_word" "_law_word" (topS 37) f fd) (m_isinstance : mg "isinstance" = none) (m_ValueError : mg "ValueError" = none) {c0 c1 c2 c3 c4 c5 c6 c7 c8 c9 c10 c11 c12 c13 CW : Addr} (wk : Wk K mg [c0, c1, c2, c3, c4, c5, c6, c7, c8, c9, c10, c11, c12, c13] CW) (xfE : XfC K c2) (noE : PySem.W.findIn K (.ref c2) "number" = some none) (xfT : XfC K c13) (noT : PySem.W.findIn K (.ref c13) "row" = some none) : FnOk P w K mg base CX0 21 f fd ["_law_work"] (spWord P w K mg base 20) := by
  refine Fn.ok sc__law_word (fun vs H Q E h => by obtain ⟨f, rfl, _⟩ := h; rfl) (fun cdv A outer s H vs Q E hr h => ?_)
  obtain ⟨g, rfl, hra⟩ := h
  refine ⟨_, (pss_one (ps_try_as (tb := fun W => tRet (tWork P w K mg base 20 0 W)) (i := 1) rfl rfl sc__law_word.nd rfl rfl ⟨rfl, by decide, .inl wk.w⟩ LamX.takes0 (fun W pn xe tk _ => pss_one (ps_ret (pe_work (k := 20) (a := "_law_work") tk (hr.mono (by decide)) rfl (.inl rfl)))) (fun a oe cls d pn hz hf => (pss_cons (ps_set (i := 2) sc__law_word.nd rfl (.inl rfl) (pe_lst (pa_cons (pe_callB (call_isX hz hf) (by rfl) m_isinstance (by decide +kernel) (pa_cons (pv 1) (pa_cons (pe_glob (v := .ref c0) (by rfl) (wk.nm 0 _ _ rfl rfl) rfl) pa_nil))) (pa_cons (pe_callB (call_isX hz hf) (by rfl) m_isinstance (by decide +kernel) (pa_cons (pv 1) (pa_cons (pe_glob (v := .ref c1) (by rfl) (wk.nm 1 _ _ rfl rfl) rfl) pa_nil))) (pa_cons (pe_callB (call_isX hz hf) (by rfl) m_isinstance (by decide +kernel) (pa_cons (pv 1) (pa_cons (pe_glob (v := .ref c2) (by rfl) (wk.nm 2 _ _ rfl rfl) rfl) pa_nil))) (pa_cons (pe_callB (call_isX hz hf) (by rfl) m_isinstance (by decide +kernel) (pa_cons (pv 1) (pa_cons (pe_glob (v := .ref c3) (by rfl) (wk.nm 3 _ _ rfl rfl) rfl) pa_nil))) pa_nil))))))
      (pss_cons (ps_set (i := 2) sc__law_word.nd rfl (.inl rfl) (pe_op op_cat (pv 2) (pe_lst (pa_cons (pe_callB (call_isX hz hf) (by rfl) m_isinstance (by decide +kernel) (pa_cons (pv 1) (pa_cons (pe_glob (v := .ref c4) (by rfl) (wk.nm 4 _ _ rfl rfl) rfl) pa_nil))) (pa_cons (pe_callB (call_isX hz hf) (by rfl) m_isinstance (by decide +kernel) (pa_cons (pv 1) (pa_cons (pe_glob (v := .ref c5) (by rfl) (wk.nm 5 _ _ rfl rfl) rfl) pa_nil))) (pa_cons (pe_callB (call_isX hz hf) (by rfl) m_isinstance (by decide +kernel) (pa_cons (pv 1) (pa_cons (pe_glob (v := .ref c6) (by rfl) (wk.nm 6 _ _ rfl rfl) rfl) pa_nil))) (pa_cons (pe_callB (call_isX hz hf) (by rfl) m_isinstance (by decide +kernel) (pa_cons (pv 1) (pa_cons (pe_glob (v := .ref c7) (by rfl) (wk.nm 7 _ _ rfl rfl) rfl) pa_nil))) pa_nil)))))))
      (pss_cons (ps_set (i := 2) sc__law_word.nd rfl (.inl rfl) (pe_op op_cat (pv 2) (pe_lst (pa_cons (pe_callB (call_isX hz hf) (by rfl) m_isinstance (by decide +kernel) (pa_cons (pv 1) (pa_cons (pe_glob (v := .ref c8) (by rfl) (wk.nm 8 _ _ rfl rfl) rfl) pa_nil))) (pa_cons (pe_callB (call_isX hz hf) (by rfl) m_isinstance (by decide +kernel) (pa_cons (pv 1) (pa_cons (pe_glob (v := .ref c9) (by rfl) (wk.nm 9 _ _ rfl rfl) rfl) pa_nil))) (pa_cons (pe_callB (call_isX hz hf) (by rfl) m_isinstance (by decide +kernel) (pa_cons (pv 1) (pa_cons (pe_glob (v := .ref c10) (by rfl) (wk.nm 10 _ _ rfl rfl) rfl) pa_nil))) (pa_cons (pe_callB (call_isX hz hf) (by rfl) m_isinstance (by decide +kernel) (pa_cons (pv 1) (pa_cons (pe_glob (v := .ref c11) (by rfl) (wk.nm 11 _ _ rfl rfl) rfl) pa_nil))) pa_nil)))))))
      (pss_cons (ps_set (i := 2) sc__law_word.nd rfl (.inl rfl) (pe_op op_cat (pv 2) (pe_lst (pa_cons (pe_callB (call_isX hz hf) (by rfl) m_isinstance (by decide +kernel) (pa_cons (pv 1) (pa_cons (pe_glob (v := .ref c12) (by rfl) (wk.nm 12 _ _ rfl rfl) rfl) pa_nil))) (pa_cons (pe_callB (call_isX hz hf) (by rfl) m_isinstance (by decide +kernel) (pa_cons (pv 1) (pa_cons (pe_glob (v := .ref c13) (by rfl) (wk.nm 13 _ _ rfl rfl) rfl) pa_nil))) pa_nil)))))
      (pss_cons (ps_set (i := 3) sc__law_word.nd rfl (.inl rfl) (pe_lst (pa_cons pe_str (pa_cons pe_str (pa_cons pe_str (pa_cons pe_str (pa_cons pe_str (pa_cons pe_str (pa_cons pe_str (pa_cons pe_str (pa_cons pe_str (pa_cons pe_str pa_nil))))))))))))
      (pss_cons (ps_set (i := 3) sc__law_word.nd rfl (.inl rfl) (pe_op op_cat (pv 3) (pe_lst (pa_cons pe_str (pa_cons pe_str (pa_cons pe_str (pa_cons pe_str pa_nil)))))))
      (pss_cons (ps_if (PW.pt (pw_or (pt_cmpR op_ne (show PE _ _ (tBM K "list" (rCountL K) _ _) from (pe_bm PySem.F.plainAttrs_list PySem.F.slot_list_count PySem.F.type_list_count mt_countL (pv 2) (pa_cons pe_bl pa_nil))) pe_int (nomark _)) (pw_or1 (pt_not (pt_val (pe_callB (call_isX hz hf) (by rfl) m_isinstance (by decide +kernel) (pa_cons (pv 1) (pa_cons (pe_bltn (v := .ty "ValueError") (by rfl) m_ValueError (by decide +kernel) rfl) pa_nil))))))))
        (pss_one (ps_ret (pe_tup (pa_cons pe_str (pa_cons pe_int pa_nil)))))
        pss_nil)
      (pss_cons (ps_set (i := 4) sc__law_word.nd rfl (.inl rfl) (pe_ix (r := rIxL K) ix_list (pv 3) (show PE _ _ (tBM K "list" (rIndex K) _ _) from (pe_bm PySem.F.plainAttrs_list PySem.F.slot_list_index PySem.F.type_list_index mt_index (pv 2) (pa_cons pe_bl pa_nil))) (fun _ _ => rfl)))
      (pss_one (ps_ret (pe_tup (pa_cons (pv 4) (pa_cons (pe_ifExp (pt_cmpR op_eq (pv 4) pe_str (nomark _)) (pe_xf xfE noE hz hf (pv 1)) (pe_ifExp (pt_cmpR op_eq (pv 4) pe_str (nomark _)) (pe_xf xfT noT hz hf (pv 1)) pe_int)) pa_nil)))))))))))))))), ?_⟩
  refine ⟨g, rfl, hra _ _ (fun v H' q => q) fun cls d H2 hx0 => ?_⟩
  obtain ⟨C, j, fl, n, rfl, hC, hj, hfl, x2, q⟩ := hx0
  have hjl : j < [c0, c1, c2, c3, c4, c5, c6, c7, c8, c9, c10, c11, c12, c13].length := hj
  have hCj : [c0, c1, c2, c3, c4, c5, c6, c7, c8, c9, c10, c11, c12, c13][j]? = some C := by
    have h1 := wk.nm j (wNames.getD j "") _ (by rw [List.getD_eq_getElem?_getD, List.getElem?_eq_getElem (show j < wNames.length from hj)]; rfl) (List.getElem?_eq_getElem hjl)
    rw [hC] at h1
    rw [List.getElem?_eq_getElem hjl]
    injection h1 with h1
    injection h1 with h1
    rw [h1]
  obtain ⟨hE, hx, hv, hkit⟩ := wk.at hCj
  refine ⟨true, hx, fun _ a ha => ?_, fun z => by cases z⟩
  have hdd : ∀ {H' : Hp}, Ex H2 H' → (d = none ∨ ∃ dd fs, d = some dd ∧ H' dd = some (.xd fs)) := fun e => by
    cases fl with
    | none => exact .inl x2
    | some fs =>
      obtain ⟨dd, h1, h3⟩ := x2
      exact .inr ⟨dd, fs, h1, e _ _ h3⟩
  have is : ∀ (i : Nat) {ci : Addr} {σ' : L2.St} {H' : Hp}, [c0, c1, c2, c3, c4, c5, c6, c7, c8, c9, c10, c11, c12, c13][i]? = some ci → σ'[1]? = some (some (.ref a)) → Ex H2 H' → EvD (tCB (rIsX K (.ref C) d a) (tCons (tVar 1) (tCons (tC (.ref ci)) tNil))) σ' H' (.bl (decide (i = j))) := fun i {ci σ' H'} hi hs e => ed_b fun H1 e1 Q q => ⟨.ref a, hs, C, .ref ci, .ref ci, _, rfl, hE, hdd (e.trans e1), rfl, fun u r => r, hkit i ci hi, q H1 (Ex.refl _)⟩
  refine qd_asg (ed_lst (eda_cons (is 0 rfl rfl (Ex.refl _)) (eda_cons (is 1 rfl rfl (Ex.refl _)) (eda_cons (is 2 rfl rfl (Ex.refl _)) (eda_cons (is 3 rfl rfl (Ex.refl _)) eda_nil))))) fun w1 H3 e3 r3 => ?_
  refine qd_asg (ed_cat (ed_var rfl r3) (ed_lst (eda_cons (is 4 rfl rfl e3) (eda_cons (is 5 rfl rfl e3) (eda_cons (is 6 rfl rfl e3) (eda_cons (is 7 rfl rfl e3) eda_nil))))) (by simp)) fun w2 H4 e4 r4 => ?_
  have e34 := e3.trans e4
  refine qd_asg (ed_cat (ed_var rfl r4) (ed_lst (eda_cons (is 8 rfl rfl e34) (eda_cons (is 9 rfl rfl e34) (eda_cons (is 10 rfl rfl e34) (eda_cons (is 11 rfl rfl e34) eda_nil))))) (by simp)) fun w3 H5 e5 r5 => ?_
  have e35 := e34.trans e5
  refine qd_asg (ed_cat (ed_var rfl r5) (ed_lst (eda_cons (is 12 rfl rfl e35) (eda_cons (is 13 rfl rfl e35) eda_nil))) (by simp)) fun w4 H6 e6 r6 => ?_
  have r6 : Rp H6 (.lst (kdD j)) w4 := r6
  obtain ⟨p, rfl, hp⟩ := kd_rp r6
  have e36 := e35.trans e6
  refine qd_asg (ed_lst (eda_cons (kc (name_S 0)) (eda_cons (kc (name_S 1)) (eda_cons (kc (name_S 2)) (eda_cons (kc (name_S 3)) (eda_cons (kc (name_S 4)) (eda_cons (kc (name_S 5)) (eda_cons (kc (name_S 6)) (eda_cons (kc (name_S 7)) (eda_cons (kc (name_S 8)) (eda_cons (kc (name_S 9)) eda_nil))))))))))) fun w5 H7 e7 r7 => ?_
  refine qd_asg (ed_cat (ed_var rfl r7) (ed_lst (eda_cons (kc (name_S 10)) (eda_cons (kc (name_S 11)) (eda_cons (kc (name_S 12)) (eda_cons (kc (name_S 13)) eda_nil))))) (by simp)) fun w6 H8 e8 r8 => ?_
  have r8 : Rp H8 (.lst nmD) w6 := r8
  have e68 := e7.trans e8
  have e38 := e36.trans e68
  have hcnt : ∀ {H' : Hp} {σ' : L2.St}, σ'[2]? = some (some (.ref p)) → Ex H6 H' → Ev (tBM K "list" (rCountL K) (tVar 2) (tCons (tC (.bl true)) tNil)) σ' H' (.int 1) := fun hs e H1 e1 Q q => ⟨.ref p, hs, Or.inl ⟨rfl, _, sq_of ((e.trans e1) _ _ hp)⟩, p, kdV j, .bl true, rfl, rfl, sq_of ((e.trans e1) _ _ hp), rfl, kd_flat j hj, by rw [kd_count j hj]; exact q H1 (Ex.refl _)⟩
  have hval : ∀ {σ' : L2.St} {H' : Hp}, σ'[1]? = some (some (.ref a)) → Ex H2 H' → Ev (tCB (rIsX K (.ref C) d a) (tCons (tVar 1) (tCons (tC (.ty "ValueError")) tNil))) σ' H' (.bl true) := fun hs e H1 e1 Q q => ⟨.ref a, hs, C, .ty "ValueError", .type "ValueError", true, rfl, hE, hdd (e.trans e1), rfl, fun u r => r, hv, q H1 (Ex.refl _)⟩
  refine q_when (et_or0 (et_is (et_test (ev_op (hcnt rfl e68) ev_c rv_neI)) rfl) (et_no (et_B (hval rfl e38)))) (fun z => by cases z) fun _ H9 e9 => ?_
  have e69 := e68.trans e9
  have hix : ∀ {H' : Hp} {σ' : L2.St}, σ'[2]? = some (some (.ref p)) → Ex H6 H' → Ev (tBM K "list" (rIndex K) (tVar 2) (tCons (tC (.bl true)) tNil)) σ' H' (.int (j : Nat)) := fun hs e H1 e1 Q q => ⟨.ref p, hs, Or.inl ⟨rfl, _, sq_of ((e.trans e1) _ _ hp)⟩, p, kdV j, .bl true, j, .bl true, rfl, rfl, sq_of ((e.trans e1) _ _ hp), rfl, kd_flat j hj, kd_at j hj, rfl, fun m z hm hz => by rw [kd_no j hj m hm] at hz; cases hz; rfl, q H1 (Ex.refl _)⟩
  refine q_asg (v := .str (S (nameL j))) (EvD.s (ed_ixL (ed_var rfl (r8.ex e9)) (hix rfl e69) (atI_nat (by unfold nmD; rw [List.getElem?_map, List.getElem?_range hj]; rfl)))) fun H10 e10 => ?_
  have e310 := (e38.trans e9).trans e10
  have hQ : ∀ {v H'}, Ex H10 H' → Rp H' (wOut j n) v → Q v H' := fun e r => q _ _ (e310.trans e) r
  have hne : ∀ k, k < 14 → k ≠ j → (nameL j = nameL k) = False := by
    have : ∀ j, j < 14 → ∀ k, k < 14 → k ≠ j → ¬ nameL j = nameL k := by decide +kernel
    intro k hk hkj
    exact eq_false (this j hj k hk hkj)
  refine sd_ret (d := wOut j n) (ed_tup (eda_cons (ed_s (ev_var rfl)) (eda_cons (ed_i ?_) eda_nil))) fun v H11 e11 r11 => hQ e11 r11
  rcases hfl with ⟨j2, j13, rfl, rfl⟩ | ⟨rfl, rfl⟩ | ⟨rfl, rfl⟩
  · refine ev_if (b := false) (et_is (et_test (ev_op (ev_var rfl) (EvD.s (kc (name_S 2))) rv_eqS)) (decide_eq_false (by rw [hne 2 (by decide) (fun z => j2 z.symm)]; exact id))) (fun z => by cases z) fun _ => ?_
    exact ev_if (b := false) (et_is (et_test (ev_op (ev_var rfl) (EvD.s (kc (name_S 13))) rv_eqS)) (decide_eq_false (by rw [hne 13 (by decide) (fun z => j13 z.symm)]; exact id))) (fun z => by cases z) fun _ => ev_c
  · obtain ⟨dd, h1, h3⟩ := x2
    cases hCj
    refine ev_if (b := true) (et_is (et_test (ev_op (ev_var rfl) (EvD.s (kc (name_S 2))) rv_eqS)) (decide_eq_true rfl)) (fun _ => ?_) fun z => by cases z
    exact fun H1 e1 Q q => ⟨.ref a, rfl, rfl, rfl, dd, _, .int n, h1, (e310.trans e1) _ _ h3, rfl, q H1 (Ex.refl _)⟩
  · obtain ⟨dd, h1, h3⟩ := x2
    cases hCj
    refine ev_if (b := false) (et_is (et_test (ev_op (ev_var rfl) (EvD.s (kc (name_S 2))) rv_eqS)) (decide_eq_false (by rw [hne 2 (by decide) (by decide)]; exact id))) (fun z => by cases z) fun _ => ?_
    refine ev_if (b := true) (et_is (et_test (ev_op (ev_var rfl) (EvD.s (kc (name_S 13))) rv_eqS)) (decide_eq_true rfl)) (fun _ => ?_) fun z => by cases z
    exact fun H1 e1 Q q => ⟨.ref a, rfl, rfl, rfl, dd, _, .int n, h1, (e310.trans e1) _ _ h3, rfl, q H1 (Ex.refl _)⟩

theorem sc__law_start : FnScope ["_law_script", "_law_mixed", "_law_cell"] ["_law_script"] (defScope (topS 34)) := ⟨rfl, rfl, rfl, by decide +kernel, rfl, by decide +kernel, by decide +kernel⟩
theorem D__law_start {f : Addr} {fd : FuncData} (Fn : Fun F.K "_law_start" "_law_start" (topS 34) f fd)  : FnOk P w F.K mg base (L2.CX P w) 1 f fd ["_law_script"] (spM F 1 G__law_start) :=
  (fn_ok Fn sc__law_start (by decide) (fun cdv A outer s H E hr =>
    show ISs _ F (fun cls d _ H => E cls d H) _ M__law_start from (iss_cons (is_asg (t := .nm 1) rfl (ps_set (i := 1) sc__law_start.nd rfl (.inl rfl) ie_int))
    (iss_cons (is_for (t := (.nm 2)) rfl (ps_for (passes_of rfl) rfl (ii_lst (ie_var (i := 0) (pv 0)) rfl) (pg_name (i := 2) sc__law_start.nd rfl (.inl rfl))
    (iss_one (is_asg (t := .nm 1) rfl (ps_set (i := 1) sc__law_start.nd rfl (.inl rfl) (ie_op op_modN os_mod (ie_op op_addA os_add (ie_op op_addA os_add (ie_op op_mulA os_mul (ie_var (i := 1) (pv 1)) ie_int) (ie_var (i := 2) (pv 2))) ie_int) ie_int))))))
    (iss_one (is_ret (ie_new (il_lst (ia_cons (ie_var (i := 0) (pv 0)) (ia_cons ie_int (ia_cons (ie_var (i := 1) (pv 1)) (ia_cons ie_int ia_nil)))))))))))).imp (spM.imp GP__law_start)
theorem E__law_start {f : Addr} {od an : Option Addr} {sl : Array (Option Value)} {oc kV dc pm cd ct : Value} (l : F.K.lookup f = some ⟨oc, od, .func (PySem.W.fnOf "_law_start" "_law_start" (defArgs (topS 34)) (defBody (topS 34)) (defScope (topS 34)) .none kV dc pm an cd ct), sl⟩) (c : PySem.W.codeIn F.K cd "_law_start" = true) (k : PySem.W.keepIn F.K (.ref f) = true) (g : mg "_law_start" = some (.ref f))  : DfM P w F.K mg base F "_law_start" ["_law_script"] 1 G__law_start :=
  ⟨f, _, D__law_start (F := F) (fun_mk (st := (topS 34)) l c k) , g, k, (fun_mk (st := (topS 34)) l c k).binds (ps := ["_law_script"]) fun _ _ _ _ _ _ us hl => match us, hl with | [_], _ => rfl⟩

theorem sc__law_drawn : FnScope ["_law_state", "_law_many", "_law_found", "_law_cell"] ["_law_state", "_law_many"] (defScope (topS 35)) := ⟨rfl, rfl, rfl, by decide +kernel, rfl, by decide +kernel, by decide +kernel⟩
theorem D__law_drawn {f : Addr} {fd : FuncData} (Fn : Fun F.K "_law_drawn" "_law_drawn" (topS 35) f fd) (m_len : mg "len" = none) : FnOk P w F.K mg base (L2.CX P w) 1 f fd ["_law_state", "_law_many"] (spM F 2 G__law_drawn) :=
  (fn_ok Fn sc__law_drawn (by decide) (fun cdv A outer s H E hr =>
    show ISs _ F (fun cls d _ H => E cls d H) _ M__law_drawn from (iss_cons (is_if (it_cmp op_gtA os_gt (ie_ix (ie_var (i := 0) (pv 0)) ie_int rfl (fun _ _ => rfl)) ie_int (nomark _))
    (iss_cons (is_asg (t := .nm 2) rfl (ps_set (i := 2) sc__law_drawn.nd rfl (.inl rfl) (ie_op op_modN os_mod (ie_ix (ie_var (i := 0) (pv 0)) ie_int rfl (fun _ _ => rfl)) (ie_var (i := 1) (pv 1)))))
    (iss_cons (is_setIx (ps_asg (ie_op op_fdivW os_div (ie_ix (ie_var (i := 0) (pv 0)) ie_int rfl (fun _ _ => rfl)) (ie_var (i := 1) (pv 1))) (pg_sub (ie_var (i := 0) (pv 0)) ie_int set_list)))
    (iss_one (is_ret (ie_var (i := 2) (pv 2))))))
    iss_nil)
    (iss_cons (is_setIx (ps_asg (ie_op op_addA os_add (ie_ix (ie_var (i := 0) (pv 0)) ie_int rfl (fun _ _ => rfl)) ie_int) (pg_sub (ie_var (i := 0) (pv 0)) ie_int set_list)))
    (iss_cons (is_if (it_cmp op_leA os_le (ie_ix (ie_var (i := 0) (pv 0)) ie_int rfl (fun _ _ => rfl)) (ie_callB cr_lenA cs_len (by rfl) m_len PySem.boot_len (ia_cons (ie_ix (ie_var (i := 0) (pv 0)) ie_int rfl (fun _ _ => rfl)) ia_nil)) (nomark _))
    (iss_cons (is_asg (t := .nm 3) rfl (ps_set (i := 3) sc__law_drawn.nd rfl (.inl rfl) (ie_ix (ie_ix (ie_var (i := 0) (pv 0)) ie_int rfl (fun _ _ => rfl)) (ie_op op_sub os_sub (ie_ix (ie_var (i := 0) (pv 0)) ie_int rfl (fun _ _ => rfl)) ie_int) rfl (fun _ _ => rfl))))
    (iss_cons (is_setIx (ps_asg (ie_if (it_cmp op_geA os_ge (ie_var (i := 3) (pv 3)) (ie_op op_pow os_pow ie_int ie_int) (nomark _)) (ie_op op_fdivW os_div (ie_var (i := 3) (pv 3)) (ie_var (i := 1) (pv 1))) ie_int) (pg_sub (ie_var (i := 0) (pv 0)) ie_int set_list)))
    (iss_one (is_ret (ie_op op_modN os_mod (ie_var (i := 3) (pv 3)) (ie_var (i := 1) (pv 1)))))))
    iss_nil)
    (iss_cons (is_setIx (ps_asg (ie_op op_modN os_mod (ie_op op_addA os_add (ie_op op_mulA os_mul (ie_ix (ie_var (i := 0) (pv 0)) ie_int rfl (fun _ _ => rfl)) ie_int) ie_int) ie_int) (pg_sub (ie_var (i := 0) (pv 0)) ie_int set_list)))
    (iss_one (is_ret (ie_op op_modN os_mod (ie_op op_fdivW os_div (ie_ix (ie_var (i := 0) (pv 0)) ie_int rfl (fun _ _ => rfl)) ie_int) (ie_var (i := 1) (pv 1))))))))))).imp (spM.imp GP__law_drawn)
theorem E__law_drawn {f : Addr} {od an : Option Addr} {sl : Array (Option Value)} {oc kV dc pm cd ct : Value} (l : F.K.lookup f = some ⟨oc, od, .func (PySem.W.fnOf "_law_drawn" "_law_drawn" (defArgs (topS 35)) (defBody (topS 35)) (defScope (topS 35)) .none kV dc pm an cd ct), sl⟩) (c : PySem.W.codeIn F.K cd "_law_drawn" = true) (k : PySem.W.keepIn F.K (.ref f) = true) (g : mg "_law_drawn" = some (.ref f)) (m_len : mg "len" = none) : DfM P w F.K mg base F "_law_drawn" ["_law_state", "_law_many"] 1 G__law_drawn :=
  ⟨f, _, D__law_drawn (F := F) (fun_mk (st := (topS 35)) l c k) (m_len := m_len), g, k, (fun_mk (st := (topS 35)) l c k).binds (ps := ["_law_state", "_law_many"]) fun _ _ _ _ _ _ us hl => match us, hl with | [_, _], _ => rfl⟩

theorem sc__law_sign : FnScope ["_law_state", "_law_every"] ["_law_state"] (defScope (topS 38)) := ⟨rfl, rfl, rfl, by decide +kernel, rfl, by decide +kernel, by decide +kernel⟩
theorem D__law_sign {f : Addr} {fd : FuncData} (Fn : Fun F.K "_law_sign" "_law_sign" (topS 38) f fd) (d__law_drawn : DfM P w F.K mg base F "_law_drawn" ["_law_state", "_law_many"] 1 G__law_drawn) (m_len : mg "len" = none) : FnOk P w F.K mg base (L2.CX P w) 2 f fd ["_law_state"] (spM F 1 G__law_sign) :=
  (fn_ok Fn sc__law_sign (by decide) (fun cdv A outer s H E hr =>
    show ISs _ F (fun cls d _ H => E cls d H) _ M__law_sign from (iss_cons (is_asg (t := .nm 1) rfl (ps_set (i := 1) sc__law_sign.nd rfl (.inl rfl) (ie_str (l := [32, 33, 34, 35, 36, 38, 39, 40, 41, 42, 43, 44, 45, 46, 47, 48, 49, 50, 51, 52, 53, 54, 55, 56, 57, 58, 59, 60, 61, 62, 63, 64, 65, 66, 67, 68, 69, 70, 71, 72, 73, 74, 75, 76, 77, 78, 79, 80, 81, 82, 83, 84, 85, 86, 87, 88, 89, 90, 91, 93, 94, 95, 96, 97, 98, 99, 100, 101, 102, 103, 104, 105, 106, 107, 108, 109, 110, 111, 112, 113, 114, 115, 116, 117, 118, 119, 120, 121, 122, 123, 124, 125, 126, 10]) (by decide +kernel))))
    (iss_one (is_ret (ie_ix (ie_frz (il_lst (ia_cons (ie_ix (ie_str (l := [97, 98, 32, 10]) (by decide +kernel)) (ie_call d__law_drawn (hr.mono (by decide)) (takes_of rfl rfl rfl rfl) (ia_cons (ie_var (i := 0) (pv 0)) (ia_cons ie_int ia_nil))) rfl (fun _ _ => rfl)) (ia_cons (ie_ix (ie_var (i := 1) (pv 1)) (ie_call d__law_drawn (hr.mono (by decide)) (takes_of rfl rfl rfl rfl) (ia_cons (ie_var (i := 0) (pv 0)) (ia_cons (ie_callB cr_lenA cs_len (by rfl) m_len PySem.boot_len (ia_cons (ie_var (i := 1) (pv 1)) ia_nil)) ia_nil))) rfl (fun _ _ => rfl)) ia_nil)))) (ie_op op_fdivW os_div (ie_call d__law_drawn (hr.mono (by decide)) (takes_of rfl rfl rfl rfl) (ia_cons (ie_var (i := 0) (pv 0)) (ia_cons ie_int ia_nil))) ie_int) rfl (fun _ _ => rfl))))))).imp (spM.imp GP__law_sign)
theorem E__law_sign {f : Addr} {od an : Option Addr} {sl : Array (Option Value)} {oc kV dc pm cd ct : Value} (l : F.K.lookup f = some ⟨oc, od, .func (PySem.W.fnOf "_law_sign" "_law_sign" (defArgs (topS 38)) (defBody (topS 38)) (defScope (topS 38)) .none kV dc pm an cd ct), sl⟩) (c : PySem.W.codeIn F.K cd "_law_sign" = true) (k : PySem.W.keepIn F.K (.ref f) = true) (g : mg "_law_sign" = some (.ref f)) (d__law_drawn : DfM P w F.K mg base F "_law_drawn" ["_law_state", "_law_many"] 1 G__law_drawn) (m_len : mg "len" = none) : DfM P w F.K mg base F "_law_sign" ["_law_state"] 2 G__law_sign :=
  ⟨f, _, D__law_sign (F := F) (fun_mk (st := (topS 38)) l c k) (d__law_drawn := d__law_drawn) (m_len := m_len), g, k, (fun_mk (st := (topS 38)) l c k).binds (ps := ["_law_state"]) fun _ _ _ _ _ _ us hl => match us, hl with | [_], _ => rfl⟩

theorem sc__law_put : FnScope ["_law_state", "_law_most", "_law_words", "_law_found", "_law_k"] ["_law_state", "_law_most"] (defScope (topS 39)) := ⟨rfl, rfl, rfl, by decide +kernel, rfl, by decide +kernel, by decide +kernel⟩
theorem D__law_put {f : Addr} {fd : FuncData} (Fn : Fun F.K "_law_put" "_law_put" (topS 39) f fd) (d__law_drawn : DfM P w F.K mg base F "_law_drawn" ["_law_state", "_law_many"] 1 G__law_drawn) (m_range : mg "range" = none) (d__law_sign : DfM P w F.K mg base F "_law_sign" ["_law_state"] 2 G__law_sign) : FnOk P w F.K mg base (L2.CX P w) 3 f fd ["_law_state", "_law_most"] (spM F 2 G__law_put) :=
  (fn_ok Fn sc__law_put (by decide) (fun cdv A outer s H E hr =>
    show ISs _ F (fun cls d _ H => E cls d H) _ M__law_put from (iss_cons (is_asg (t := .nm 2) rfl (setFrz (ps_set (i := 2) sc__law_put.nd rfl (.inl rfl) (il_lst (ia_cons (ie_str (l := [97]) (by decide +kernel)) (ia_cons (ie_str (l := [97, 98]) (by decide +kernel)) (ia_cons (ie_str (l := [98]) (by decide +kernel)) (ia_cons (ie_str (l := [97, 98, 97]) (by decide +kernel)) (ia_cons (ie_str (l := [32]) (by decide +kernel)) (ia_cons (ie_str (l := [10]) (by decide +kernel)) (ia_cons (ie_str (l := [44]) (by decide +kernel)) (ia_cons (ie_str (l := [97, 98, 99, 100, 101, 102, 103, 104]) (by decide +kernel)) (ia_cons (ie_str (l := []) (by decide +kernel)) ia_nil)))))))))))))
    (iss_cons (is_asg (t := .nm 3) rfl (ps_set (i := 3) sc__law_put.nd rfl (.inl rfl) (ie_str (l := []) (by decide +kernel))))
    (iss_cons (is_for (t := (.nm 4)) rfl (ps_for (passes_of rfl) rfl (ii_rg1 (pi_range1 (by rfl) m_range (pa_cons (ie_call d__law_drawn (hr.mono (by decide)) (takes_of rfl rfl rfl rfl) (ia_cons (ie_var (i := 0) (pv 0)) (ia_cons (ie_ix (ie_frz (il_lst (ia_cons ie_int (ia_cons ie_int (ia_cons ie_int ia_nil))))) (ie_call d__law_drawn (hr.mono (by decide)) (takes_of rfl rfl rfl rfl) (ia_cons (ie_var (i := 0) (pv 0)) (ia_cons ie_int ia_nil))) rfl (fun _ _ => rfl)) ia_nil))) pa_nil))) (pg_name (i := 4) sc__law_put.nd rfl (.inl rfl))
    (iss_one (is_asg (t := .nm 3) rfl (ps_set (i := 3) sc__law_put.nd rfl (.inl rfl) (ie_op op_addA os_add (ie_var (i := 3) (pv 3)) (ie_ix (ie_frz (il_lst (ia_cons (ie_ix (ie_var (i := 2) (pv 2)) (ie_call d__law_drawn (hr.mono (by decide)) (takes_of rfl rfl rfl rfl) (ia_cons (ie_var (i := 0) (pv 0)) (ia_cons ie_int ia_nil))) rfl (fun _ _ => rfl)) (ia_cons (ie_call d__law_sign (hr.mono (by decide)) (takes_of rfl rfl rfl rfl) (ia_cons (ie_var (i := 0) (pv 0)) ia_nil)) ia_nil)))) (ie_op op_fdivW os_div (ie_call d__law_drawn (hr.mono (by decide)) (takes_of rfl rfl rfl rfl) (ia_cons (ie_var (i := 0) (pv 0)) (ia_cons ie_int ia_nil))) ie_int) rfl (fun _ _ => rfl))))))))
    (iss_one (is_ret (ie_sl (ie_var (i := 3) (pv 3)) io_none (io_some (ie_var (i := 1) (pv 1))) rfl)))))))).imp (spM.imp GP__law_put)
theorem E__law_put {f : Addr} {od an : Option Addr} {sl : Array (Option Value)} {oc kV dc pm cd ct : Value} (l : F.K.lookup f = some ⟨oc, od, .func (PySem.W.fnOf "_law_put" "_law_put" (defArgs (topS 39)) (defBody (topS 39)) (defScope (topS 39)) .none kV dc pm an cd ct), sl⟩) (c : PySem.W.codeIn F.K cd "_law_put" = true) (k : PySem.W.keepIn F.K (.ref f) = true) (g : mg "_law_put" = some (.ref f)) (d__law_drawn : DfM P w F.K mg base F "_law_drawn" ["_law_state", "_law_many"] 1 G__law_drawn) (m_range : mg "range" = none) (d__law_sign : DfM P w F.K mg base F "_law_sign" ["_law_state"] 2 G__law_sign) : DfM P w F.K mg base F "_law_put" ["_law_state", "_law_most"] 3 G__law_put :=
  ⟨f, _, D__law_put (F := F) (fun_mk (st := (topS 39)) l c k) (d__law_drawn := d__law_drawn) (m_range := m_range) (d__law_sign := d__law_sign), g, k, (fun_mk (st := (topS 39)) l c k).binds (ps := ["_law_state", "_law_most"]) fun _ _ _ _ _ _ us hl => match us, hl with | [_, _], _ => rfl⟩

theorem sc__law_sheet : FnScope ["_law_state"] ["_law_state"] (defScope (topS 40)) := ⟨rfl, rfl, rfl, by decide +kernel, rfl, by decide +kernel, by decide +kernel⟩
theorem D__law_sheet {f : Addr} {fd : FuncData} (Fn : Fun F.K "_law_sheet" "_law_sheet" (topS 40) f fd) (d__law_put : DfM P w F.K mg base F "_law_put" ["_law_state", "_law_most"] 3 G__law_put) (d__law_drawn : DfM P w F.K mg base F "_law_drawn" ["_law_state", "_law_many"] 1 G__law_drawn) : FnOk P w F.K mg base (L2.CX P w) 4 f fd ["_law_state"] (spM F 1 G__law_sheet) :=
  (fn_ok Fn sc__law_sheet (by decide) (fun cdv A outer s H E hr =>
    show ISs _ F (fun cls d _ H => E cls d H) _ M__law_sheet from (iss_one (is_ret (ie_sl (ie_op op_mulA os_mul (ie_call d__law_put (hr.mono (by decide)) (takes_of rfl rfl rfl rfl) (ia_cons (ie_var (i := 0) (pv 0)) (ia_cons ie_int ia_nil))) (ie_op op_addA os_add ie_int (ie_call d__law_drawn (hr.mono (by decide)) (takes_of rfl rfl rfl rfl) (ia_cons (ie_var (i := 0) (pv 0)) (ia_cons ie_int ia_nil))))) io_none (io_some (ie_ix (ie_frz (il_lst (ia_cons ie_int (ia_cons ie_int ia_nil)))) (ie_call d__law_drawn (hr.mono (by decide)) (takes_of rfl rfl rfl rfl) (ia_cons (ie_var (i := 0) (pv 0)) (ia_cons ie_int ia_nil))) rfl (fun _ _ => rfl))) rfl))))).imp (spM.imp GP__law_sheet)
theorem E__law_sheet {f : Addr} {od an : Option Addr} {sl : Array (Option Value)} {oc kV dc pm cd ct : Value} (l : F.K.lookup f = some ⟨oc, od, .func (PySem.W.fnOf "_law_sheet" "_law_sheet" (defArgs (topS 40)) (defBody (topS 40)) (defScope (topS 40)) .none kV dc pm an cd ct), sl⟩) (c : PySem.W.codeIn F.K cd "_law_sheet" = true) (k : PySem.W.keepIn F.K (.ref f) = true) (g : mg "_law_sheet" = some (.ref f)) (d__law_put : DfM P w F.K mg base F "_law_put" ["_law_state", "_law_most"] 3 G__law_put) (d__law_drawn : DfM P w F.K mg base F "_law_drawn" ["_law_state", "_law_many"] 1 G__law_drawn) : DfM P w F.K mg base F "_law_sheet" ["_law_state"] 4 G__law_sheet :=
  ⟨f, _, D__law_sheet (F := F) (fun_mk (st := (topS 40)) l c k) (d__law_put := d__law_put) (d__law_drawn := d__law_drawn), g, k, (fun_mk (st := (topS 40)) l c k).binds (ps := ["_law_state"]) fun _ _ _ _ _ _ us hl => match us, hl with | [_], _ => rfl⟩

theorem sc__law_at : FnScope ["_law_sheet_here", "_law_number", "_law_row_here", "_law_column", "_law_sign_here"] ["_law_sheet_here", "_law_number"] (defScope (topS 41)) := ⟨rfl, rfl, rfl, by decide +kernel, rfl, by decide +kernel, by decide +kernel⟩
theorem D__law_at {f : Addr} {fd : FuncData} (Fn : Fun F.K "_law_at" "_law_at" (topS 41) f fd) (m_int : mg "int" = none) : FnOk P w F.K mg base (L2.CX P w) 1 f fd ["_law_sheet_here", "_law_number"] (spM F 2 G__law_at) :=
  (fn_ok Fn sc__law_at (by decide) (fun cdv A outer s H E hr =>
    show ISs _ F (fun cls d _ H => E cls d H) _ M__law_at from (iss_cons (is_asg (t := (.tp [(.nm 2), (.nm 3)])) rfl (ps_asg (ie_tup (ia_cons ie_int (ia_cons ie_int ia_nil))) (pg_tup rfl (pgs_cons (pg_name (i := 2) sc__law_at.nd rfl (.inl rfl)) (pgs_cons (pg_name (i := 3) sc__law_at.nd rfl (.inl rfl)) pgs_nil)))))
    (iss_cons (is_for (t := (.nm 4)) rfl (ps_for (passes_of rfl) rfl (ii_str (ie_sl (ie_var (i := 0) (pv 0)) io_none (io_some (ie_var (i := 1) (pv 1))) rfl)) (pg_name (i := 4) sc__law_at.nd rfl (.inl rfl))
    (iss_one (is_asg (t := (.tp [(.nm 2), (.nm 3)])) rfl (ps_asg (ie_ix (ie_frz (il_lst (ia_cons (ie_tup (ia_cons (ie_var (i := 2) (pv 2)) (ia_cons (ie_op op_addA os_add (ie_var (i := 3) (pv 3)) ie_int) ia_nil))) (ia_cons (ie_tup (ia_cons (ie_op op_addA os_add (ie_var (i := 2) (pv 2)) ie_int) (ia_cons ie_int ia_nil))) ia_nil)))) (ie_callTy call_int1 cs_int1 (by rfl) m_int (by decide +kernel) (ia_cons (ie_cmp (op_eqD hr.units) os_eq (ie_var (i := 4) (pv 4)) (ie_str (l := [10]) (by decide +kernel)) (nomark _)) ia_nil)) rfl (fun _ _ => rfl)) (pg_tup rfl (pgs_cons (pg_name (i := 2) sc__law_at.nd rfl (.inl rfl)) (pgs_cons (pg_name (i := 3) sc__law_at.nd rfl (.inl rfl)) pgs_nil))))))))
    (iss_one (is_ret (ie_tup (ia_cons (ie_var (i := 2) (pv 2)) (ia_cons (ie_var (i := 3) (pv 3)) ia_nil))))))))).imp (spM.imp GP__law_at)
theorem E__law_at {f : Addr} {od an : Option Addr} {sl : Array (Option Value)} {oc kV dc pm cd ct : Value} (l : F.K.lookup f = some ⟨oc, od, .func (PySem.W.fnOf "_law_at" "_law_at" (defArgs (topS 41)) (defBody (topS 41)) (defScope (topS 41)) .none kV dc pm an cd ct), sl⟩) (c : PySem.W.codeIn F.K cd "_law_at" = true) (k : PySem.W.keepIn F.K (.ref f) = true) (g : mg "_law_at" = some (.ref f)) (m_int : mg "int" = none) : DfM P w F.K mg base F "_law_at" ["_law_sheet_here", "_law_number"] 1 G__law_at :=
  ⟨f, _, D__law_at (F := F) (fun_mk (st := (topS 41)) l c k) (m_int := m_int), g, k, (fun_mk (st := (topS 41)) l c k).binds (ps := ["_law_sheet_here", "_law_number"]) fun _ _ _ _ _ _ us hl => match us, hl with | [_, _], _ => rfl⟩

theorem sc__law_edit : FnScope ["_law_state", "_law_sheet_here", "_law_some", "_law_put_here"] ["_law_state", "_law_sheet_here"] (defScope (topS 43)) := ⟨rfl, rfl, rfl, by decide +kernel, rfl, by decide +kernel, by decide +kernel⟩
theorem D__law_edit {f : Addr} {fd : FuncData} (Fn : Fun F.K "_law_edit" "_law_edit" (topS 43) f fd) (m_len : mg "len" = none) (d__law_drawn : DfM P w F.K mg base F "_law_drawn" ["_law_state", "_law_many"] 1 G__law_drawn) (m_sorted : mg "sorted" = none) (m_min : mg "min" = none) (d__law_put : DfM P w F.K mg base F "_law_put" ["_law_state", "_law_most"] 3 G__law_put) (d__law_at : DfM P w F.K mg base F "_law_at" ["_law_sheet_here", "_law_number"] 1 G__law_at) : FnOk P w F.K mg base (L2.CX P w) 4 f fd ["_law_state", "_law_sheet_here"] (spM F 2 G__law_edit) :=
  (fn_ok Fn sc__law_edit (by decide) (fun cdv A outer s H E hr =>
    show ISs _ F (fun cls d _ H => E cls d H) _ M__law_edit from (iss_cons (is_own (i := 2) (ps_set (i := 2) sc__law_edit.nd rfl (.inl rfl) (il_sorted rfl (pe_callB cr_sortedI (by rfl) m_sorted (by decide +kernel) (ia_cons (ie_frz (il_lst (ia_cons (ie_call d__law_drawn (hr.mono (by decide)) (takes_of rfl rfl rfl rfl) (ia_cons (ie_var (i := 0) (pv 0)) (ia_cons (ie_op op_addA os_add (ie_callB cr_lenA cs_len (by rfl) m_len PySem.boot_len (ia_cons (ie_var (i := 1) (pv 1)) ia_nil)) ie_int) ia_nil))) (ia_cons (ie_call d__law_drawn (hr.mono (by decide)) (takes_of rfl rfl rfl rfl) (ia_cons (ie_var (i := 0) (pv 0)) (ia_cons (ie_op op_addA os_add (ie_callB cr_lenA cs_len (by rfl) m_len PySem.boot_len (ia_cons (ie_var (i := 1) (pv 1)) ia_nil)) ie_int) ia_nil))) ia_nil)))) ia_nil)))))
    (iss_cons (is_if (it_cmp op_gtA os_gt (ie_call d__law_drawn (hr.mono (by decide)) (takes_of rfl rfl rfl rfl) (ia_cons (ie_var (i := 0) (pv 0)) (ia_cons ie_int ia_nil))) ie_int (nomark _))
    (iss_one (is_ownSet (i := 2) (ps_asg (ie_callB (call_min2 rfl) cs_min2 (by rfl) m_min (by decide +kernel) (ia_cons (ie_callB cr_lenA cs_len (by rfl) m_len PySem.boot_len (ia_cons (ie_var (i := 1) (pv 1)) ia_nil)) (ia_cons (ie_op op_addA os_add (ie_ownIx (i := 2) (pe_ix ix_seq (pv 2) ie_int (fun _ _ => rfl))) (ie_call d__law_drawn (hr.mono (by decide)) (takes_of rfl rfl rfl rfl) (ia_cons (ie_var (i := 0) (pv 0)) (ia_cons ie_int ia_nil)))) ia_nil))) (pg_sub (pv 2) ie_int set_list))))
    iss_nil)
    (iss_cons (is_asg (t := .nm 3) rfl (ps_set (i := 3) sc__law_edit.nd rfl (.inl rfl) (ie_call d__law_put (hr.mono (by decide)) (takes_of rfl rfl rfl rfl) (ia_cons (ie_var (i := 0) (pv 0)) (ia_cons (ie_callB (call_min2 rfl) cs_min2 (by rfl) m_min (by decide +kernel) (ia_cons ie_int (ia_cons (ie_op op_sub os_sub (ie_op op_addA os_add (ie_op op_sub os_sub ie_int (ie_callB cr_lenA cs_len (by rfl) m_len PySem.boot_len (ia_cons (ie_var (i := 1) (pv 1)) ia_nil))) (ie_ownIx (i := 2) (pe_ix ix_seq (pv 2) ie_int (fun _ _ => rfl)))) (ie_ownIx (i := 2) (pe_ix ix_seq (pv 2) ie_int (fun _ _ => rfl)))) ia_nil))) ia_nil)))))
    (iss_one (is_ret (ie_tup (ia_cons (ie_call d__law_at (hr.mono (by decide)) (takes_of rfl rfl rfl rfl) (ia_cons (ie_var (i := 1) (pv 1)) (ia_cons (ie_ownIx (i := 2) (pe_ix ix_seq (pv 2) ie_int (fun _ _ => rfl))) ia_nil))) (ia_cons (ie_call d__law_at (hr.mono (by decide)) (takes_of rfl rfl rfl rfl) (ia_cons (ie_var (i := 1) (pv 1)) (ia_cons (ie_ownIx (i := 2) (pe_ix ix_seq (pv 2) ie_int (fun _ _ => rfl))) ia_nil))) (ia_cons (ie_var (i := 3) (pv 3)) ia_nil))))))))))).imp (spM.imp GP__law_edit)
theorem E__law_edit {f : Addr} {od an : Option Addr} {sl : Array (Option Value)} {oc kV dc pm cd ct : Value} (l : F.K.lookup f = some ⟨oc, od, .func (PySem.W.fnOf "_law_edit" "_law_edit" (defArgs (topS 43)) (defBody (topS 43)) (defScope (topS 43)) .none kV dc pm an cd ct), sl⟩) (c : PySem.W.codeIn F.K cd "_law_edit" = true) (k : PySem.W.keepIn F.K (.ref f) = true) (g : mg "_law_edit" = some (.ref f)) (m_len : mg "len" = none) (d__law_drawn : DfM P w F.K mg base F "_law_drawn" ["_law_state", "_law_many"] 1 G__law_drawn) (m_sorted : mg "sorted" = none) (m_min : mg "min" = none) (d__law_put : DfM P w F.K mg base F "_law_put" ["_law_state", "_law_most"] 3 G__law_put) (d__law_at : DfM P w F.K mg base F "_law_at" ["_law_sheet_here", "_law_number"] 1 G__law_at) : DfM P w F.K mg base F "_law_edit" ["_law_state", "_law_sheet_here"] 4 G__law_edit :=
  ⟨f, _, D__law_edit (F := F) (fun_mk (st := (topS 43)) l c k) (m_len := m_len) (d__law_drawn := d__law_drawn) (m_sorted := m_sorted) (m_min := m_min) (d__law_put := d__law_put) (d__law_at := d__law_at), g, k, (fun_mk (st := (topS 43)) l c k).binds (ps := ["_law_state", "_law_sheet_here"]) fun _ _ _ _ _ _ us hl => match us, hl with | [_, _], _ => rfl⟩

theorem sc__law_numbers : FnScope ["_law_sheet_here", "_law_found", "_law_row_here", "_law_column", "_law_number", "_law_sign_here"] ["_law_sheet_here"] (defScope (topS 42)) := ⟨rfl, rfl, rfl, by decide +kernel, rfl, by decide +kernel, by decide +kernel⟩
theorem D__law_numbers {f : Addr} {fd : FuncData} (Fn : Fun F.K "_law_numbers" "_law_numbers" (topS 42) f fd) (m_enumerate : mg "enumerate" = none) (m_int : mg "int" = none) : FnOk P w F.K mg base (L2.CX P w) 1 f fd ["_law_sheet_here"] (spM F 1 G__law_numbers) :=
  (fn_ok Fn sc__law_numbers (by decide) (fun cdv A outer s H E hr =>
    show ISs _ F (fun cls d _ H => E cls d H) _ M__law_numbers from (iss_cons (is_parP (i := 1) (j := 2) (l := 3) (ps_par3 (i := 1) (j := 2) (l := 3) rfl sc__law_numbers.nd rfl rfl rfl (by decide) (by decide) (by decide) rfl rfl rfl (pa_cons (pe_dispT1 (hu_of hr) (pe_tup (pa_cons pe_int (pa_cons pe_int pa_nil))) pe_int) (pa_cons pe_int (pa_cons pe_int pa_nil))) (by rfl)))
    (iss_cons (is_for (t := (.tp [(.nm 4), (.nm 5)])) rfl (ps_for (passes_of rfl) rfl (ii_enumS (by rfl) m_enumerate (ie_var (i := 0) (pv 0))) (pg_tup rfl (pgs_cons (pg_name (i := 4) sc__law_numbers.nd rfl (.inl rfl)) (pgs_cons (pg_name (i := 5) sc__law_numbers.nd rfl (.inl rfl)) pgs_nil)))
    (iss_cons (is_asg (t := (.tp [(.nm 2), (.nm 3)])) rfl (ps_asg (ie_ix (ie_frz (il_lst (ia_cons (ie_tup (ia_cons (ie_var (i := 2) (pv 2)) (ia_cons (ie_op op_addA os_add (ie_var (i := 3) (pv 3)) ie_int) ia_nil))) (ia_cons (ie_tup (ia_cons (ie_op op_addA os_add (ie_var (i := 2) (pv 2)) ie_int) (ia_cons ie_int ia_nil))) ia_nil)))) (ie_callTy call_int1 cs_int1 (by rfl) m_int (by decide +kernel) (ia_cons (ie_cmp (op_eqD hr.units) os_eq (ie_var (i := 5) (pv 5)) (ie_str (l := [10]) (by decide +kernel)) (nomark _)) ia_nil)) rfl (fun _ _ => rfl)) (pg_tup rfl (pgs_cons (pg_name (i := 2) sc__law_numbers.nd rfl (.inl rfl)) (pgs_cons (pg_name (i := 3) sc__law_numbers.nd rfl (.inl rfl)) pgs_nil)))))
    (iss_one (is_ownPPut (i := 1) (ps_dput (hu_of hr) (pv 1) (ie_tup (ia_cons (ie_var (i := 2) (pv 2)) (ia_cons (ie_var (i := 3) (pv 3)) ia_nil))) (ie_op op_addA os_add (ie_var (i := 4) (pv 4)) ie_int) rfl))))))
    (iss_one (is_frzP (is_ret (ie_var (i := 1) (pv 1))))))))).imp (spM.imp GP__law_numbers)
theorem E__law_numbers {f : Addr} {od an : Option Addr} {sl : Array (Option Value)} {oc kV dc pm cd ct : Value} (l : F.K.lookup f = some ⟨oc, od, .func (PySem.W.fnOf "_law_numbers" "_law_numbers" (defArgs (topS 42)) (defBody (topS 42)) (defScope (topS 42)) .none kV dc pm an cd ct), sl⟩) (c : PySem.W.codeIn F.K cd "_law_numbers" = true) (k : PySem.W.keepIn F.K (.ref f) = true) (g : mg "_law_numbers" = some (.ref f)) (m_enumerate : mg "enumerate" = none) (m_int : mg "int" = none) : DfM P w F.K mg base F "_law_numbers" ["_law_sheet_here"] 1 G__law_numbers :=
  ⟨f, _, D__law_numbers (F := F) (fun_mk (st := (topS 42)) l c k) (m_enumerate := m_enumerate) (m_int := m_int), g, k, (fun_mk (st := (topS 42)) l c k).binds (ps := ["_law_sheet_here"]) fun _ _ _ _ _ _ us hl => match us, hl with | [_], _ => rfl⟩

theorem sc__law_after : FnScope ["_law_sheet_here", "_law_one", "_law_known", "_law_start_here", "_law_end"] ["_law_sheet_here", "_law_one"] (defScope (topS 44)) := ⟨rfl, rfl, rfl, by decide +kernel, rfl, by decide +kernel, by decide +kernel⟩
theorem D__law_after {f : Addr} {fd : FuncData} (Fn : Fun F.K "_law_after" "_law_after" (topS 44) f fd) (d__law_numbers : DfM P w F.K mg base F "_law_numbers" ["_law_sheet_here"] 1 G__law_numbers) : FnOk P w F.K mg base (L2.CX P w) 2 f fd ["_law_sheet_here", "_law_one"] (spM F 2 G__law_after) :=
  (fn_ok Fn sc__law_after (by decide) (fun cdv A outer s H E hr =>
    show ISs _ F (fun cls d _ H => E cls d H) _ M__law_after from (iss_cons (is_asg (t := .nm 2) rfl (ps_set (i := 2) sc__law_after.nd rfl (.inl rfl) (ie_call d__law_numbers (hr.mono (by decide)) (takes_of rfl rfl rfl rfl) (ia_cons (ie_var (i := 0) (pv 0)) ia_nil))))
    (iss_cons (is_par (i := 3) (j := 4) (ps_par (i := 3) (j := 4) rfl sc__law_after.nd rfl rfl (by decide) rfl rfl (ia_cons (ie_dget (hu_of hr) (ie_var (i := 2) (pv 2)) (ie_ix (ie_var (i := 1) (pv 1)) ie_int rfl (fun _ _ => rfl))) (ia_cons (ie_dget (hu_of hr) (ie_var (i := 2) (pv 2)) (ie_ix (ie_var (i := 1) (pv 1)) ie_int rfl (fun _ _ => rfl))) ia_nil)) (by rfl)))
    (iss_one (is_ret (ie_op op_addA os_add (ie_op op_addA os_add (ie_sl (ie_var (i := 0) (pv 0)) io_none (io_some (ie_var (i := 3) (pv 3))) rfl) (ie_ix (ie_var (i := 1) (pv 1)) ie_int rfl (fun _ _ => rfl))) (ie_sl (ie_var (i := 0) (pv 0)) (io_some (ie_var (i := 4) (pv 4))) io_none rfl)))))))).imp (spM.imp GP__law_after)
theorem E__law_after {f : Addr} {od an : Option Addr} {sl : Array (Option Value)} {oc kV dc pm cd ct : Value} (l : F.K.lookup f = some ⟨oc, od, .func (PySem.W.fnOf "_law_after" "_law_after" (defArgs (topS 44)) (defBody (topS 44)) (defScope (topS 44)) .none kV dc pm an cd ct), sl⟩) (c : PySem.W.codeIn F.K cd "_law_after" = true) (k : PySem.W.keepIn F.K (.ref f) = true) (g : mg "_law_after" = some (.ref f)) (d__law_numbers : DfM P w F.K mg base F "_law_numbers" ["_law_sheet_here"] 1 G__law_numbers) : DfM P w F.K mg base F "_law_after" ["_law_sheet_here", "_law_one"] 2 G__law_after :=
  ⟨f, _, D__law_after (F := F) (fun_mk (st := (topS 44)) l c k) (d__law_numbers := d__law_numbers), g, k, (fun_mk (st := (topS 44)) l c k).binds (ps := ["_law_sheet_here", "_law_one"]) fun _ _ _ _ _ _ us hl => match us, hl with | [_, _], _ => rfl⟩

theorem sc__law_edits : FnScope ["_law_state", "_law_sheet_here", "_law_most", "_law_found", "_law_k"] ["_law_state", "_law_sheet_here", "_law_most"] (defScope (topS 45)) := ⟨rfl, rfl, rfl, by decide +kernel, rfl, by decide +kernel, by decide +kernel⟩
theorem D__law_edits {f : Addr} {fd : FuncData} (Fn : Fun F.K "_law_edits" "_law_edits" (topS 45) f fd) (d__law_drawn : DfM P w F.K mg base F "_law_drawn" ["_law_state", "_law_many"] 1 G__law_drawn) (m_range : mg "range" = none) (d__law_edit : DfM P w F.K mg base F "_law_edit" ["_law_state", "_law_sheet_here"] 4 G__law_edit) (d__law_after : DfM P w F.K mg base F "_law_after" ["_law_sheet_here", "_law_one"] 2 G__law_after) : FnOk P w F.K mg base (L2.CX P w) 5 f fd ["_law_state", "_law_sheet_here", "_law_most"] (spM F 3 G__law_edits) :=
  (fn_ok Fn sc__law_edits (by decide) (fun cdv A outer s H E hr =>
    show ISs _ F (fun cls d _ H => E cls d H) _ M__law_edits from (iss_cons (is_own (i := 3) (ps_set (i := 3) sc__law_edits.nd rfl (.inl rfl) (il_lst ia_nil)))
    (iss_cons (is_for (t := (.nm 4)) rfl (ps_for (passes_of rfl) rfl (ii_rg1 (pi_range1 (by rfl) m_range (pa_cons (ie_call d__law_drawn (hr.mono (by decide)) (takes_of rfl rfl rfl rfl) (ia_cons (ie_var (i := 0) (pv 0)) (ia_cons (ie_op op_addA os_add (ie_var (i := 2) (pv 2)) ie_int) ia_nil))) pa_nil))) (pg_name (i := 4) sc__law_edits.nd rfl (.inl rfl))
    (iss_cons (is_ownApp (i := 3) (ps_expr (pe_bm PySem.F.plainAttrs_list PySem.F.slot_list_append PySem.F.type_list_append mt_append (pv 3) (pa_cons (ie_call d__law_edit (hr.mono (by decide)) (takes_of rfl rfl rfl rfl) (ia_cons (ie_var (i := 0) (pv 0)) (ia_cons (ie_var (i := 1) (pv 1)) ia_nil))) pa_nil))))
    (iss_one (is_asg (t := .nm 1) rfl (ps_set (i := 1) sc__law_edits.nd rfl (.inl rfl) (ie_call d__law_after (hr.mono (by decide)) (takes_of rfl rfl rfl rfl) (ia_cons (ie_var (i := 1) (pv 1)) (ia_cons (ie_ownIx (i := 3) (pe_ix ix_seq (pv 3) (ie_neg ie_int) (fun _ _ => rfl))) ia_nil)))))))))
    (iss_one (is_frz (is_ret (ie_tup (ia_cons (ie_var (i := 3) (pv 3)) (ia_cons (ie_var (i := 1) (pv 1)) ia_nil)))))))))).imp (spM.imp GP__law_edits)
theorem E__law_edits {f : Addr} {od an : Option Addr} {sl : Array (Option Value)} {oc kV dc pm cd ct : Value} (l : F.K.lookup f = some ⟨oc, od, .func (PySem.W.fnOf "_law_edits" "_law_edits" (defArgs (topS 45)) (defBody (topS 45)) (defScope (topS 45)) .none kV dc pm an cd ct), sl⟩) (c : PySem.W.codeIn F.K cd "_law_edits" = true) (k : PySem.W.keepIn F.K (.ref f) = true) (g : mg "_law_edits" = some (.ref f)) (d__law_drawn : DfM P w F.K mg base F "_law_drawn" ["_law_state", "_law_many"] 1 G__law_drawn) (m_range : mg "range" = none) (d__law_edit : DfM P w F.K mg base F "_law_edit" ["_law_state", "_law_sheet_here"] 4 G__law_edit) (d__law_after : DfM P w F.K mg base F "_law_after" ["_law_sheet_here", "_law_one"] 2 G__law_after) : DfM P w F.K mg base F "_law_edits" ["_law_state", "_law_sheet_here", "_law_most"] 5 G__law_edits :=
  ⟨f, _, D__law_edits (F := F) (fun_mk (st := (topS 45)) l c k) (d__law_drawn := d__law_drawn) (m_range := m_range) (d__law_edit := d__law_edit) (d__law_after := d__law_after), g, k, (fun_mk (st := (topS 45)) l c k).binds (ps := ["_law_state", "_law_sheet_here", "_law_most"]) fun _ _ _ _ _ _ us hl => match us, hl with | [_, _, _], _ => rfl⟩

theorem sc__law_runs : FnScope ["_law_sheet_here", "_law_found", "_law_letters", "_law_start_here", "_law_end"] ["_law_sheet_here"] (defScope (topS 47)) := ⟨rfl, rfl, rfl, by decide +kernel, rfl, by decide +kernel, by decide +kernel⟩
theorem D__law_runs {f : Addr} {fd : FuncData} (Fn : Fun F.K "_law_runs" "_law_runs" (topS 47) f fd) (m_len : mg "len" = none) (m_range : mg "range" = none) : FnOk P w F.K mg base (L2.CX P w) 1 f fd ["_law_sheet_here"] (spM F 1 G__law_runs) :=
  (fn_ok Fn sc__law_runs (by decide) (fun cdv A outer s H E hr =>
    show ISs _ F (fun cls d _ H => E cls d H) _ M__law_runs from (iss_cons (is_own (i := 1) (ps_set (i := 1) sc__law_runs.nd rfl (.inl rfl) (il_lst ia_nil)))
    (iss_cons (is_asg (t := .nm 2) rfl (ps_set (i := 2) sc__law_runs.nd rfl (.inl rfl) (ie_str (l := [97, 98, 99, 100, 101, 102, 103, 104, 105, 106, 107, 108, 109, 110, 111, 112, 113, 114, 115, 116, 117, 118, 119, 120, 121, 122]) (by decide +kernel))))
    (iss_cons (is_for (t := (.nm 3)) rfl (ps_for (passes_of rfl) rfl (ii_rg1 (pi_range1 (by rfl) m_range (pa_cons (ie_callB cr_lenA cs_len (by rfl) m_len PySem.boot_len (ia_cons (ie_var (i := 0) (pv 0)) ia_nil)) pa_nil))) (pg_name (i := 3) sc__law_runs.nd rfl (.inl rfl))
    (iss_one (is_if (it_w (iw_and (it_cmp op_inA os_in (ie_ix (ie_var (i := 0) (pv 0)) (ie_var (i := 3) (pv 3)) rfl (fun _ _ => rfl)) (ie_var (i := 2) (pv 2)) rfl) (iw_and1 (it_w (iw_or (it_cmp (op_eqD hr.units) os_eq (ie_var (i := 3) (pv 3)) ie_int (nomark _)) (iw_or1 (it_cmp op_notInA os_in (ie_ix (ie_var (i := 0) (pv 0)) (ie_op op_sub os_sub (ie_var (i := 3) (pv 3)) ie_int) rfl (fun _ _ => rfl)) (ie_var (i := 2) (pv 2)) rfl)))))))
    (iss_cons (is_asg (t := .nm 4) rfl (ps_set (i := 4) sc__law_runs.nd rfl (.inl rfl) (ie_var (i := 3) (pv 3))))
    (iss_cons (is_while (ps_while (passes_of rfl) (it_w (iw_and (it_cmp op_ltA os_lt (ie_var (i := 4) (pv 4)) (ie_callB cr_lenA cs_len (by rfl) m_len PySem.boot_len (ia_cons (ie_var (i := 0) (pv 0)) ia_nil)) (nomark _)) (iw_and1 (it_cmp op_inA os_in (ie_ix (ie_var (i := 0) (pv 0)) (ie_var (i := 4) (pv 4)) rfl (fun _ _ => rfl)) (ie_var (i := 2) (pv 2)) rfl))))
    (iss_one (is_asg (t := .nm 4) rfl (ps_set (i := 4) sc__law_runs.nd rfl (.inl rfl) (ie_op op_addA os_add (ie_var (i := 4) (pv 4)) ie_int))))))
    (iss_one (is_ownApp (i := 1) (ps_expr (pe_bm PySem.F.plainAttrs_list PySem.F.slot_list_append PySem.F.type_list_append mt_append (pv 1) (pa_cons (ie_tup (ia_cons (ie_var (i := 3) (pv 3)) (ia_cons (ie_var (i := 4) (pv 4)) ia_nil))) pa_nil)))))))
    iss_nil))))
    (iss_one (is_frz (is_ret (ie_var (i := 1) (pv 1)))))))))).imp (spM.imp GP__law_runs)
theorem E__law_runs {f : Addr} {od an : Option Addr} {sl : Array (Option Value)} {oc kV dc pm cd ct : Value} (l : F.K.lookup f = some ⟨oc, od, .func (PySem.W.fnOf "_law_runs" "_law_runs" (defArgs (topS 47)) (defBody (topS 47)) (defScope (topS 47)) .none kV dc pm an cd ct), sl⟩) (c : PySem.W.codeIn F.K cd "_law_runs" = true) (k : PySem.W.keepIn F.K (.ref f) = true) (g : mg "_law_runs" = some (.ref f)) (m_len : mg "len" = none) (m_range : mg "range" = none) : DfM P w F.K mg base F "_law_runs" ["_law_sheet_here"] 1 G__law_runs :=
  ⟨f, _, D__law_runs (F := F) (fun_mk (st := (topS 47)) l c k) (m_len := m_len) (m_range := m_range), g, k, (fun_mk (st := (topS 47)) l c k).binds (ps := ["_law_sheet_here"]) fun _ _ _ _ _ _ us hl => match us, hl with | [_], _ => rfl⟩

theorem sc__law_name : FnScope ["_law_state", "_law_sheet_here", "_law_some", "_law_start_here", "_law_end", "_law_letters", "_law_k"] ["_law_state", "_law_sheet_here"] (defScope (topS 46)) := ⟨rfl, rfl, rfl, by decide +kernel, rfl, by decide +kernel, by decide +kernel⟩
theorem D__law_name {f : Addr} {fd : FuncData} (Fn : Fun F.K "_law_name" "_law_name" (topS 46) f fd) (d__law_runs : DfM P w F.K mg base F "_law_runs" ["_law_sheet_here"] 1 G__law_runs) (d__law_drawn : DfM P w F.K mg base F "_law_drawn" ["_law_state", "_law_many"] 1 G__law_drawn) (m_len : mg "len" = none) (m_range : mg "range" = none) : FnOk P w F.K mg base (L2.CX P w) 2 f fd ["_law_state", "_law_sheet_here"] (spM F 2 G__law_name) :=
  (fn_ok Fn sc__law_name (by decide) (fun cdv A outer s H E hr =>
    show ISs _ F (fun cls d _ H => E cls d H) _ M__law_name from (iss_cons (is_asg (t := .nm 2) rfl (ps_set (i := 2) sc__law_name.nd rfl (.inl rfl) (ie_call d__law_runs (hr.mono (by decide)) (takes_of rfl rfl rfl rfl) (ia_cons (ie_var (i := 1) (pv 1)) ia_nil))))
    (iss_cons (is_if (it_w (iw_and (it_cmp (op_neD hr.units) os_ne (ie_var (i := 2) (pv 2)) (ie_frz (il_lst ia_nil)) (nomark _)) (iw_and1 (it_cmp op_gtA os_gt (ie_call d__law_drawn (hr.mono (by decide)) (takes_of rfl rfl rfl rfl) (ia_cons (ie_var (i := 0) (pv 0)) (ia_cons ie_int ia_nil))) ie_int (nomark _)))))
    (iss_cons (is_asg (t := (.tp [(.nm 3), (.nm 4)])) rfl (ps_asg (ie_ix (ie_var (i := 2) (pv 2)) (ie_call d__law_drawn (hr.mono (by decide)) (takes_of rfl rfl rfl rfl) (ia_cons (ie_var (i := 0) (pv 0)) (ia_cons (ie_callB cr_lenA cs_len (by rfl) m_len PySem.boot_len (ia_cons (ie_var (i := 2) (pv 2)) ia_nil)) ia_nil))) rfl (fun _ _ => rfl)) (pg_tup rfl (pgs_cons (pg_name (i := 3) sc__law_name.nd rfl (.inl rfl)) (pgs_cons (pg_name (i := 4) sc__law_name.nd rfl (.inl rfl)) pgs_nil)))))
    (iss_one (is_if (it_w (iw_or (it_cmp op_ltA os_lt (ie_op op_sub os_sub (ie_var (i := 4) (pv 4)) (ie_var (i := 3) (pv 3))) ie_int (nomark _)) (iw_or1 (it_cmp (op_eqD hr.units) os_eq (ie_call d__law_drawn (hr.mono (by decide)) (takes_of rfl rfl rfl rfl) (ia_cons (ie_var (i := 0) (pv 0)) (ia_cons ie_int ia_nil))) ie_int (nomark _)))))
    (iss_one (is_ret (ie_sl (ie_sl (ie_var (i := 1) (pv 1)) (io_some (ie_var (i := 3) (pv 3))) (io_some (ie_var (i := 4) (pv 4))) rfl) io_none (io_some (ie_op op_addA os_add ie_int (ie_call d__law_drawn (hr.mono (by decide)) (takes_of rfl rfl rfl rfl) (ia_cons (ie_var (i := 0) (pv 0)) (ia_cons ie_int ia_nil))))) rfl)))
    iss_nil)))
    iss_nil)
    (iss_cons (is_asg (t := .nm 5) rfl (ps_set (i := 5) sc__law_name.nd rfl (.inr rfl) (ie_ix (ie_frz (il_lst (ia_cons (ie_str (l := [97, 98]) (by decide +kernel)) (ia_cons (ie_str (l := [97, 98, 99, 100, 101, 102, 103, 104, 105, 106, 107, 108, 109, 110, 111, 112, 113, 114, 115, 116, 117, 118, 119, 120, 121, 122]) (by decide +kernel)) ia_nil)))) (ie_call d__law_drawn (hr.mono (by decide)) (takes_of rfl rfl rfl rfl) (ia_cons (ie_var (i := 0) (pv 0)) (ia_cons ie_int ia_nil))) rfl (fun _ _ => rfl))))
    (iss_one (is_ret (ie_join (pe_join (ie_str (l := []) (by decide +kernel)) (ie_frz (ILc (t := (.nm 6)) rfl (pe_lc (own := [("_law_k", 6)]) (g := Tg.g F.K (.nm 6)) (tt := denT F W0 mYes) (te := denE F W0 (mOp oIx (mVar 5) (mCall (ck 2 G__law_drawn) (aCons (mVar 0) (aCons (mCB oLen (aCons (mVar 5) aNil)) aNil))))) rfl sc__law_name.nd (ii_rg1 (pi_range1 (by rfl) m_range (pa_cons (ie_op op_addA os_add ie_int (ie_call d__law_drawn (hr.mono (by decide)) (takes_of rfl rfl rfl rfl) (ia_cons (ie_var (i := 0) (pv 0)) (ia_cons ie_int ia_nil)))) pa_nil))) (blkOk_by (own := [("_law_k", 6)]) (N := ["_law_state", "_law_sheet_here", "_law_some", "_law_start_here", "_law_end", "_law_letters", "_law_k"]) (sc := defScope (topS 46)) (by decide +kernel)) (fun _ _ _ _ _ => (pg_name (i := 6) sc__law_name.nd rfl (.inl rfl))) (fun _ _ _ _ _ => pts_yes) (fun _ _ _ _ _ => (ie_ix (ie_var (i := 5) (pv 5)) (ie_call d__law_drawn (hr.mono (by decide)) takes0 (ia_cons (ie_var (i := 0) (pv 0)) (ia_cons (ie_callB cr_lenA cs_len (by rfl) m_len PySem.boot_len (ia_cons (ie_var (i := 5) (pv 5)) ia_nil)) ia_nil))) rfl (fun _ _ => rfl))))))))))))))).imp (spM.imp GP__law_name)
theorem E__law_name {f : Addr} {od an : Option Addr} {sl : Array (Option Value)} {oc kV dc pm cd ct : Value} (l : F.K.lookup f = some ⟨oc, od, .func (PySem.W.fnOf "_law_name" "_law_name" (defArgs (topS 46)) (defBody (topS 46)) (defScope (topS 46)) .none kV dc pm an cd ct), sl⟩) (c : PySem.W.codeIn F.K cd "_law_name" = true) (k : PySem.W.keepIn F.K (.ref f) = true) (g : mg "_law_name" = some (.ref f)) (d__law_runs : DfM P w F.K mg base F "_law_runs" ["_law_sheet_here"] 1 G__law_runs) (d__law_drawn : DfM P w F.K mg base F "_law_drawn" ["_law_state", "_law_many"] 1 G__law_drawn) (m_len : mg "len" = none) (m_range : mg "range" = none) : DfM P w F.K mg base F "_law_name" ["_law_state", "_law_sheet_here"] 2 G__law_name :=
  ⟨f, _, D__law_name (F := F) (fun_mk (st := (topS 46)) l c k) (d__law_runs := d__law_runs) (d__law_drawn := d__law_drawn) (m_len := m_len) (m_range := m_range), g, k, (fun_mk (st := (topS 46)) l c k).binds (ps := ["_law_state", "_law_sheet_here"]) fun _ _ _ _ _ _ us hl => match us, hl with | [_, _], _ => rfl⟩

theorem sc__law_want : FnScope ["_law_state", "_law_sheet_here", "_law_place", "_law_name_here"] ["_law_state", "_law_sheet_here"] (defScope (topS 48)) := ⟨rfl, rfl, rfl, by decide +kernel, rfl, by decide +kernel, by decide +kernel⟩
theorem D__law_want {f : Addr} {fd : FuncData} (Fn : Fun F.K "_law_want" "_law_want" (topS 48) f fd) (m_len : mg "len" = none) (d__law_drawn : DfM P w F.K mg base F "_law_drawn" ["_law_state", "_law_many"] 1 G__law_drawn) (d__law_at : DfM P w F.K mg base F "_law_at" ["_law_sheet_here", "_law_number"] 1 G__law_at) (d__law_name : DfM P w F.K mg base F "_law_name" ["_law_state", "_law_sheet_here"] 2 G__law_name) : FnOk P w F.K mg base (L2.CX P w) 3 f fd ["_law_state", "_law_sheet_here"] (spM F 2 G__law_want) :=
  (fn_ok Fn sc__law_want (by decide) (fun cdv A outer s H E hr =>
    show ISs _ F (fun cls d _ H => E cls d H) _ M__law_want from (iss_cons (is_asg (t := .nm 2) rfl (ps_set (i := 2) sc__law_want.nd rfl (.inl rfl) (ie_call d__law_at (hr.mono (by decide)) (takes_of rfl rfl rfl rfl) (ia_cons (ie_var (i := 1) (pv 1)) (ia_cons (ie_call d__law_drawn (hr.mono (by decide)) (takes_of rfl rfl rfl rfl) (ia_cons (ie_var (i := 0) (pv 0)) (ia_cons (ie_op op_addA os_add (ie_callB cr_lenA cs_len (by rfl) m_len PySem.boot_len (ia_cons (ie_var (i := 1) (pv 1)) ia_nil)) ie_int) ia_nil))) ia_nil)))))
    (iss_cons (is_asg (t := .nm 3) rfl (ps_set (i := 3) sc__law_want.nd rfl (.inl rfl) (ie_call d__law_name (hr.mono (by decide)) (takes_of rfl rfl rfl rfl) (ia_cons (ie_var (i := 0) (pv 0)) (ia_cons (ie_var (i := 1) (pv 1)) ia_nil)))))
    (iss_one (is_ret (ie_ix (ie_frz (il_lst (ia_cons (ie_tup (ia_cons (ie_str (l := [102, 105, 110, 100]) (by decide +kernel)) (ia_cons (ie_var (i := 3) (pv 3)) ia_nil))) (ia_cons (ie_tup (ia_cons (ie_str (l := [114, 111, 119, 115]) (by decide +kernel)) (ia_cons (ie_var (i := 3) (pv 3)) ia_nil))) (ia_cons (ie_tup (ia_cons (ie_str (l := [119, 111, 114, 100]) (by decide +kernel)) (ia_cons (ie_var (i := 2) (pv 2)) ia_nil))) (ia_cons (ie_tup (ia_cons (ie_str (l := [114, 101, 110, 97, 109, 101]) (by decide +kernel)) (ia_cons (ie_var (i := 2) (pv 2)) (ia_cons (ie_var (i := 3) (pv 3)) ia_nil)))) ia_nil)))))) (ie_call d__law_drawn (hr.mono (by decide)) (takes_of rfl rfl rfl rfl) (ia_cons (ie_var (i := 0) (pv 0)) (ia_cons ie_int ia_nil))) rfl (fun _ _ => rfl)))))))).imp (spM.imp GP__law_want)
theorem E__law_want {f : Addr} {od an : Option Addr} {sl : Array (Option Value)} {oc kV dc pm cd ct : Value} (l : F.K.lookup f = some ⟨oc, od, .func (PySem.W.fnOf "_law_want" "_law_want" (defArgs (topS 48)) (defBody (topS 48)) (defScope (topS 48)) .none kV dc pm an cd ct), sl⟩) (c : PySem.W.codeIn F.K cd "_law_want" = true) (k : PySem.W.keepIn F.K (.ref f) = true) (g : mg "_law_want" = some (.ref f)) (m_len : mg "len" = none) (d__law_drawn : DfM P w F.K mg base F "_law_drawn" ["_law_state", "_law_many"] 1 G__law_drawn) (d__law_at : DfM P w F.K mg base F "_law_at" ["_law_sheet_here", "_law_number"] 1 G__law_at) (d__law_name : DfM P w F.K mg base F "_law_name" ["_law_state", "_law_sheet_here"] 2 G__law_name) : DfM P w F.K mg base F "_law_want" ["_law_state", "_law_sheet_here"] 3 G__law_want :=
  ⟨f, _, D__law_want (F := F) (fun_mk (st := (topS 48)) l c k) (m_len := m_len) (d__law_drawn := d__law_drawn) (d__law_at := d__law_at) (d__law_name := d__law_name), g, k, (fun_mk (st := (topS 48)) l c k).binds (ps := ["_law_state", "_law_sheet_here"]) fun _ _ _ _ _ _ us hl => match us, hl with | [_, _], _ => rfl⟩

theorem sc__law_play : FnScope ["_law_state", "_law_files", "_law_found", "_law_turn", "_law_kind", "_law_file", "_law_number", "_law_sheet_here", "_law_some"] ["_law_state", "_law_files"] (defScope (topS 50)) := ⟨rfl, rfl, rfl, by decide +kernel, rfl, by decide +kernel, by decide +kernel⟩
theorem D__law_play {f : Addr} {fd : FuncData} (Fn : Fun F.K "_law_play" "_law_play" (topS 50) f fd) (d__law_drawn : DfM P w F.K mg base F "_law_drawn" ["_law_state", "_law_many"] 1 G__law_drawn) (m_range : mg "range" = none) (d__law_sheet : DfM P w F.K mg base F "_law_sheet" ["_law_state"] 4 G__law_sheet) (d__law_edits : DfM P w F.K mg base F "_law_edits" ["_law_state", "_law_sheet_here", "_law_most"] 5 G__law_edits) (m_tuple : mg "tuple" = none) (d__law_put : DfM P w F.K mg base F "_law_put" ["_law_state", "_law_most"] 3 G__law_put) (d__law_want : DfM P w F.K mg base F "_law_want" ["_law_state", "_law_sheet_here"] 3 G__law_want) : FnOk P w F.K mg base (L2.CX P w) 6 f fd ["_law_state", "_law_files"] (spM F 2 G__law_play) :=
  (fn_ok Fn sc__law_play (by decide) (fun cdv A outer s H E hr =>
    show ISs _ F (fun cls d _ H => E cls d H) _ M__law_play from (iss_cons (is_own (i := 2) (ps_set (i := 2) sc__law_play.nd rfl (.inl rfl) (il_lst ia_nil)))
    (iss_cons (is_for (t := (.nm 3)) rfl (ps_for (passes_of rfl) rfl (ii_rg1 (pi_range1 (by rfl) m_range (pa_cons (ie_call d__law_drawn (hr.mono (by decide)) (takes_of rfl rfl rfl rfl) (ia_cons (ie_var (i := 0) (pv 0)) (ia_cons ie_int ia_nil))) pa_nil))) (pg_name (i := 3) sc__law_play.nd rfl (.inl rfl))
    (iss_cons (is_par (i := 4) (j := 5) (ps_par (i := 4) (j := 5) rfl sc__law_play.nd rfl rfl (by decide) rfl rfl (ia_cons (ie_call d__law_drawn (hr.mono (by decide)) (takes_of rfl rfl rfl rfl) (ia_cons (ie_var (i := 0) (pv 0)) (ia_cons ie_int ia_nil))) (ia_cons (ie_call d__law_drawn (hr.mono (by decide)) (takes_of rfl rfl rfl rfl) (ia_cons (ie_var (i := 0) (pv 0)) (ia_cons (ie_var (i := 1) (pv 1)) ia_nil))) ia_nil)) (by rfl)))
    (iss_cons (is_asg (t := .nm 6) rfl (ps_set (i := 6) sc__law_play.nd rfl (.inl rfl) (ie_call d__law_drawn (hr.mono (by decide)) (takes_of rfl rfl rfl rfl) (ia_cons (ie_var (i := 0) (pv 0)) (ia_cons (ie_ix (ie_frz (il_lst (ia_cons ie_int (ia_cons ie_int ia_nil)))) (ie_op op_fdivW os_div (ie_call d__law_drawn (hr.mono (by decide)) (takes_of rfl rfl rfl rfl) (ia_cons (ie_var (i := 0) (pv 0)) (ia_cons ie_int ia_nil))) ie_int) rfl (fun _ _ => rfl)) ia_nil)))))
    (iss_cons (is_asg (t := .nm 7) rfl (ps_set (i := 7) sc__law_play.nd rfl (.inl rfl) (ie_sl (ie_call d__law_sheet (hr.mono (by decide)) (takes_of rfl rfl rfl rfl) (ia_cons (ie_var (i := 0) (pv 0)) ia_nil)) io_none (io_some ie_int) rfl)))
    (iss_cons (is_asg (t := .nm 8) rfl (setFrz (ps_set (i := 8) sc__law_play.nd rfl (.inl rfl) (il_lst (ia_cons (ie_tup (ia_cons (ie_str (l := [111, 112, 101, 110]) (by decide +kernel)) (ia_cons (ie_var (i := 5) (pv 5)) (ia_cons (ie_var (i := 7) (pv 7)) ia_nil)))) (ia_cons (ie_tup (ia_cons (ie_str (l := [111, 112, 101, 110]) (by decide +kernel)) (ia_cons (ie_var (i := 5) (pv 5)) (ia_cons (ie_var (i := 7) (pv 7)) ia_nil)))) (ia_cons (ie_tup (ia_cons (ie_str (l := [101, 100, 105, 116]) (by decide +kernel)) (ia_cons (ie_var (i := 5) (pv 5)) (ia_cons (ie_callTy call_tuple_of cs_tuple (by rfl) m_tuple (by decide +kernel) (ia_cons (ie_ix (ie_call d__law_edits (hr.mono (by decide)) (takes_of rfl rfl rfl rfl) (ia_cons (ie_var (i := 0) (pv 0)) (ia_cons (ie_var (i := 7) (pv 7)) (ia_cons ie_int ia_nil)))) ie_int rfl (fun _ _ => rfl)) ia_nil)) ia_nil)))) ia_nil)))))))
    (iss_cons (is_asg (t := .nm 8) rfl (setFrz (ps_set (i := 8) sc__law_play.nd rfl (.inl rfl) (il_add (ie_var (i := 8) (pv 8)) (ie_frz (il_lst (ia_cons (ie_tup (ia_cons (ie_str (l := [101, 100, 105, 116]) (by decide +kernel)) (ia_cons (ie_var (i := 5) (pv 5)) (ia_cons (ie_tup (ia_cons (ie_tup (ia_cons (ie_tup (ia_cons ie_int (ia_cons ie_int ia_nil))) (ia_cons (ie_tup (ia_cons ie_int (ia_cons ie_int ia_nil))) (ia_cons (ie_call d__law_put (hr.mono (by decide)) (takes_of rfl rfl rfl rfl) (ia_cons (ie_var (i := 0) (pv 0)) (ia_cons ie_int ia_nil))) ia_nil)))) ia_nil)) ia_nil)))) (ia_cons (ie_tup (ia_cons (ie_str (l := [99, 108, 111, 115, 101]) (by decide +kernel)) (ia_cons (ie_var (i := 5) (pv 5)) ia_nil))) ia_nil))))))))
    (iss_cons (is_asg (t := .nm 8) rfl (setFrz (ps_set (i := 8) sc__law_play.nd rfl (.inl rfl) (il_add (ie_var (i := 8) (pv 8)) (ie_frz (il_lst (ia_cons (ie_tup (ia_cons (ie_str (l := [97, 115, 107]) (by decide +kernel)) (ia_cons (ie_var (i := 5) (pv 5)) (ia_cons (ie_call d__law_want (hr.mono (by decide)) (takes_of rfl rfl rfl rfl) (ia_cons (ie_var (i := 0) (pv 0)) (ia_cons (ie_var (i := 7) (pv 7)) ia_nil))) ia_nil)))) (ia_cons (ie_tup (ia_cons (ie_str (l := [97, 115, 107]) (by decide +kernel)) (ia_cons (ie_var (i := 5) (pv 5)) (ia_cons (ie_call d__law_want (hr.mono (by decide)) (takes_of rfl rfl rfl rfl) (ia_cons (ie_var (i := 0) (pv 0)) (ia_cons (ie_var (i := 7) (pv 7)) ia_nil))) ia_nil)))) (ia_cons (ie_tup (ia_cons (ie_str (l := [111, 102, 102]) (by decide +kernel)) (ia_cons (ie_var (i := 6) (pv 6)) ia_nil))) ia_nil)))))))))
    (iss_cons (is_asg (t := .nm 8) rfl (setFrz (ps_set (i := 8) sc__law_play.nd rfl (.inl rfl) (il_add (ie_var (i := 8) (pv 8)) (ie_frz (il_lst (ia_cons (ie_tup (ia_cons (ie_str (l := [116, 97, 107, 101]) (by decide +kernel)) (ia_cons (ie_var (i := 6) (pv 6)) ia_nil))) (ia_cons (ie_tup (ia_cons (ie_str (l := [99, 97, 114, 114, 121]) (by decide +kernel)) ia_nil)) (ia_cons (ie_tup (ia_cons (ie_str (l := [98, 114, 105, 110, 103]) (by decide +kernel)) ia_nil)) (ia_cons (ie_tup (ia_cons (ie_str (l := [119, 111, 114, 107]) (by decide +kernel)) (ia_cons (ie_var (i := 6) (pv 6)) ia_nil))) (ia_cons (ie_tup (ia_cons (ie_str (l := [102, 97, 108, 108]) (by decide +kernel)) ia_nil)) (ia_cons (ie_tup (ia_cons (ie_str (l := [97, 110, 101, 119]) (by decide +kernel)) ia_nil)) (ia_cons (ie_tup (ia_cons (ie_str (l := [115, 101, 116, 116, 108, 101]) (by decide +kernel)) ia_nil)) ia_nil)))))))))))))
    (iss_one (is_ownApp (i := 2) (ps_expr (pe_bm PySem.F.plainAttrs_list PySem.F.slot_list_append PySem.F.type_list_append mt_append (pv 2) (pa_cons (ie_ix (ie_var (i := 8) (pv 8)) (ie_var (i := 4) (pv 4)) rfl (fun _ _ => rfl)) pa_nil))))))))))))))
    (iss_one (is_frz (is_ret (ie_var (i := 2) (pv 2))))))))).imp (spM.imp GP__law_play)
theorem E__law_play {f : Addr} {od an : Option Addr} {sl : Array (Option Value)} {oc kV dc pm cd ct : Value} (l : F.K.lookup f = some ⟨oc, od, .func (PySem.W.fnOf "_law_play" "_law_play" (defArgs (topS 50)) (defBody (topS 50)) (defScope (topS 50)) .none kV dc pm an cd ct), sl⟩) (c : PySem.W.codeIn F.K cd "_law_play" = true) (k : PySem.W.keepIn F.K (.ref f) = true) (g : mg "_law_play" = some (.ref f)) (d__law_drawn : DfM P w F.K mg base F "_law_drawn" ["_law_state", "_law_many"] 1 G__law_drawn) (m_range : mg "range" = none) (d__law_sheet : DfM P w F.K mg base F "_law_sheet" ["_law_state"] 4 G__law_sheet) (d__law_edits : DfM P w F.K mg base F "_law_edits" ["_law_state", "_law_sheet_here", "_law_most"] 5 G__law_edits) (m_tuple : mg "tuple" = none) (d__law_put : DfM P w F.K mg base F "_law_put" ["_law_state", "_law_most"] 3 G__law_put) (d__law_want : DfM P w F.K mg base F "_law_want" ["_law_state", "_law_sheet_here"] 3 G__law_want) : DfM P w F.K mg base F "_law_play" ["_law_state", "_law_files"] 6 G__law_play :=
  ⟨f, _, D__law_play (F := F) (fun_mk (st := (topS 50)) l c k) (d__law_drawn := d__law_drawn) (m_range := m_range) (d__law_sheet := d__law_sheet) (d__law_edits := d__law_edits) (m_tuple := m_tuple) (d__law_put := d__law_put) (d__law_want := d__law_want), g, k, (fun_mk (st := (topS 50)) l c k).binds (ps := ["_law_state", "_law_files"]) fun _ _ _ _ _ _ us hl => match us, hl with | [_, _], _ => rfl⟩

theorem sc_written_text : FnScope ["text"] ["text"] (defScope (topS 26)) := ⟨rfl, rfl, rfl, by decide +kernel, rfl, by decide +kernel, by decide +kernel⟩
theorem D_written_text {f : Addr} {fd : FuncData} {tc_EMPTY : Tok} (c_EMPTY : mg "EMPTY" = some (.str (S [126, 46]) tc_EMPTY)) (Fn : Fun F.K "written_text" "written_text" (topS 26) f fd) : FnOk P w F.K mg base (L2.CX P w) 1 f fd ["text"] (spM F 1 G_written_text) :=
  fn_okT Fn sc_written_text (by decide +kernel) (by decide) (fun vs H Q E h => h.1) fun cdv A outer s H vs Q E hr h => ⟨_, (show PSsT _ (defBody (topS 26)) _ from psst_cons (CwR.pst_if (it_cmp (W := W0) (op_eqD hr.units) os_eq (ie_var (i := 0) (pv 0)) (ie_str (l := []) (by decide +kernel)) (nomark _)) (.of (pss_cons (ps_ret (pe_glob (v := .str (S [126, 46])) (by rfl) c_EMPTY ⟨_, rfl⟩)) pss_nil)) (.of pss_nil)) (psst_cons (CwR.pst_ret (CwR.pet_replT (CwR.pet_replT (CwR.pet_replC (pv 0))))) (.of pss_nil))), wt_reads rfl h⟩
theorem E_written_text {f : Addr} {od an : Option Addr} {sl : Array (Option Value)} {oc kV dc pm cd ct : Value} (l : F.K.lookup f = some ⟨oc, od, .func (PySem.W.fnOf "written_text" "written_text" (defArgs (topS 26)) (defBody (topS 26)) (defScope (topS 26)) .none kV dc pm an cd ct), sl⟩) (c : PySem.W.codeIn F.K cd "written_text" = true) (k : PySem.W.keepIn F.K (.ref f) = true) (g : mg "written_text" = some (.ref f)) {tc_EMPTY : Tok} (c_EMPTY : mg "EMPTY" = some (.str (S [126, 46]) tc_EMPTY)) : DfM P w F.K mg base F "written_text" ["text"] 1 G_written_text :=
  ⟨f, _, D_written_text (F := F) (fun_mk (st := (topS 26)) l c k) (c_EMPTY := c_EMPTY), g, k, (fun_mk (st := (topS 26)) l c k).binds (ps := ["text"]) fun _ _ _ _ _ _ us hl => match us, hl with | [_], _ => rfl⟩

theorem sc_words_of : FnScope ["value", "part", "word"] ["value"] (defScope (topS 25)) := ⟨rfl, rfl, rfl, by decide +kernel, rfl, by decide +kernel, by decide +kernel⟩
theorem D_words_of {f : Addr} {fd : FuncData} (Fn : Fun F.K "words_of" "words_of" (topS 25) f fd) (m_isinstance : mg "isinstance" = none) (m_tuple : mg "tuple" = none) {k : Nat} {R R2 : FnM} (hR : ∀ vs μ Q E, vs.length = 1 → R2 vs μ Q E → P_words_of R vs μ Q E) (r_words_of : DfM P w F.K mg base F "words_of" ["value"] (k + 2) R) (m_str : mg "str" = none) (d_written_text : DfM P w F.K mg base F "written_text" ["text"] 1 G_written_text) : FnOk P w F.K mg base (L2.CX P w) (k + 2 + 1) f fd ["value"] (spM F 1 R2) :=
  (fn_ok Fn sc_words_of (by decide) (fun cdv A outer s H E hr =>
    show ISs _ F (fun cls d _ H => E cls d H) _ (M_words_of R) from (iss_cons (is_if (it_val (ie_isi (T := .tup) (pe_callB call_isi (by rfl) m_isinstance (by decide +kernel) (pa_cons (ie_var (i := 0) (pv 0)) (pa_cons (pe_bltn (v := .ty "tuple") (by rfl) m_tuple (by decide +kernel) rfl) pa_nil)))))
    (iss_one (is_ret (ie_frz (ILc2 (t := (.nm 1)) (t1 := (.nm 2)) rfl (pe_lc2 (own := [("part", 1), ("word", 2)]) (vs1 := [2]) (g := Tg.g F.K (.nm 1)) (g1 := Tg.g F.K (.nm 2)) (tt := denT F W0 mYes) (tt1 := denT F W0 mYes) (te := denE F W0 (mVar 2)) (wi1 := denI F W0 (iLst (mCall (ck 1 R) (aCons (mVar 1) aNil)))) rfl sc_words_of.nd (ii_tup (ie_var (i := 0) (pv 0)) rfl) (blkOk_by (own := [("part", 1), ("word", 2)]) (N := ["value", "part", "word"]) (sc := defScope (topS 25)) (by decide +kernel)) (by decide) (fun _ _ _ _ _ => (pg_name (i := 1) sc_words_of.nd rfl (.inl rfl))) (fun _ _ _ _ _ => pts_yes) (fun _ _ _ _ _ => (ii_lst (ie_call r_words_of hr takes0 (ia_cons (ie_var (i := 1) (pv 1)) ia_nil)) rfl)) (fun _ _ _ _ _ => (pg_name (i := 2) sc_words_of.nd rfl (.inl rfl))) (fun _ _ _ _ _ => pts_yes) (fun _ _ _ _ _ => (ie_var (i := 2) (pv 2))))))))
    iss_nil)
    (iss_cons (is_if (it_val (ie_isi (T := .str) (pe_callB call_isi (by rfl) m_isinstance (by decide +kernel) (pa_cons (ie_var (i := 0) (pv 0)) (pa_cons (pe_bltn (v := .ty "str") (by rfl) m_str (by decide +kernel) rfl) pa_nil)))))
    (iss_one (is_ret (ie_frz (il_lst (ia_cons (ie_call d_written_text (hr.mono (by omega)) (takes_of rfl rfl rfl rfl) (ia_cons (ie_var (i := 0) (pv 0)) ia_nil)) ia_nil)))))
    iss_nil)
    (iss_one (is_ret (ie_frz (il_lst (ia_cons (ie_callTy call_str_int cs_str1 (by rfl) m_str (by decide +kernel) (ia_cons (ie_var (i := 0) (pv 0)) ia_nil)) ia_nil))))))))).imp (spM.imp hR)

theorem sc_written : FnScope ["steps", "step"] ["steps"] (defScope (topS 23)) := ⟨rfl, rfl, rfl, by decide +kernel, rfl, by decide +kernel, by decide +kernel⟩
theorem D_written {f : Addr} {fd : FuncData} (Fn : Fun F.K "written" "written" (topS 23) f fd) (d_words_of : DfM P w F.K mg base F "words_of" ["value"] 8 G_words_of) : FnOk P w F.K mg base (L2.CX P w) 9 f fd ["steps"] (spM F 1 G_written) :=
  (fn_ok Fn sc_written (by decide) (fun cdv A outer s H E hr =>
    show ISs _ F (fun cls d _ H => E cls d H) _ M_written from (iss_one (is_ret (ie_join (pe_join (ie_str (l := [10]) (by decide +kernel)) (ie_frz (ILc (t := (.nm 1)) rfl (pe_lc (own := [("step", 1)]) (g := Tg.g F.K (.nm 1)) (tt := denT F W0 mYes) (te := denE F W0 (mSm gJoin (mC (.str [32])) (mCall (ck 1 G_words_of) (aCons (mVar 1) aNil)))) rfl sc_written.nd (ii_lst (ie_var (i := 0) (pv 0)) rfl) (blkOk_by (own := [("step", 1)]) (N := ["steps", "step"]) (sc := defScope (topS 23)) (by decide +kernel)) (fun _ _ _ _ _ => (pg_name (i := 1) sc_written.nd rfl (.inl rfl))) (fun _ _ _ _ _ => pts_yes) (fun _ _ _ _ _ => (ie_join (pe_join (ie_str (l := [32]) (by decide +kernel)) (ie_call d_words_of (hr.mono (by decide)) takes0 (ia_cons (ie_var (i := 1) (pv 1)) ia_nil)))))))))))))).imp (spM.imp GP_written)
theorem E_written {f : Addr} {od an : Option Addr} {sl : Array (Option Value)} {oc kV dc pm cd ct : Value} (l : F.K.lookup f = some ⟨oc, od, .func (PySem.W.fnOf "written" "written" (defArgs (topS 23)) (defBody (topS 23)) (defScope (topS 23)) .none kV dc pm an cd ct), sl⟩) (c : PySem.W.codeIn F.K cd "written" = true) (k : PySem.W.keepIn F.K (.ref f) = true) (g : mg "written" = some (.ref f)) (d_words_of : DfM P w F.K mg base F "words_of" ["value"] 8 G_words_of) : DfM P w F.K mg base F "written" ["steps"] 9 G_written :=
  ⟨f, _, D_written (F := F) (fun_mk (st := (topS 23)) l c k) (d_words_of := d_words_of), g, k, (fun_mk (st := (topS 23)) l c k).binds (ps := ["steps"]) fun _ _ _ _ _ _ us hl => match us, hl with | [_], _ => rfl⟩

theorem sc__law_spoilt : FnScope ["_law_state", "_law_text", "_law_way", "_law_at_here", "_law_sign_here", "_law_rows", "_law_k", "_law_words", "_law_j", "_law_odd"] ["_law_state", "_law_text"] (defScope (topS 55)) := ⟨rfl, rfl, rfl, by decide +kernel, rfl, by decide +kernel, by decide +kernel⟩
theorem D__law_spoilt {f : Addr} {fd : FuncData} (Fn : Fun F.K "_law_spoilt" "_law_spoilt" (topS 55) f fd) (m_len : mg "len" = none) (d__law_drawn : DfM P w F.K mg base F "_law_drawn" ["_law_state", "_law_many"] 1 G__law_drawn) (d__law_sign : DfM P w F.K mg base F "_law_sign" ["_law_state"] 2 G__law_sign) (m_int : mg "int" = none) : FnOk P w F.K mg base (L2.CX P w) 3 f fd ["_law_state", "_law_text"] (spM F 2 G__law_spoilt) :=
  (fn_ok Fn sc__law_spoilt (by decide) (fun cdv A outer s H E hr =>
    show ISs _ F (fun cls d _ H => E cls d H) _ M__law_spoilt from (iss_cons (is_par (i := 2) (j := 3) (ps_par (i := 2) (j := 3) rfl sc__law_spoilt.nd rfl rfl (by decide) rfl rfl (ia_cons (ie_call d__law_drawn (hr.mono (by decide)) (takes_of rfl rfl rfl rfl) (ia_cons (ie_var (i := 0) (pv 0)) (ia_cons ie_int ia_nil))) (ia_cons (ie_call d__law_drawn (hr.mono (by decide)) (takes_of rfl rfl rfl rfl) (ia_cons (ie_var (i := 0) (pv 0)) (ia_cons (ie_op op_addA os_add (ie_callB cr_lenA cs_len (by rfl) m_len PySem.boot_len (ia_cons (ie_var (i := 1) (pv 1)) ia_nil)) ie_int) ia_nil))) ia_nil)) (by rfl)))
    (iss_cons (is_asg (t := .nm 4) rfl (ps_set (i := 4) sc__law_spoilt.nd rfl (.inl rfl) (ie_ix (ie_frz (il_lst (ia_cons (ie_ix (ie_str (l := [48, 49, 50, 51, 52, 53, 54, 55, 56, 57, 32, 126, 46, 95, 47, 45]) (by decide +kernel)) (ie_call d__law_drawn (hr.mono (by decide)) (takes_of rfl rfl rfl rfl) (ia_cons (ie_var (i := 0) (pv 0)) (ia_cons ie_int ia_nil))) rfl (fun _ _ => rfl)) (ia_cons (ie_call d__law_sign (hr.mono (by decide)) (takes_of rfl rfl rfl rfl) (ia_cons (ie_var (i := 0) (pv 0)) ia_nil)) ia_nil)))) (ie_call d__law_drawn (hr.mono (by decide)) (takes_of rfl rfl rfl rfl) (ia_cons (ie_var (i := 0) (pv 0)) (ia_cons ie_int ia_nil))) rfl (fun _ _ => rfl))))
    (iss_cons (is_if (it_cmp op_ltA os_lt (ie_var (i := 2) (pv 2)) ie_int (nomark _))
    (iss_one (is_ret (ie_op op_addA os_add (ie_op op_addA os_add (ie_sl (ie_var (i := 1) (pv 1)) io_none (io_some (ie_var (i := 3) (pv 3))) rfl) (ie_ix (ie_frz (il_lst (ia_cons (ie_var (i := 4) (pv 4)) (ia_cons (ie_str (l := []) (by decide +kernel)) (ia_cons (ie_var (i := 4) (pv 4)) ia_nil))))) (ie_var (i := 2) (pv 2)) rfl (fun _ _ => rfl))) (ie_sl (ie_var (i := 1) (pv 1)) (io_some (ie_op op_addA os_add (ie_var (i := 3) (pv 3)) (ie_callTy call_int1 cs_int1 (by rfl) m_int (by decide +kernel) (ia_cons (ie_cmp op_gtA os_gt (ie_var (i := 2) (pv 2)) ie_int (nomark _)) ia_nil)))) io_none rfl))))
    iss_nil)
    (iss_cons (is_asg (t := .nm 5) rfl (setFrz (ps_set (i := 5) sc__law_spoilt.nd rfl (.inl rfl) (il_split (pe_split (ie_var (i := 1) (pv 1)) (ie_str (l := [10]) (by decide +kernel)))))))
    (iss_cons (is_asg (t := .nm 6) rfl (ps_set (i := 6) sc__law_spoilt.nd rfl (.inl rfl) (ie_call d__law_drawn (hr.mono (by decide)) (takes_of rfl rfl rfl rfl) (ia_cons (ie_var (i := 0) (pv 0)) (ia_cons (ie_callB cr_lenA cs_len (by rfl) m_len PySem.boot_len (ia_cons (ie_var (i := 5) (pv 5)) ia_nil)) ia_nil)))))
    (iss_cons (is_if (it_cmp op_ltA os_lt (ie_var (i := 2) (pv 2)) ie_int (nomark _))
    (iss_one (is_ret (ie_join (pe_join (ie_str (l := [10]) (by decide +kernel)) (ie_ix (ie_frz (il_lst (ia_cons (ie_frz (il_add (ie_frz (il_sl (ie_var (i := 5) (pv 5)) io_none (io_some (ie_var (i := 6) (pv 6))) rfl)) (ie_frz (il_sl (ie_var (i := 5) (pv 5)) (io_some (ie_op op_addA os_add (ie_var (i := 6) (pv 6)) ie_int)) io_none rfl)))) (ia_cons (ie_frz (il_add (ie_frz (il_sl (ie_var (i := 5) (pv 5)) io_none (io_some (ie_op op_addA os_add (ie_var (i := 6) (pv 6)) ie_int)) rfl)) (ie_frz (il_sl (ie_var (i := 5) (pv 5)) (io_some (ie_var (i := 6) (pv 6))) io_none rfl)))) (ia_cons (ie_frz (il_add (ie_frz (il_sl (ie_var (i := 5) (pv 5)) (io_some (ie_var (i := 6) (pv 6))) io_none rfl)) (ie_frz (il_sl (ie_var (i := 5) (pv 5)) io_none (io_some (ie_var (i := 6) (pv 6))) rfl)))) ia_nil))))) (ie_op op_sub os_sub (ie_var (i := 2) (pv 2)) ie_int) rfl (fun _ _ => rfl))))))
    iss_nil)
    (iss_cons (is_asg (t := .nm 7) rfl (setFrz (ps_set (i := 7) sc__law_spoilt.nd rfl (.inl rfl) (il_split (pe_split (ie_ix (ie_var (i := 5) (pv 5)) (ie_var (i := 6) (pv 6)) rfl (fun _ _ => rfl)) (ie_str (l := [32]) (by decide +kernel)))))))
    (iss_cons (is_asg (t := .nm 8) rfl (ps_set (i := 8) sc__law_spoilt.nd rfl (.inl rfl) (ie_call d__law_drawn (hr.mono (by decide)) (takes_of rfl rfl rfl rfl) (ia_cons (ie_var (i := 0) (pv 0)) (ia_cons (ie_callB cr_lenA cs_len (by rfl) m_len PySem.boot_len (ia_cons (ie_var (i := 7) (pv 7)) ia_nil)) ia_nil)))))
    (iss_cons (is_asg (t := .nm 9) rfl (setFrz (ps_set (i := 9) sc__law_spoilt.nd rfl (.inl rfl) (il_lst (ia_cons (ie_str (l := []) (by decide +kernel)) (ia_cons (ie_str (l := [48]) (by decide +kernel)) (ia_cons (ie_str (l := [48, 48]) (by decide +kernel)) (ia_cons (ie_str (l := [48, 55]) (by decide +kernel)) (ia_cons (ie_str (l := [57, 57, 57]) (by decide +kernel)) (ia_cons (ie_str (l := [49, 48, 48, 48]) (by decide +kernel)) (ia_cons (ie_str (l := [45, 49]) (by decide +kernel)) (ia_cons (ie_str (l := [126]) (by decide +kernel)) (ia_cons (ie_str (l := [126, 46]) (by decide +kernel)) (ia_cons (ie_str (l := [126, 95]) (by decide +kernel)) (ia_cons (ie_str (l := [126, 120]) (by decide +kernel)) (ia_cons (ie_str (l := [97, 126, 46]) (by decide +kernel)) (ia_cons (ie_str (l := [126, 46, 126, 46]) (by decide +kernel)) (ia_cons (ie_str (l := [97, 115, 107]) (by decide +kernel)) (ia_cons (ie_str (l := [102, 105, 110, 100]) (by decide +kernel)) (ia_cons (ie_str (l := [119, 111, 114, 100]) (by decide +kernel)) ia_nil))))))))))))))))))))
    (iss_cons (is_asg (t := .nm 9) rfl (setFrz (ps_set (i := 9) sc__law_spoilt.nd rfl (.inl rfl) (il_add (ie_var (i := 9) (pv 9)) (ie_frz (il_lst (ia_cons (ie_str (l := [101, 100, 105, 116]) (by decide +kernel)) (ia_cons (ie_str (l := [114, 101, 110, 97, 109, 101]) (by decide +kernel)) (ia_cons (ie_str (l := [114, 111, 119, 115]) (by decide +kernel)) (ia_cons (ie_str (l := [111, 112, 101, 110]) (by decide +kernel)) (ia_cons (ie_str (l := [115, 101, 116, 116, 108, 101]) (by decide +kernel)) (ia_cons (ie_str (l := [79, 112, 101, 110]) (by decide +kernel)) (ia_cons (ie_str (l := [111, 102, 102]) (by decide +kernel)) (ia_cons (ie_str (l := [98]) (by decide +kernel)) ia_nil))))))))))))))
    (iss_cons (is_asg (t := .nm 7) rfl (setFrz (ps_set (i := 7) sc__law_spoilt.nd rfl (.inl rfl) (il_add (ie_frz (il_add (ie_frz (il_sl (ie_var (i := 7) (pv 7)) io_none (io_some (ie_var (i := 8) (pv 8))) rfl)) (ie_ix (ie_frz (il_lst (ia_cons (ie_frz (il_lst ia_nil)) (ia_cons (ie_frz (il_mul (ie_frz (il_lst (ia_cons (ie_ix (ie_var (i := 7) (pv 7)) (ie_var (i := 8) (pv 8)) rfl (fun _ _ => rfl)) ia_nil))) ie_int)) (ia_cons (ie_frz (il_lst (ia_cons (ie_ix (ie_var (i := 9) (pv 9)) (ie_call d__law_drawn (hr.mono (by decide)) (takes_of rfl rfl rfl rfl) (ia_cons (ie_var (i := 0) (pv 0)) (ia_cons ie_int ia_nil))) rfl (fun _ _ => rfl)) ia_nil))) ia_nil))))) (ie_op op_sub os_sub (ie_var (i := 2) (pv 2)) ie_int) rfl (fun _ _ => rfl)))) (ie_frz (il_sl (ie_var (i := 7) (pv 7)) (io_some (ie_op op_addA os_add (ie_var (i := 8) (pv 8)) ie_int)) io_none rfl))))))
    (iss_one (is_ret (ie_join (pe_join (ie_str (l := [10]) (by decide +kernel)) (ie_frz (il_add (ie_frz (il_add (ie_frz (il_sl (ie_var (i := 5) (pv 5)) io_none (io_some (ie_var (i := 6) (pv 6))) rfl)) (ie_frz (il_lst (ia_cons (ie_join (pe_join (ie_str (l := [32]) (by decide +kernel)) (ie_var (i := 7) (pv 7)))) ia_nil))))) (ie_frz (il_sl (ie_var (i := 5) (pv 5)) (io_some (ie_op op_addA os_add (ie_var (i := 6) (pv 6)) ie_int)) io_none rfl))))))))))))))))))))).imp (spM.imp GP__law_spoilt)
theorem E__law_spoilt {f : Addr} {od an : Option Addr} {sl : Array (Option Value)} {oc kV dc pm cd ct : Value} (l : F.K.lookup f = some ⟨oc, od, .func (PySem.W.fnOf "_law_spoilt" "_law_spoilt" (defArgs (topS 55)) (defBody (topS 55)) (defScope (topS 55)) .none kV dc pm an cd ct), sl⟩) (c : PySem.W.codeIn F.K cd "_law_spoilt" = true) (k : PySem.W.keepIn F.K (.ref f) = true) (g : mg "_law_spoilt" = some (.ref f)) (m_len : mg "len" = none) (d__law_drawn : DfM P w F.K mg base F "_law_drawn" ["_law_state", "_law_many"] 1 G__law_drawn) (d__law_sign : DfM P w F.K mg base F "_law_sign" ["_law_state"] 2 G__law_sign) (m_int : mg "int" = none) : DfM P w F.K mg base F "_law_spoilt" ["_law_state", "_law_text"] 3 G__law_spoilt :=
  ⟨f, _, D__law_spoilt (F := F) (fun_mk (st := (topS 55)) l c k) (m_len := m_len) (d__law_drawn := d__law_drawn) (d__law_sign := d__law_sign) (m_int := m_int), g, k, (fun_mk (st := (topS 55)) l c k).binds (ps := ["_law_state", "_law_text"]) fun _ _ _ _ _ _ us hl => match us, hl with | [_, _], _ => rfl⟩

theorem sc__law_figures : FnScope ["_law_word_here", "_law_sign_here"] ["_law_word_here"] (defScope (topS 51)) := ⟨rfl, rfl, rfl, by decide +kernel, rfl, by decide +kernel, by decide +kernel⟩
theorem D__law_figures {f : Addr} {fd : FuncData} (Fn : Fun F.K "_law_figures" "_law_figures" (topS 51) f fd) (m_len : mg "len" = none) (m_int : mg "int" = none) : FnOk P w F.K mg base (L2.CX P w) 1 f fd ["_law_word_here"] (spM F 1 G__law_figures) :=
  (fn_ok Fn sc__law_figures (by decide) (fun cdv A outer s H E hr =>
    show ISs _ F (fun cls d _ H => E cls d H) _ M__law_figures from (iss_cons (is_if (it_w (iw_or (it_not (it_ch op_ltA os_lt op_ltA os_lt ie_int (ie_callB cr_lenA cs_len (by rfl) m_len PySem.boot_len (ia_cons (ie_var (i := 0) (pv 0)) ia_nil)) ie_int)) (iw_or1 (it_cmp (op_neD hr.units) os_ne (ie_frz (ILc (t := (.nm 1)) rfl (pe_lc (own := [("_law_sign_here", 1)]) (g := Tg.g F.K (.nm 1)) (tt := denT F W0 (mB (mOp (oIn true) (mVar 1) (mC (.str [48, 49, 50, 51, 52, 53, 54, 55, 56, 57]))))) (te := denE F W0 (mVar 1)) rfl sc__law_figures.nd (ii_str (ie_var (i := 0) (pv 0))) (blkOk_by (own := [("_law_sign_here", 1)]) (N := ["_law_word_here", "_law_sign_here"]) (sc := defScope (topS 51)) (by decide +kernel)) (fun _ _ _ _ _ => (pg_name (i := 1) sc__law_figures.nd rfl (.inl rfl))) (fun _ _ _ _ _ => (pts_one (it_cmp op_notInA os_in (ie_var (i := 1) (pv 1)) (ie_str (l := [48, 49, 50, 51, 52, 53, 54, 55, 56, 57]) (by decide +kernel)) rfl))) (fun _ _ _ _ _ => (ie_var (i := 1) (pv 1)))))) (ie_frz (il_lst ia_nil)) (nomark _)))))
    (iss_one (is_ret ie_non))
    iss_nil)
    (iss_one (is_ret (ie_if (it_w (iw_or (it_cmp (op_eqD hr.units) os_eq (ie_var (i := 0) (pv 0)) (ie_str (l := [48]) (by decide +kernel)) (nomark _)) (iw_or1 (it_cmp (op_neD hr.units) os_ne (ie_ix (ie_var (i := 0) (pv 0)) ie_int rfl (fun _ _ => rfl)) (ie_str (l := [48]) (by decide +kernel)) (nomark _))))) (ie_callTy call_int_str cs_intS (by rfl) m_int (by decide +kernel) (ia_cons (ie_var (i := 0) (pv 0)) ia_nil)) ie_non)))))).imp (spM.imp GP__law_figures)
theorem E__law_figures {f : Addr} {od an : Option Addr} {sl : Array (Option Value)} {oc kV dc pm cd ct : Value} (l : F.K.lookup f = some ⟨oc, od, .func (PySem.W.fnOf "_law_figures" "_law_figures" (defArgs (topS 51)) (defBody (topS 51)) (defScope (topS 51)) .none kV dc pm an cd ct), sl⟩) (c : PySem.W.codeIn F.K cd "_law_figures" = true) (k : PySem.W.keepIn F.K (.ref f) = true) (g : mg "_law_figures" = some (.ref f)) (m_len : mg "len" = none) (m_int : mg "int" = none) : DfM P w F.K mg base F "_law_figures" ["_law_word_here"] 1 G__law_figures :=
  ⟨f, _, D__law_figures (F := F) (fun_mk (st := (topS 51)) l c k) (m_len := m_len) (m_int := m_int), g, k, (fun_mk (st := (topS 51)) l c k).binds (ps := ["_law_word_here"]) fun _ _ _ _ _ _ us hl => match us, hl with | [_], _ => rfl⟩

theorem sc__law_unquoted : FnScope ["_law_word_here", "_law_found", "_law_at_here", "_law_one"] ["_law_word_here"] (defScope (topS 52)) := ⟨rfl, rfl, rfl, by decide +kernel, rfl, by decide +kernel, by decide +kernel⟩
theorem D__law_unquoted {f : Addr} {fd : FuncData} (Fn : Fun F.K "_law_unquoted" "_law_unquoted" (topS 52) f fd) (m_len : mg "len" = none) : FnOk P w F.K mg base (L2.CX P w) 1 f fd ["_law_word_here"] (spM F 1 G__law_unquoted) :=
  (fn_ok Fn sc__law_unquoted (by decide) (fun cdv A outer s H E hr =>
    show ISs _ F (fun cls d _ H => E cls d H) _ M__law_unquoted from (iss_cons (is_asg (t := (.tp [(.nm 1), (.nm 2)])) rfl (ps_asg (ie_tup (ia_cons (ie_str (l := []) (by decide +kernel)) (ia_cons ie_int ia_nil))) (pg_tup rfl (pgs_cons (pg_name (i := 1) sc__law_unquoted.nd rfl (.inl rfl)) (pgs_cons (pg_name (i := 2) sc__law_unquoted.nd rfl (.inl rfl)) pgs_nil)))))
    (iss_cons (is_while (ps_while (passes_of rfl) (it_cmp op_ltA os_lt (ie_var (i := 2) (pv 2)) (ie_callB cr_lenA cs_len (by rfl) m_len PySem.boot_len (ia_cons (ie_var (i := 0) (pv 0)) ia_nil)) (nomark _))
    (iss_one (is_if (it_cmp (op_eqD hr.units) os_eq (ie_ix (ie_var (i := 0) (pv 0)) (ie_var (i := 2) (pv 2)) rfl (fun _ _ => rfl)) (ie_str (l := [126]) (by decide +kernel)) (nomark _))
    (iss_cons (is_asg (t := .nm 3) rfl (ps_set (i := 3) sc__law_unquoted.nd rfl (.inl rfl) (ie_dget1 (hu_of hr) (ie_disp (ps := [((mC (.str [95])), (mC (.str [32]))), ((mC (.str [47])), (mC (.str [10]))), ((mC (.str [126])), (mC (.str [126]))), ((mC (.str [46])), (mC (.str [])))]) (pe_disp (pps_cons (ie_str (l := [95]) (by decide +kernel)) (ie_str (l := [32]) (by decide +kernel)) (pps_cons (ie_str (l := [47]) (by decide +kernel)) (ie_str (l := [10]) (by decide +kernel)) (pps_cons (ie_str (l := [126]) (by decide +kernel)) (ie_str (l := [126]) (by decide +kernel)) (pps_cons (ie_str (l := [46]) (by decide +kernel)) (ie_str (l := []) (by decide +kernel)) pps_nil)))) rfl rfl (by simp) (by decide))) (ie_sl (ie_var (i := 0) (pv 0)) (io_some (ie_op op_addA os_add (ie_var (i := 2) (pv 2)) ie_int)) (io_some (ie_op op_addA os_add (ie_var (i := 2) (pv 2)) ie_int)) rfl) ⟨rfl, rfl, rfl, rfl⟩)))
    (iss_cons (is_if (it_w (iw_or (it_cmp op_isN os_isN (ie_var (i := 3) (pv 3)) ie_non (nomark _)) (iw_or1 (it_w (iw_and (it_cmp (op_eqD hr.units) os_eq (ie_var (i := 3) (pv 3)) (ie_str (l := []) (by decide +kernel)) (nomark _)) (iw_and1 (it_cmp (op_neD hr.units) os_ne (ie_var (i := 0) (pv 0)) (ie_str (l := [126, 46]) (by decide +kernel)) (nomark _))))))))
    (iss_one (is_ret ie_non))
    iss_nil)
    (iss_one (is_par (i := 1) (j := 2) (ps_par (i := 1) (j := 2) rfl sc__law_unquoted.nd rfl rfl (by decide) rfl rfl (ia_cons (ie_op op_addA os_add (ie_var (i := 1) (pv 1)) (ie_var (i := 3) (pv 3))) (ia_cons (ie_op op_addA os_add (ie_var (i := 2) (pv 2)) ie_int) ia_nil)) (by rfl))))))
    (iss_one (is_par (i := 1) (j := 2) (ps_par (i := 1) (j := 2) rfl sc__law_unquoted.nd rfl rfl (by decide) rfl rfl (ia_cons (ie_op op_addA os_add (ie_var (i := 1) (pv 1)) (ie_ix (ie_var (i := 0) (pv 0)) (ie_var (i := 2) (pv 2)) rfl (fun _ _ => rfl))) (ia_cons (ie_op op_addA os_add (ie_var (i := 2) (pv 2)) ie_int) ia_nil)) (by rfl))))))))
    (iss_one (is_ret (ie_if (it_cmp (op_neD hr.units) os_ne (ie_var (i := 0) (pv 0)) (ie_str (l := []) (by decide +kernel)) (nomark _)) (ie_var (i := 1) (pv 1)) ie_non))))))).imp (spM.imp GP__law_unquoted)
theorem E__law_unquoted {f : Addr} {od an : Option Addr} {sl : Array (Option Value)} {oc kV dc pm cd ct : Value} (l : F.K.lookup f = some ⟨oc, od, .func (PySem.W.fnOf "_law_unquoted" "_law_unquoted" (defArgs (topS 52)) (defBody (topS 52)) (defScope (topS 52)) .none kV dc pm an cd ct), sl⟩) (c : PySem.W.codeIn F.K cd "_law_unquoted" = true) (k : PySem.W.keepIn F.K (.ref f) = true) (g : mg "_law_unquoted" = some (.ref f)) (m_len : mg "len" = none) : DfM P w F.K mg base F "_law_unquoted" ["_law_word_here"] 1 G__law_unquoted :=
  ⟨f, _, D__law_unquoted (F := F) (fun_mk (st := (topS 52)) l c k) (m_len := m_len), g, k, (fun_mk (st := (topS 52)) l c k).binds (ps := ["_law_word_here"]) fun _ _ _ _ _ _ us hl => match us, hl with | [_], _ => rfl⟩

theorem sc__law_parts : FnScope ["_law_words", "_law_shape", "_law_found", "_law_k"] ["_law_words", "_law_shape"] (defScope (topS 53)) := ⟨rfl, rfl, rfl, by decide +kernel, rfl, by decide +kernel, by decide +kernel⟩
theorem D__law_parts {f : Addr} {fd : FuncData} (Fn : Fun F.K "_law_parts" "_law_parts" (topS 53) f fd) (m_len : mg "len" = none) (m_range : mg "range" = none) (d__law_figures : DfM P w F.K mg base F "_law_figures" ["_law_word_here"] 1 G__law_figures) (d__law_unquoted : DfM P w F.K mg base F "_law_unquoted" ["_law_word_here"] 1 G__law_unquoted) : FnOk P w F.K mg base (L2.CX P w) 2 f fd ["_law_words", "_law_shape"] (spM F 2 G__law_parts) :=
  (fn_ok Fn sc__law_parts (by decide) (fun cdv A outer s H E hr =>
    show ISs _ F (fun cls d _ H => E cls d H) _ M__law_parts from (iss_cons (is_if (it_cmp (op_neD hr.units) os_ne (ie_callB cr_lenA cs_len (by rfl) m_len PySem.boot_len (ia_cons (ie_var (i := 0) (pv 0)) ia_nil)) (ie_callB cr_lenA cs_len (by rfl) m_len PySem.boot_len (ia_cons (ie_var (i := 1) (pv 1)) ia_nil)) (nomark _))
    (iss_one (is_ret ie_non))
    iss_nil)
    (iss_cons (is_asg (t := .nm 2) rfl (setFrz (setLc (t := (.nm 3)) rfl (ps_setLc (i := 2) (own := [("_law_k", 3)]) (g := Tg.g F.K (.nm 3)) (tt := denT F W0 mYes) (te := denE F W0 (mIfE (mB (mOp oEq (mOp oIx (mVar 1) (mVar 3)) (mC (.str [110])))) (mCall (ck 1 G__law_figures) (aCons (mOp oIx (mVar 0) (mVar 3)) aNil)) (mCall (ck 1 G__law_unquoted) (aCons (mOp oIx (mVar 0) (mVar 3)) aNil)))) rfl sc__law_parts.nd rfl rfl (sw_true rfl rfl rfl (by decide +kernel)) (ii_rg1 (pi_range1 (by rfl) m_range (pa_cons (ie_callB cr_lenA cs_len (by rfl) m_len PySem.boot_len (ia_cons (ie_var (i := 1) (pv 1)) ia_nil)) pa_nil))) (blkOk_by (own := [("_law_k", 3)]) (N := ["_law_words", "_law_shape", "_law_found", "_law_k"]) (sc := defScope (topS 53)) (by decide +kernel)) (fun _ _ _ _ _ => (pg_name (i := 3) sc__law_parts.nd rfl (.inl rfl))) (fun _ _ _ _ _ => pts_yes) (fun _ _ _ _ _ => (ie_if (it_cmp (op_eqD hr.units) os_eq (ie_ix (ie_var (i := 1) (pv 1)) (ie_var (i := 3) (pv 3)) rfl (fun _ _ => rfl)) (ie_str (l := [110]) (by decide +kernel)) (nomark _)) (ie_call d__law_figures (hr.mono (by decide)) takes0 (ia_cons (ie_ix (ie_var (i := 0) (pv 0)) (ie_var (i := 3) (pv 3)) rfl (fun _ _ => rfl)) ia_nil)) (ie_call d__law_unquoted (hr.mono (by decide)) takes0 (ia_cons (ie_ix (ie_var (i := 0) (pv 0)) (ie_var (i := 3) (pv 3)) rfl (fun _ _ => rfl)) ia_nil))))))))
    (iss_one (is_ret (ie_if (it_cmp op_inA os_in ie_non (ie_var (i := 2) (pv 2)) rfl) ie_non (ie_var (i := 2) (pv 2))))))))).imp (spM.imp GP__law_parts)
theorem E__law_parts {f : Addr} {od an : Option Addr} {sl : Array (Option Value)} {oc kV dc pm cd ct : Value} (l : F.K.lookup f = some ⟨oc, od, .func (PySem.W.fnOf "_law_parts" "_law_parts" (defArgs (topS 53)) (defBody (topS 53)) (defScope (topS 53)) .none kV dc pm an cd ct), sl⟩) (c : PySem.W.codeIn F.K cd "_law_parts" = true) (k : PySem.W.keepIn F.K (.ref f) = true) (g : mg "_law_parts" = some (.ref f)) (m_len : mg "len" = none) (m_range : mg "range" = none) (d__law_figures : DfM P w F.K mg base F "_law_figures" ["_law_word_here"] 1 G__law_figures) (d__law_unquoted : DfM P w F.K mg base F "_law_unquoted" ["_law_word_here"] 1 G__law_unquoted) : DfM P w F.K mg base F "_law_parts" ["_law_words", "_law_shape"] 2 G__law_parts :=
  ⟨f, _, D__law_parts (F := F) (fun_mk (st := (topS 53)) l c k) (m_len := m_len) (m_range := m_range) (d__law_figures := d__law_figures) (d__law_unquoted := d__law_unquoted), g, k, (fun_mk (st := (topS 53)) l c k).binds (ps := ["_law_words", "_law_shape"]) fun _ _ _ _ _ _ us hl => match us, hl with | [_, _], _ => rfl⟩

theorem sc__law_row : FnScope ["_law_row_here", "_law_words", "_law_shapes", "_law_wants", "_law_shape", "_law_parts_here", "_law_more", "_law_rows", "_law_k", "_law_some"] ["_law_row_here"] (defScope (topS 54)) := ⟨rfl, rfl, rfl, by decide +kernel, rfl, by decide +kernel, by decide +kernel⟩
theorem D__law_row {f : Addr} {fd : FuncData} (Fn : Fun F.K "_law_row" "_law_row" (topS 54) f fd) (m_len : mg "len" = none) (d__law_parts : DfM P w F.K mg base F "_law_parts" ["_law_words", "_law_shape"] 2 G__law_parts) (m_tuple : mg "tuple" = none) (m_range : mg "range" = none) : FnOk P w F.K mg base (L2.CX P w) 3 f fd ["_law_row_here"] (spM F 1 G__law_row) :=
  (fn_ok Fn sc__law_row (by decide) (fun cdv A outer s H E hr =>
    show ISs _ F (fun cls d _ H => E cls d H) _ M__law_row from (iss_cons (is_asg (t := .nm 1) rfl (setFrz (ps_set (i := 1) sc__law_row.nd rfl (.inl rfl) (il_split (pe_split (ie_var (i := 0) (pv 0)) (ie_str (l := [32]) (by decide +kernel)))))))
    (iss_cons (is_if (it_cmp op_inA os_in (ie_ix (ie_var (i := 1) (pv 1)) ie_int rfl (fun _ _ => rfl)) (ie_tup (ia_cons (ie_str (l := [99, 97, 114, 114, 121]) (by decide +kernel)) (ia_cons (ie_str (l := [98, 114, 105, 110, 103]) (by decide +kernel)) (ia_cons (ie_str (l := [102, 97, 108, 108]) (by decide +kernel)) (ia_cons (ie_str (l := [97, 110, 101, 119]) (by decide +kernel)) (ia_cons (ie_str (l := [115, 101, 116, 116, 108, 101]) (by decide +kernel)) ia_nil)))))) rfl)
    (iss_one (is_ret (ie_if (it_cmp (op_eqD hr.units) os_eq (ie_callB cr_lenA cs_len (by rfl) m_len PySem.boot_len (ia_cons (ie_var (i := 1) (pv 1)) ia_nil)) ie_int (nomark _)) (ie_tup (ia_cons (ie_ix (ie_var (i := 1) (pv 1)) ie_int rfl (fun _ _ => rfl)) ia_nil)) ie_non)))
    iss_nil)
    (iss_cons (is_asg (t := .nm 2) rfl (ps_set (i := 2) sc__law_row.nd rfl (.inl rfl) (ie_disp (ps := [((mC (.str [99, 108, 111, 115, 101])), (mC (.str [110]))), ((mC (.str [111, 102, 102])), (mC (.str [110]))), ((mC (.str [116, 97, 107, 101])), (mC (.str [110]))), ((mC (.str [119, 111, 114, 107])), (mC (.str [110]))), ((mC (.str [111, 112, 101, 110])), (mC (.str [110, 116])))]) (pe_disp (pps_cons (ie_str (l := [99, 108, 111, 115, 101]) (by decide +kernel)) (ie_str (l := [110]) (by decide +kernel)) (pps_cons (ie_str (l := [111, 102, 102]) (by decide +kernel)) (ie_str (l := [110]) (by decide +kernel)) (pps_cons (ie_str (l := [116, 97, 107, 101]) (by decide +kernel)) (ie_str (l := [110]) (by decide +kernel)) (pps_cons (ie_str (l := [119, 111, 114, 107]) (by decide +kernel)) (ie_str (l := [110]) (by decide +kernel)) (pps_cons (ie_str (l := [111, 112, 101, 110]) (by decide +kernel)) (ie_str (l := [110, 116]) (by decide +kernel)) pps_nil))))) rfl rfl (by simp) (by decide)))))
    (iss_cons (is_dput (hu_of hr) (ie_var (i := 2) (pv 2)) (ie_str (l := [101, 100, 105, 116]) (by decide +kernel)) (ie_op op_addA os_add (ie_str (l := [110]) (by decide +kernel)) (ie_op op_mulA os_mul (ie_str (l := [110, 110, 110, 110, 116]) (by decide +kernel)) (ie_op op_fdivW os_div (ie_callB cr_lenA cs_len (by rfl) m_len PySem.boot_len (ia_cons (ie_var (i := 1) (pv 1)) ia_nil)) ie_int))))
    (iss_cons (is_if (it_cmp (op_eqD hr.units) os_eq (ie_ix (ie_var (i := 1) (pv 1)) ie_int rfl (fun _ _ => rfl)) (ie_str (l := [97, 115, 107]) (by decide +kernel)) (nomark _))
    (iss_cons (is_asg (t := .nm 3) rfl (ps_set (i := 3) sc__law_row.nd rfl (.inl rfl) (ie_disp (ps := [((mC (.str [102, 105, 110, 100])), (mC (.str [116]))), ((mC (.str [114, 111, 119, 115])), (mC (.str [116]))), ((mC (.str [119, 111, 114, 100])), (mC (.str [110, 110]))), ((mC (.str [114, 101, 110, 97, 109, 101])), (mC (.str [110, 110, 116])))]) (pe_disp (pps_cons (ie_str (l := [102, 105, 110, 100]) (by decide +kernel)) (ie_str (l := [116]) (by decide +kernel)) (pps_cons (ie_str (l := [114, 111, 119, 115]) (by decide +kernel)) (ie_str (l := [116]) (by decide +kernel)) (pps_cons (ie_str (l := [119, 111, 114, 100]) (by decide +kernel)) (ie_str (l := [110, 110]) (by decide +kernel)) (pps_cons (ie_str (l := [114, 101, 110, 97, 109, 101]) (by decide +kernel)) (ie_str (l := [110, 110, 116]) (by decide +kernel)) pps_nil)))) rfl rfl (by simp) (by decide)))))
    (iss_cons (is_asg (t := .nm 4) rfl (ps_set (i := 4) sc__law_row.nd rfl (.inl rfl) (ie_dget2 (hu_of hr) (ie_var (i := 3) (pv 3)) (ie_ix (ie_frz (il_add (ie_var (i := 1) (pv 1)) (ie_frz (il_lst (ia_cons (ie_str (l := []) (by decide +kernel)) (ia_cons (ie_str (l := []) (by decide +kernel)) ia_nil)))))) ie_int rfl (fun _ _ => rfl)) (ie_str (l := [110, 111, 110, 101]) (by decide +kernel)) ⟨rfl, rfl, rfl, rfl⟩)))
    (iss_cons (is_asg (t := .nm 5) rfl (ps_set (i := 5) sc__law_row.nd rfl (.inr rfl) (ie_call d__law_parts (hr.mono (by decide)) (takes_of rfl rfl rfl rfl) (ia_cons (ie_frz (il_add (ie_frz (il_sl (ie_var (i := 1) (pv 1)) (io_some ie_int) (io_some ie_int) rfl)) (ie_frz (il_sl (ie_var (i := 1) (pv 1)) (io_some ie_int) io_none rfl)))) (ia_cons (ie_op op_addA os_add (ie_str (l := [110]) (by decide +kernel)) (ie_var (i := 4) (pv 4))) ia_nil)))))
    (iss_cons (is_if (it_w (iw_or (it_cmp op_isN os_isN (ie_var (i := 5) (pv 5)) ie_non (nomark _)) (iw_or1 (it_cmp (op_eqD hr.units) os_eq (ie_var (i := 4) (pv 4)) (ie_str (l := [110, 111, 110, 101]) (by decide +kernel)) (nomark _)))))
    (iss_one (is_ret ie_non))
    iss_nil)
    (iss_cons (is_asg (t := .nm 6) rfl (ps_set (i := 6) sc__law_row.nd rfl (.inl rfl) (ie_if (it_cmp (op_eqD hr.units) os_eq (ie_var (i := 4) (pv 4)) (ie_str (l := [116]) (by decide +kernel)) (nomark _)) (ie_frz (il_sl (ie_var (i := 5) (pv 5)) (io_some ie_int) io_none rfl)) (ie_frz (il_add (ie_frz (il_lst (ia_cons (ie_callTy call_tuple_of cs_tuple (by rfl) m_tuple (by decide +kernel) (ia_cons (ie_frz (il_sl (ie_var (i := 5) (pv 5)) (io_some ie_int) (io_some ie_int) rfl)) ia_nil)) ia_nil))) (ie_frz (il_sl (ie_var (i := 5) (pv 5)) (io_some ie_int) io_none rfl)))))))
    (iss_one (is_ret (ie_tup (ia_cons (ie_str (l := [97, 115, 107]) (by decide +kernel)) (ia_cons (ie_ix (ie_var (i := 5) (pv 5)) ie_int rfl (fun _ _ => rfl)) (ia_cons (ie_callTy call_tuple_of cs_tuple (by rfl) m_tuple (by decide +kernel) (ia_cons (ie_frz (il_add (ie_frz (il_lst (ia_cons (ie_ix (ie_var (i := 1) (pv 1)) ie_int rfl (fun _ _ => rfl)) ia_nil))) (ie_var (i := 6) (pv 6)))) ia_nil)) ia_nil)))))))))))
    iss_nil)
    (iss_cons (is_asg (t := .nm 5) rfl (ps_set (i := 5) sc__law_row.nd rfl (.inr rfl) (ie_call d__law_parts (hr.mono (by decide)) (takes_of rfl rfl rfl rfl) (ia_cons (ie_frz (il_sl (ie_var (i := 1) (pv 1)) (io_some ie_int) io_none rfl)) (ia_cons (ie_dget2 (hu_of hr) (ie_var (i := 2) (pv 2)) (ie_ix (ie_var (i := 1) (pv 1)) ie_int rfl (fun _ _ => rfl)) (ie_str (l := [110, 111, 110, 101]) (by decide +kernel)) ⟨rfl, rfl, rfl, rfl⟩) ia_nil)))))
    (iss_cons (is_if (it_w (iw_or (it_cmp op_isN os_isN (ie_var (i := 5) (pv 5)) ie_non (nomark _)) (iw_or1 (it_dnotin (hu_of hr) (ie_ix (ie_var (i := 1) (pv 1)) ie_int rfl (fun _ _ => rfl)) (ie_var (i := 2) (pv 2))))))
    (iss_one (is_ret ie_non))
    iss_nil)
    (iss_cons (is_if (it_cmp (op_neD hr.units) os_ne (ie_ix (ie_var (i := 1) (pv 1)) ie_int rfl (fun _ _ => rfl)) (ie_str (l := [101, 100, 105, 116]) (by decide +kernel)) (nomark _))
    (iss_one (is_ret (ie_callTy call_tuple_of cs_tuple (by rfl) m_tuple (by decide +kernel) (ia_cons (ie_frz (il_add (ie_frz (il_lst (ia_cons (ie_ix (ie_var (i := 1) (pv 1)) ie_int rfl (fun _ _ => rfl)) ia_nil))) (ie_var (i := 5) (pv 5)))) ia_nil))))
    iss_nil)
    (iss_cons (is_asg (t := .nm 7) rfl (setFrz (setLc (t := (.nm 8)) rfl (ps_setLc (i := 7) (own := [("_law_k", 8)]) (g := Tg.g F.K (.nm 8)) (tt := denT F W0 mYes) (te := denE F W0 (mFrz (lSlc (mVar 5) (pSome (mVar 8)) (pSome (mOp oAdd (mVar 8) (mC (.int 5))))))) rfl sc__law_row.nd rfl rfl (sw_true rfl rfl rfl (by decide +kernel)) (ii_rg3 (pi_range3 (by rfl) m_range (pa_cons ie_int (pa_cons (ie_callB cr_lenA cs_len (by rfl) m_len PySem.boot_len (ia_cons (ie_var (i := 5) (pv 5)) ia_nil)) (pa_cons ie_int pa_nil))))) (blkOk_by (own := [("_law_k", 8)]) (N := ["_law_row_here", "_law_words", "_law_shapes", "_law_wants", "_law_shape", "_law_parts_here", "_law_more", "_law_rows", "_law_k", "_law_some"]) (sc := defScope (topS 54)) (by decide +kernel)) (fun _ _ _ _ _ => (pg_name (i := 8) sc__law_row.nd rfl (.inl rfl))) (fun _ _ _ _ _ => pts_yes) (fun _ _ _ _ _ => (ie_frz (il_sl (ie_var (i := 5) (pv 5)) (io_some (ie_var (i := 8) (pv 8))) (io_some (ie_op op_addA os_add (ie_var (i := 8) (pv 8)) ie_int)) rfl)))))))
    (iss_one (is_ret (ie_tup (ia_cons (ie_str (l := [101, 100, 105, 116]) (by decide +kernel)) (ia_cons (ie_ix (ie_var (i := 5) (pv 5)) ie_int rfl (fun _ _ => rfl)) (ia_cons (ie_callTy call_tuple_of cs_tuple (by rfl) m_tuple (by decide +kernel) (ia_cons (ie_frz (ILc (t := (.nm 9)) rfl (pe_lc (own := [("_law_some", 9)]) (g := Tg.g F.K (.nm 9)) (tt := denT F W0 mYes) (te := denE F W0 (mTup (aCons (mCB oTuple (aCons (mFrz (lSlc (mVar 9) pNone (pSome (mC (.int 2))))) aNil)) (aCons (mCB oTuple (aCons (mFrz (lSlc (mVar 9) (pSome (mC (.int 2))) (pSome (mC (.int 4))))) aNil)) (aCons (mOp oIx (mVar 9) (mC (.int 4))) aNil))))) rfl sc__law_row.nd (ii_lst (ie_var (i := 7) (pv 7)) rfl) (blkOk_by (own := [("_law_some", 9)]) (N := ["_law_row_here", "_law_words", "_law_shapes", "_law_wants", "_law_shape", "_law_parts_here", "_law_more", "_law_rows", "_law_k", "_law_some"]) (sc := defScope (topS 54)) (by decide +kernel)) (fun _ _ _ _ _ => (pg_name (i := 9) sc__law_row.nd rfl (.inl rfl))) (fun _ _ _ _ _ => pts_yes) (fun _ _ _ _ _ => (ie_tup (ia_cons (ie_callTy call_tuple_of cs_tuple (by rfl) m_tuple (by decide +kernel) (ia_cons (ie_frz (il_sl (ie_var (i := 9) (pv 9)) io_none (io_some ie_int) rfl)) ia_nil)) (ia_cons (ie_callTy call_tuple_of cs_tuple (by rfl) m_tuple (by decide +kernel) (ia_cons (ie_frz (il_sl (ie_var (i := 9) (pv 9)) (io_some ie_int) (io_some ie_int) rfl)) ia_nil)) (ia_cons (ie_ix (ie_var (i := 9) (pv 9)) ie_int rfl (fun _ _ => rfl)) ia_nil)))))))) ia_nil)) ia_nil))))))))))))))))).imp (spM.imp GP__law_row)
theorem E__law_row {f : Addr} {od an : Option Addr} {sl : Array (Option Value)} {oc kV dc pm cd ct : Value} (l : F.K.lookup f = some ⟨oc, od, .func (PySem.W.fnOf "_law_row" "_law_row" (defArgs (topS 54)) (defBody (topS 54)) (defScope (topS 54)) .none kV dc pm an cd ct), sl⟩) (c : PySem.W.codeIn F.K cd "_law_row" = true) (k : PySem.W.keepIn F.K (.ref f) = true) (g : mg "_law_row" = some (.ref f)) (m_len : mg "len" = none) (d__law_parts : DfM P w F.K mg base F "_law_parts" ["_law_words", "_law_shape"] 2 G__law_parts) (m_tuple : mg "tuple" = none) (m_range : mg "range" = none) : DfM P w F.K mg base F "_law_row" ["_law_row_here"] 3 G__law_row :=
  ⟨f, _, D__law_row (F := F) (fun_mk (st := (topS 54)) l c k) (m_len := m_len) (d__law_parts := d__law_parts) (m_tuple := m_tuple) (m_range := m_range), g, k, (fun_mk (st := (topS 54)) l c k).binds (ps := ["_law_row_here"]) fun _ _ _ _ _ _ us hl => match us, hl with | [_], _ => rfl⟩

theorem sc_number_in : FnScope ["word", "sign"] ["word"] (defScope (topS 31)) := ⟨rfl, rfl, rfl, by decide +kernel, rfl, by decide +kernel, by decide +kernel⟩
theorem D_number_in {f : Addr} {fd : FuncData} (Fn : Fun F.K "number_in" "number_in" (topS 31) f fd) (m_len : mg "len" = none) {tc_MOST_FIGURES : Tok} (c_MOST_FIGURES : mg "MOST_FIGURES" = some (.int 3 tc_MOST_FIGURES)) (m_all : mg "all" = none) (m_int : mg "int" = none) : FnOk P w F.K mg base (L2.CX P w) 1 f fd ["word"] (spM F 1 G_number_in) :=
  (fn_ok Fn sc_number_in (by decide) (fun cdv A outer s H E hr =>
    show ISs _ F (fun cls d _ H => E cls d H) _ M_number_in from (iss_cons (is_if (it_w (iw_or (it_not (it_ch op_leA os_le op_leA os_le ie_int (ie_callB cr_lenA cs_len (by rfl) m_len PySem.boot_len (ia_cons (ie_var (i := 0) (pv 0)) ia_nil)) (ie_globI (by rfl) c_MOST_FIGURES))) (iw_or1 (it_not (it_val (ie_callB (cr_all rfl) cs_all (by rfl) m_all (by decide +kernel) (ia_cons (ie_frz (ILc (t := (.nm 1)) rfl (pe_lc (own := [("sign", 1)]) (g := Tg.g F.K (.nm 1)) (tt := denT F W0 mYes) (te := denE F W0 (mCh oLe oLe (mC (.str [48])) (mVar 1) (mC (.str [57])))) rfl sc_number_in.nd (ii_str (ie_var (i := 0) (pv 0))) (blkOk_by (own := [("sign", 1)]) (N := ["word", "sign"]) (sc := defScope (topS 31)) (by decide +kernel)) (fun _ _ _ _ _ => (pg_name (i := 1) sc_number_in.nd rfl (.inl rfl))) (fun _ _ _ _ _ => pts_yes) (fun _ _ _ _ _ => (ie_ch op_leA os_le op_leA os_le (ie_str (l := [48]) (by decide +kernel)) (ie_var (i := 1) (pv 1)) (ie_str (l := [57]) (by decide +kernel))))))) ia_nil)))))))
    (iss_one (is_ret ie_non))
    iss_nil)
    (iss_cons (is_if (it_w (iw_and (it_cmp (op_eqD hr.units) os_eq (ie_ix (ie_var (i := 0) (pv 0)) ie_int rfl (fun _ _ => rfl)) (ie_str (l := [48]) (by decide +kernel)) (nomark _)) (iw_and1 (it_cmp (op_neD hr.units) os_ne (ie_var (i := 0) (pv 0)) (ie_str (l := [48]) (by decide +kernel)) (nomark _)))))
    (iss_one (is_ret ie_non))
    iss_nil)
    (iss_one (is_ret (ie_callTy call_int_str cs_intS (by rfl) m_int (by decide +kernel) (ia_cons (ie_var (i := 0) (pv 0)) ia_nil)))))))).imp (spM.imp GP_number_in)
theorem E_number_in {f : Addr} {od an : Option Addr} {sl : Array (Option Value)} {oc kV dc pm cd ct : Value} (l : F.K.lookup f = some ⟨oc, od, .func (PySem.W.fnOf "number_in" "number_in" (defArgs (topS 31)) (defBody (topS 31)) (defScope (topS 31)) .none kV dc pm an cd ct), sl⟩) (c : PySem.W.codeIn F.K cd "number_in" = true) (k : PySem.W.keepIn F.K (.ref f) = true) (g : mg "number_in" = some (.ref f)) (m_len : mg "len" = none) {tc_MOST_FIGURES : Tok} (c_MOST_FIGURES : mg "MOST_FIGURES" = some (.int 3 tc_MOST_FIGURES)) (m_all : mg "all" = none) (m_int : mg "int" = none) : DfM P w F.K mg base F "number_in" ["word"] 1 G_number_in :=
  ⟨f, _, D_number_in (F := F) (fun_mk (st := (topS 31)) l c k) (m_len := m_len) (c_MOST_FIGURES := c_MOST_FIGURES) (m_all := m_all) (m_int := m_int), g, k, (fun_mk (st := (topS 31)) l c k).binds (ps := ["word"]) fun _ _ _ _ _ _ us hl => match us, hl with | [_], _ => rfl⟩

theorem sc_text_in : FnScope ["word", "text", "at", "size", "sign"] ["word"] (defScope (topS 32)) := ⟨rfl, rfl, rfl, by decide +kernel, rfl, by decide +kernel, by decide +kernel⟩
theorem D_text_in {f : Addr} {fd : FuncData} (Fn : Fun F.K "text_in" "text_in" (topS 32) f fd) {tc_EMPTY : Tok} (c_EMPTY : mg "EMPTY" = some (.str (S [126, 46]) tc_EMPTY)) (m_len : mg "len" = none) (wd_SIGNS : WDict F.K w mg "SIGNS" tb_SIGNS) : FnOk P w F.K mg base (L2.CX P w) 1 f fd ["word"] (spM F 1 G_text_in) :=
  (fn_ok Fn sc_text_in (by decide) (fun cdv A outer s H E hr =>
    show ISs _ F (fun cls d _ H => E cls d H) _ M_text_in from (iss_cons (is_if (it_cmp (op_eqD hr.units) os_eq (ie_var (i := 0) (pv 0)) (ie_str (l := []) (by decide +kernel)) (nomark _))
    (iss_one (is_ret ie_non))
    iss_nil)
    (iss_cons (is_if (it_cmp (op_eqD hr.units) os_eq (ie_var (i := 0) (pv 0)) (ie_globS (l := [126, 46]) (by rfl) c_EMPTY) (nomark _))
    (iss_one (is_ret (ie_str (l := []) (by decide +kernel))))
    iss_nil)
    (iss_cons (is_asg (t := .nm 1) rfl (ps_set (i := 1) sc_text_in.nd rfl (.inl rfl) (ie_str (l := []) (by decide +kernel))))
    (iss_cons (is_asg (t := .nm 2) rfl (ps_set (i := 2) sc_text_in.nd rfl (.inl rfl) ie_int))
    (iss_cons (is_while (ps_while (passes_of rfl) (it_cmp op_ltA os_lt (ie_var (i := 2) (pv 2)) (ie_callB cr_lenA cs_len (by rfl) m_len PySem.boot_len (ia_cons (ie_var (i := 0) (pv 0)) ia_nil)) (nomark _))
    (iss_cons (is_asg (t := .nm 3) rfl (ps_set (i := 3) sc_text_in.nd rfl (.inl rfl) (ie_if (it_cmp (op_eqD hr.units) os_eq (ie_ix (ie_var (i := 0) (pv 0)) (ie_var (i := 2) (pv 2)) rfl (fun _ _ => rfl)) (ie_str (l := [126]) (by decide +kernel)) (nomark _)) ie_int ie_int)))
    (iss_cons (is_asg (t := .nm 4) rfl (ps_set (i := 4) sc_text_in.nd rfl (.inl rfl) (ie_if (it_cmp (op_eqD hr.units) os_eq (ie_var (i := 3) (pv 3)) ie_int (nomark _)) (ie_ix (ie_var (i := 0) (pv 0)) (ie_var (i := 2) (pv 2)) rfl (fun _ _ => rfl)) (ie_tget wd_SIGNS (by rfl) (ie_sl (ie_var (i := 0) (pv 0)) (io_some (ie_var (i := 2) (pv 2))) (io_some (ie_op op_addA os_add (ie_var (i := 2) (pv 2)) (ie_var (i := 3) (pv 3)))) rfl) ⟨rfl, rfl, rfl, rfl⟩))))
    (iss_cons (is_if (it_cmp op_isN os_isN (ie_var (i := 4) (pv 4)) ie_non (nomark _))
    (iss_one (is_ret ie_non))
    iss_nil)
    (iss_cons (is_augT (i := 1) (ps_aug (i := 1) sc_text_in.nd rfl (.inl rfl) (ie_var (i := 4) (pv 4)) iop_add_str))
    (iss_one (is_aug (i := 2) (ps_aug (i := 2) sc_text_in.nd rfl (.inl rfl) (ie_var (i := 3) (pv 3)) ip_add)))))))))
    (iss_one (is_ret (ie_var (i := 1) (pv 1))))))))))).imp (spM.imp GP_text_in)
theorem E_text_in {f : Addr} {od an : Option Addr} {sl : Array (Option Value)} {oc kV dc pm cd ct : Value} (l : F.K.lookup f = some ⟨oc, od, .func (PySem.W.fnOf "text_in" "text_in" (defArgs (topS 32)) (defBody (topS 32)) (defScope (topS 32)) .none kV dc pm an cd ct), sl⟩) (c : PySem.W.codeIn F.K cd "text_in" = true) (k : PySem.W.keepIn F.K (.ref f) = true) (g : mg "text_in" = some (.ref f)) {tc_EMPTY : Tok} (c_EMPTY : mg "EMPTY" = some (.str (S [126, 46]) tc_EMPTY)) (m_len : mg "len" = none) (wd_SIGNS : WDict F.K w mg "SIGNS" tb_SIGNS) : DfM P w F.K mg base F "text_in" ["word"] 1 G_text_in :=
  ⟨f, _, D_text_in (F := F) (fun_mk (st := (topS 32)) l c k) (c_EMPTY := c_EMPTY) (m_len := m_len) (wd_SIGNS := wd_SIGNS), g, k, (fun_mk (st := (topS 32)) l c k).binds (ps := ["word"]) fun _ _ _ _ _ _ us hl => match us, hl with | [_], _ => rfl⟩

theorem sc_parts_in : FnScope ["form", "words", "parts", "sign", "word"] ["form", "words"] (defScope (topS 30)) := ⟨rfl, rfl, rfl, by decide +kernel, rfl, by decide +kernel, by decide +kernel⟩
theorem D_parts_in {f : Addr} {fd : FuncData} (Fn : Fun F.K "parts_in" "parts_in" (topS 30) f fd) (m_len : mg "len" = none) (m_zip : mg "zip" = none) (d_number_in : DfM P w F.K mg base F "number_in" ["word"] 1 G_number_in) (d_text_in : DfM P w F.K mg base F "text_in" ["word"] 1 G_text_in) : FnOk P w F.K mg base (L2.CX P w) 2 f fd ["form", "words"] (spM F 2 G_parts_in) :=
  (fn_ok Fn sc_parts_in (by decide) (fun cdv A outer s H E hr =>
    show ISs _ F (fun cls d _ H => E cls d H) _ M_parts_in from (iss_cons (is_if (it_cmp (op_neD hr.units) os_ne (ie_callB cr_lenA cs_len (by rfl) m_len PySem.boot_len (ia_cons (ie_var (i := 1) (pv 1)) ia_nil)) (ie_callB cr_lenA cs_len (by rfl) m_len PySem.boot_len (ia_cons (ie_var (i := 0) (pv 0)) ia_nil)) (nomark _))
    (iss_one (is_ret ie_non))
    iss_nil)
    (iss_cons (is_asg (t := .nm 2) rfl (setFrz (setLc (t := (.tp [(.nm 3), (.nm 4)])) rfl (ps_setLc (i := 2) (own := [("sign", 3), ("word", 4)]) (g := Tg.g F.K (.tp [(.nm 3), (.nm 4)])) (tt := denT F W0 mYes) (te := denE F W0 (mIfE (mB (mOp oEq (mVar 3) (mC (.str [110])))) (mCall (ck 1 G_number_in) (aCons (mVar 4) aNil)) (mCall (ck 1 G_text_in) (aCons (mVar 4) aNil)))) rfl sc_parts_in.nd rfl rfl (sw_true rfl rfl rfl (by decide +kernel)) (ii_zip (by rfl) m_zip (ie_var (i := 0) (pv 0)) (ie_var (i := 1) (pv 1))) (blkOk_by (own := [("sign", 3), ("word", 4)]) (N := ["form", "words", "parts", "sign", "word"]) (sc := defScope (topS 30)) (by decide +kernel)) (fun _ _ _ _ _ => (pg_tup rfl (pgs_cons (pg_name (i := 3) sc_parts_in.nd rfl (.inl rfl)) (pgs_cons (pg_name (i := 4) sc_parts_in.nd rfl (.inl rfl)) pgs_nil)))) (fun _ _ _ _ _ => pts_yes) (fun _ _ _ _ _ => (ie_if (it_cmp (op_eqD hr.units) os_eq (ie_var (i := 3) (pv 3)) (ie_str (l := [110]) (by decide +kernel)) (nomark _)) (ie_call d_number_in (hr.mono (by decide)) takes0 (ia_cons (ie_var (i := 4) (pv 4)) ia_nil)) (ie_call d_text_in (hr.mono (by decide)) takes0 (ia_cons (ie_var (i := 4) (pv 4)) ia_nil))))))))
    (iss_one (is_ret (ie_if (it_cmp op_inA os_in ie_non (ie_var (i := 2) (pv 2)) rfl) ie_non (ie_var (i := 2) (pv 2))))))))).imp (spM.imp GP_parts_in)
theorem E_parts_in {f : Addr} {od an : Option Addr} {sl : Array (Option Value)} {oc kV dc pm cd ct : Value} (l : F.K.lookup f = some ⟨oc, od, .func (PySem.W.fnOf "parts_in" "parts_in" (defArgs (topS 30)) (defBody (topS 30)) (defScope (topS 30)) .none kV dc pm an cd ct), sl⟩) (c : PySem.W.codeIn F.K cd "parts_in" = true) (k : PySem.W.keepIn F.K (.ref f) = true) (g : mg "parts_in" = some (.ref f)) (m_len : mg "len" = none) (m_zip : mg "zip" = none) (d_number_in : DfM P w F.K mg base F "number_in" ["word"] 1 G_number_in) (d_text_in : DfM P w F.K mg base F "text_in" ["word"] 1 G_text_in) : DfM P w F.K mg base F "parts_in" ["form", "words"] 2 G_parts_in :=
  ⟨f, _, D_parts_in (F := F) (fun_mk (st := (topS 30)) l c k) (m_len := m_len) (m_zip := m_zip) (d_number_in := d_number_in) (d_text_in := d_text_in), g, k, (fun_mk (st := (topS 30)) l c k).binds (ps := ["form", "words"]) fun _ _ _ _ _ _ us hl => match us, hl with | [_, _], _ => rfl⟩

theorem sc_edit_in : FnScope ["words", "size", "parts", "edits", "at"] ["words"] (defScope (topS 28)) := ⟨rfl, rfl, rfl, by decide +kernel, rfl, by decide +kernel, by decide +kernel⟩
theorem D_edit_in {f : Addr} {fd : FuncData} (Fn : Fun F.K "edit_in" "edit_in" (topS 28) f fd) {tc_EDIT_FORM : Tok} (c_EDIT_FORM : mg "EDIT_FORM" = some (.str (S [110, 110, 110, 110, 116]) tc_EDIT_FORM)) (m_len : mg "len" = none) (d_parts_in : DfM P w F.K mg base F "parts_in" ["form", "words"] 2 G_parts_in) (m_range : mg "range" = none) (m_tuple : mg "tuple" = none) : FnOk P w F.K mg base (L2.CX P w) 3 f fd ["words"] (spM F 1 G_edit_in) :=
  (fn_ok Fn sc_edit_in (by decide) (fun cdv A outer s H E hr =>
    show ISs _ F (fun cls d _ H => E cls d H) _ M_edit_in from (iss_cons (is_asg (t := .nm 1) rfl (ps_set (i := 1) sc_edit_in.nd rfl (.inl rfl) (ie_callB cr_lenA cs_len (by rfl) m_len PySem.boot_len (ia_cons (ie_globS (l := [110, 110, 110, 110, 116]) (by rfl) c_EDIT_FORM) ia_nil))))
    (iss_cons (is_asg (t := .nm 2) rfl (ps_set (i := 2) sc_edit_in.nd rfl (.inr rfl) (ie_call d_parts_in (hr.mono (by decide)) (takes_of rfl rfl rfl rfl) (ia_cons (ie_op op_addA os_add (ie_str (l := [110]) (by decide +kernel)) (ie_op op_mulA os_mul (ie_globS (l := [110, 110, 110, 110, 116]) (by rfl) c_EDIT_FORM) (ie_op op_fdivW os_div (ie_callB cr_lenA cs_len (by rfl) m_len PySem.boot_len (ia_cons (ie_var (i := 0) (pv 0)) ia_nil)) (ie_var (i := 1) (pv 1))))) (ia_cons (ie_var (i := 0) (pv 0)) ia_nil)))))
    (iss_cons (is_if (it_cmp op_isN os_isN (ie_var (i := 2) (pv 2)) ie_non (nomark _))
    (iss_one (is_ret ie_non))
    iss_nil)
    (iss_cons (is_asg (t := .nm 3) rfl (setFrz (setLc (t := (.nm 4)) rfl (ps_setLc (i := 3) (own := [("at", 4)]) (g := Tg.g F.K (.nm 4)) (tt := denT F W0 mYes) (te := denE F W0 (mTup (aCons (mTup (aCons (mOp oIx (mVar 2) (mVar 4)) (aCons (mOp oIx (mVar 2) (mOp oAdd (mVar 4) (mC (.int 1)))) aNil))) (aCons (mTup (aCons (mOp oIx (mVar 2) (mOp oAdd (mVar 4) (mC (.int 2)))) (aCons (mOp oIx (mVar 2) (mOp oAdd (mVar 4) (mC (.int 3)))) aNil))) (aCons (mOp oIx (mVar 2) (mOp oAdd (mVar 4) (mC (.int 4)))) aNil))))) rfl sc_edit_in.nd rfl rfl (sw_true rfl rfl rfl (by decide +kernel)) (ii_rg3 (pi_range3 (by rfl) m_range (pa_cons ie_int (pa_cons (ie_callB cr_lenA cs_len (by rfl) m_len PySem.boot_len (ia_cons (ie_var (i := 2) (pv 2)) ia_nil)) (pa_cons (ie_var (i := 1) (pv 1)) pa_nil))))) (blkOk_by (own := [("at", 4)]) (N := ["words", "size", "parts", "edits", "at"]) (sc := defScope (topS 28)) (by decide +kernel)) (fun _ _ _ _ _ => (pg_name (i := 4) sc_edit_in.nd rfl (.inl rfl))) (fun _ _ _ _ _ => pts_yes) (fun _ _ _ _ _ => (ie_tup (ia_cons (ie_tup (ia_cons (ie_ix (ie_var (i := 2) (pv 2)) (ie_var (i := 4) (pv 4)) rfl (fun _ _ => rfl)) (ia_cons (ie_ix (ie_var (i := 2) (pv 2)) (ie_op op_addA os_add (ie_var (i := 4) (pv 4)) ie_int) rfl (fun _ _ => rfl)) ia_nil))) (ia_cons (ie_tup (ia_cons (ie_ix (ie_var (i := 2) (pv 2)) (ie_op op_addA os_add (ie_var (i := 4) (pv 4)) ie_int) rfl (fun _ _ => rfl)) (ia_cons (ie_ix (ie_var (i := 2) (pv 2)) (ie_op op_addA os_add (ie_var (i := 4) (pv 4)) ie_int) rfl (fun _ _ => rfl)) ia_nil))) (ia_cons (ie_ix (ie_var (i := 2) (pv 2)) (ie_op op_addA os_add (ie_var (i := 4) (pv 4)) ie_int) rfl (fun _ _ => rfl)) ia_nil)))))))))
    (iss_one (is_ret (ie_tup (ia_cons (ie_str (l := [101, 100, 105, 116]) (by decide +kernel)) (ia_cons (ie_ix (ie_var (i := 2) (pv 2)) ie_int rfl (fun _ _ => rfl)) (ia_cons (ie_callTy call_tuple_of cs_tuple (by rfl) m_tuple (by decide +kernel) (ia_cons (ie_var (i := 3) (pv 3)) ia_nil)) ia_nil)))))))))))).imp (spM.imp GP_edit_in)
theorem E_edit_in {f : Addr} {od an : Option Addr} {sl : Array (Option Value)} {oc kV dc pm cd ct : Value} (l : F.K.lookup f = some ⟨oc, od, .func (PySem.W.fnOf "edit_in" "edit_in" (defArgs (topS 28)) (defBody (topS 28)) (defScope (topS 28)) .none kV dc pm an cd ct), sl⟩) (c : PySem.W.codeIn F.K cd "edit_in" = true) (k : PySem.W.keepIn F.K (.ref f) = true) (g : mg "edit_in" = some (.ref f)) {tc_EDIT_FORM : Tok} (c_EDIT_FORM : mg "EDIT_FORM" = some (.str (S [110, 110, 110, 110, 116]) tc_EDIT_FORM)) (m_len : mg "len" = none) (d_parts_in : DfM P w F.K mg base F "parts_in" ["form", "words"] 2 G_parts_in) (m_range : mg "range" = none) (m_tuple : mg "tuple" = none) : DfM P w F.K mg base F "edit_in" ["words"] 3 G_edit_in :=
  ⟨f, _, D_edit_in (F := F) (fun_mk (st := (topS 28)) l c k) (c_EDIT_FORM := c_EDIT_FORM) (m_len := m_len) (d_parts_in := d_parts_in) (m_range := m_range) (m_tuple := m_tuple), g, k, (fun_mk (st := (topS 28)) l c k).binds (ps := ["words"]) fun _ _ _ _ _ _ us hl => match us, hl with | [_], _ => rfl⟩

theorem sc_ask_in : FnScope ["words", "kind", "parts", "place", "rest"] ["words"] (defScope (topS 29)) := ⟨rfl, rfl, rfl, by decide +kernel, rfl, by decide +kernel, by decide +kernel⟩
theorem D_ask_in {f : Addr} {fd : FuncData} (Fn : Fun F.K "ask_in" "ask_in" (topS 29) f fd) (m_len : mg "len" = none) (wd_ASK_FORMS : WDict F.K w mg "ASK_FORMS" tb_ASK_FORMS) (d_parts_in : DfM P w F.K mg base F "parts_in" ["form", "words"] 2 G_parts_in) : FnOk P w F.K mg base (L2.CX P w) 3 f fd ["words"] (spM F 1 G_ask_in) :=
  (fn_ok Fn sc_ask_in (by decide) (fun cdv A outer s H E hr =>
    show ISs _ F (fun cls d _ H => E cls d H) _ M_ask_in from (iss_cons (is_if (it_w (iw_or (it_cmp op_ltA os_lt (ie_callB cr_lenA cs_len (by rfl) m_len PySem.boot_len (ia_cons (ie_var (i := 0) (pv 0)) ia_nil)) ie_int (nomark _)) (iw_or1 (it_tnotin wd_ASK_FORMS (by rfl) (ie_ix (ie_var (i := 0) (pv 0)) ie_int rfl (fun _ _ => rfl))))))
    (iss_one (is_ret ie_non))
    iss_nil)
    (iss_cons (is_asg (t := .nm 1) rfl (ps_set (i := 1) sc_ask_in.nd rfl (.inl rfl) (ie_ix (ie_var (i := 0) (pv 0)) ie_int rfl (fun _ _ => rfl))))
    (iss_cons (is_asg (t := .nm 2) rfl (ps_set (i := 2) sc_ask_in.nd rfl (.inl rfl) (ie_call d_parts_in (hr.mono (by decide)) (takes_of rfl rfl rfl rfl) (ia_cons (ie_op op_addA os_add (ie_str (l := [110]) (by decide +kernel)) (ie_tix wd_ASK_FORMS (by rfl) (ie_var (i := 1) (pv 1)) (fun _ _ => rfl))) (ia_cons (ie_frz (il_add (ie_frz (il_sl (ie_var (i := 0) (pv 0)) io_none (io_some ie_int) rfl)) (ie_frz (il_sl (ie_var (i := 0) (pv 0)) (io_some ie_int) io_none rfl)))) ia_nil)))))
    (iss_cons (is_if (it_cmp op_isN os_isN (ie_var (i := 2) (pv 2)) ie_non (nomark _))
    (iss_one (is_ret ie_non))
    iss_nil)
    (iss_cons (is_if (it_cmp op_inA os_in (ie_var (i := 1) (pv 1)) (ie_tup (ia_cons (ie_str (l := [102, 105, 110, 100]) (by decide +kernel)) (ia_cons (ie_str (l := [114, 111, 119, 115]) (by decide +kernel)) ia_nil))) rfl)
    (iss_one (is_ret (ie_tup (ia_cons (ie_str (l := [97, 115, 107]) (by decide +kernel)) (ia_cons (ie_ix (ie_var (i := 2) (pv 2)) ie_int rfl (fun _ _ => rfl)) (ia_cons (ie_tup (ia_cons (ie_var (i := 1) (pv 1)) (ia_cons (ie_ix (ie_var (i := 2) (pv 2)) ie_int rfl (fun _ _ => rfl)) ia_nil))) ia_nil))))))
    iss_nil)
    (iss_cons (is_asg (t := .nm 3) rfl (ps_set (i := 3) sc_ask_in.nd rfl (.inl rfl) (ie_tup (ia_cons (ie_ix (ie_var (i := 2) (pv 2)) ie_int rfl (fun _ _ => rfl)) (ia_cons (ie_ix (ie_var (i := 2) (pv 2)) ie_int rfl (fun _ _ => rfl)) ia_nil)))))
    (iss_cons (is_asg (t := .nm 4) rfl (setFrz (ps_set (i := 4) sc_ask_in.nd rfl (.inl rfl) (il_sl (ie_var (i := 2) (pv 2)) (io_some ie_int) io_none rfl))))
    (iss_one (is_ret (ie_tup (ia_cons (ie_str (l := [97, 115, 107]) (by decide +kernel)) (ia_cons (ie_ix (ie_var (i := 2) (pv 2)) ie_int rfl (fun _ _ => rfl)) (ia_cons (ie_tup (ia_cons (ie_var (i := 1) (pv 1)) (ia_cons (ie_var (i := 3) (pv 3)) (ia_star rfl (ie_var (i := 4) (pv 4)) ia_nil)))) ia_nil))))))))))))))).imp (spM.imp GP_ask_in)
theorem E_ask_in {f : Addr} {od an : Option Addr} {sl : Array (Option Value)} {oc kV dc pm cd ct : Value} (l : F.K.lookup f = some ⟨oc, od, .func (PySem.W.fnOf "ask_in" "ask_in" (defArgs (topS 29)) (defBody (topS 29)) (defScope (topS 29)) .none kV dc pm an cd ct), sl⟩) (c : PySem.W.codeIn F.K cd "ask_in" = true) (k : PySem.W.keepIn F.K (.ref f) = true) (g : mg "ask_in" = some (.ref f)) (m_len : mg "len" = none) (wd_ASK_FORMS : WDict F.K w mg "ASK_FORMS" tb_ASK_FORMS) (d_parts_in : DfM P w F.K mg base F "parts_in" ["form", "words"] 2 G_parts_in) : DfM P w F.K mg base F "ask_in" ["words"] 3 G_ask_in :=
  ⟨f, _, D_ask_in (F := F) (fun_mk (st := (topS 29)) l c k) (m_len := m_len) (wd_ASK_FORMS := wd_ASK_FORMS) (d_parts_in := d_parts_in), g, k, (fun_mk (st := (topS 29)) l c k).binds (ps := ["words"]) fun _ _ _ _ _ _ us hl => match us, hl with | [_], _ => rfl⟩

theorem sc_step_in : FnScope ["words", "kind", "parts"] ["words"] (defScope (topS 27)) := ⟨rfl, rfl, rfl, by decide +kernel, rfl, by decide +kernel, by decide +kernel⟩
theorem D_step_in {f : Addr} {fd : FuncData} (Fn : Fun F.K "step_in" "step_in" (topS 27) f fd) (d_edit_in : DfM P w F.K mg base F "edit_in" ["words"] 3 G_edit_in) (d_ask_in : DfM P w F.K mg base F "ask_in" ["words"] 3 G_ask_in) (wd_STEP_FORMS : WDict F.K w mg "STEP_FORMS" tb_STEP_FORMS) (d_parts_in : DfM P w F.K mg base F "parts_in" ["form", "words"] 2 G_parts_in) : FnOk P w F.K mg base (L2.CX P w) 4 f fd ["words"] (spM F 1 G_step_in) :=
  (fn_ok Fn sc_step_in (by decide) (fun cdv A outer s H E hr =>
    show ISs _ F (fun cls d _ H => E cls d H) _ M_step_in from (iss_cons (is_asg (t := .nm 1) rfl (ps_set (i := 1) sc_step_in.nd rfl (.inl rfl) (ie_ix (ie_var (i := 0) (pv 0)) ie_int rfl (fun _ _ => rfl))))
    (iss_cons (is_if (it_cmp (op_eqD hr.units) os_eq (ie_var (i := 1) (pv 1)) (ie_str (l := [101, 100, 105, 116]) (by decide +kernel)) (nomark _))
    (iss_one (is_ret (ie_call d_edit_in (hr.mono (by decide)) (takes_of rfl rfl rfl rfl) (ia_cons (ie_frz (il_sl (ie_var (i := 0) (pv 0)) (io_some ie_int) io_none rfl)) ia_nil))))
    iss_nil)
    (iss_cons (is_if (it_cmp (op_eqD hr.units) os_eq (ie_var (i := 1) (pv 1)) (ie_str (l := [97, 115, 107]) (by decide +kernel)) (nomark _))
    (iss_one (is_ret (ie_call d_ask_in (hr.mono (by decide)) (takes_of rfl rfl rfl rfl) (ia_cons (ie_frz (il_sl (ie_var (i := 0) (pv 0)) (io_some ie_int) io_none rfl)) ia_nil))))
    iss_nil)
    (iss_cons (is_if (it_tnotin wd_STEP_FORMS (by rfl) (ie_var (i := 1) (pv 1)))
    (iss_one (is_ret ie_non))
    iss_nil)
    (iss_cons (is_asg (t := .nm 2) rfl (ps_set (i := 2) sc_step_in.nd rfl (.inl rfl) (ie_call d_parts_in (hr.mono (by decide)) (takes_of rfl rfl rfl rfl) (ia_cons (ie_tix wd_STEP_FORMS (by rfl) (ie_var (i := 1) (pv 1)) (fun _ _ => rfl)) (ia_cons (ie_frz (il_sl (ie_var (i := 0) (pv 0)) (io_some ie_int) io_none rfl)) ia_nil)))))
    (iss_one (is_ret (ie_if (it_cmp op_isN os_isN (ie_var (i := 2) (pv 2)) ie_non (nomark _)) ie_non (ie_tup (ia_cons (ie_var (i := 1) (pv 1)) (ia_star rfl (ie_var (i := 2) (pv 2)) ia_nil))))))))))))).imp (spM.imp GP_step_in)
theorem E_step_in {f : Addr} {od an : Option Addr} {sl : Array (Option Value)} {oc kV dc pm cd ct : Value} (l : F.K.lookup f = some ⟨oc, od, .func (PySem.W.fnOf "step_in" "step_in" (defArgs (topS 27)) (defBody (topS 27)) (defScope (topS 27)) .none kV dc pm an cd ct), sl⟩) (c : PySem.W.codeIn F.K cd "step_in" = true) (k : PySem.W.keepIn F.K (.ref f) = true) (g : mg "step_in" = some (.ref f)) (d_edit_in : DfM P w F.K mg base F "edit_in" ["words"] 3 G_edit_in) (d_ask_in : DfM P w F.K mg base F "ask_in" ["words"] 3 G_ask_in) (wd_STEP_FORMS : WDict F.K w mg "STEP_FORMS" tb_STEP_FORMS) (d_parts_in : DfM P w F.K mg base F "parts_in" ["form", "words"] 2 G_parts_in) : DfM P w F.K mg base F "step_in" ["words"] 4 G_step_in :=
  ⟨f, _, D_step_in (F := F) (fun_mk (st := (topS 27)) l c k) (d_edit_in := d_edit_in) (d_ask_in := d_ask_in) (wd_STEP_FORMS := wd_STEP_FORMS) (d_parts_in := d_parts_in), g, k, (fun_mk (st := (topS 27)) l c k).binds (ps := ["words"]) fun _ _ _ _ _ _ us hl => match us, hl with | [_], _ => rfl⟩

theorem sc_read : FnScope ["text", "steps", "number", "row", "step"] ["text"] (defScope (topS 24)) := ⟨rfl, rfl, rfl, by decide +kernel, rfl, by decide +kernel, by decide +kernel⟩
theorem D_read {f : Addr} {fd : FuncData} (Fn : Fun F.K "read" "read" (topS 24) f fd) (m_enumerate : mg "enumerate" = none) (d_step_in : DfM P w F.K mg base F "step_in" ["words"] 4 G_step_in) {fxi_BadText : Addr} {fdxi_BadText : FuncData} (xi_BadText : Xi P w F.K mg base "BadText" "row" (F.cA .BadText) fxi_BadText fdxi_BadText) : FnOk P w F.K mg base (L2.CX P w) 5 f fd ["text"] (spM F 1 G_read) :=
  (fn_ok Fn sc_read (by decide) (fun cdv A outer s H E hr =>
    show ISs _ F (fun cls d _ H => E cls d H) _ M_read from (iss_cons (is_if (it_cmp (op_eqD hr.units) os_eq (ie_var (i := 0) (pv 0)) (ie_str (l := []) (by decide +kernel)) (nomark _))
    (iss_one (is_ret (ie_new (il_lst ia_nil))))
    iss_nil)
    (iss_cons (is_asg (t := .nm 1) rfl (setNew (ps_set (i := 1) sc_read.nd rfl (.inl rfl) (il_lst ia_nil))))
    (iss_cons (is_for (t := (.tp [(.nm 2), (.nm 3)])) rfl (ps_for (passes_of rfl) rfl (ii_enum (by rfl) m_enumerate (ie_frz (il_split (pe_split (ie_var (i := 0) (pv 0)) (ie_str (l := [10]) (by decide +kernel)))))) (pg_tup rfl (pgs_cons (pg_name (i := 2) sc_read.nd rfl (.inl rfl)) (pgs_cons (pg_name (i := 3) sc_read.nd rfl (.inl rfl)) pgs_nil)))
    (iss_cons (is_asg (t := .nm 4) rfl (ps_set (i := 4) sc_read.nd rfl (.inl rfl) (ie_call d_step_in (hr.mono (by decide)) (takes_of rfl rfl rfl rfl) (ia_cons (ie_frz (il_split (pe_split (ie_var (i := 3) (pv 3)) (ie_str (l := [32]) (by decide +kernel))))) ia_nil))))
    (iss_cons (is_if (it_cmp op_isN os_isN (ie_var (i := 4) (pv 4)) ie_non (nomark _))
    (iss_one (is_raiseN (c := .BadText) (f := .row) rfl (ps_raise rfl (takes_of rfl rfl rfl rfl) (pmk_oex (ds := []) (dvs := []) xi_BadText.oex xi_BadText.ini xi_BadText.tyI xi_BadText.F (hr.mono (by decide)) xi_BadText.bd .nil pass0 rfl xi_BadText.g (pa_cons (ie_var (i := 2) (pv 2)) pa_nil)))))
    iss_nil)
    (iss_one (is_expr (ie_lm ls_append (pe_bm PySem.F.plainAttrs_list PySem.F.slot_list_append PySem.F.type_list_append mt_append (ie_var (i := 1) (pv 1)) (ia_cons (ie_var (i := 4) (pv 4)) ia_nil)))))))))
    (iss_one (is_ret (ie_var (i := 1) (pv 1))))))))).imp (spM.imp GP_read)
theorem E_read {f : Addr} {od an : Option Addr} {sl : Array (Option Value)} {oc kV dc pm cd ct : Value} (l : F.K.lookup f = some ⟨oc, od, .func (PySem.W.fnOf "read" "read" (defArgs (topS 24)) (defBody (topS 24)) (defScope (topS 24)) .none kV dc pm an cd ct), sl⟩) (c : PySem.W.codeIn F.K cd "read" = true) (k : PySem.W.keepIn F.K (.ref f) = true) (g : mg "read" = some (.ref f)) (m_enumerate : mg "enumerate" = none) (d_step_in : DfM P w F.K mg base F "step_in" ["words"] 4 G_step_in) {fxi_BadText : Addr} {fdxi_BadText : FuncData} (xi_BadText : Xi P w F.K mg base "BadText" "row" (F.cA .BadText) fxi_BadText fdxi_BadText) : DfM P w F.K mg base F "read" ["text"] 5 G_read :=
  ⟨f, _, D_read (F := F) (fun_mk (st := (topS 24)) l c k) (m_enumerate := m_enumerate) (d_step_in := d_step_in) (xi_BadText := xi_BadText), g, k, (fun_mk (st := (topS 24)) l c k).binds (ps := ["text"]) fun _ _ _ _ _ _ us hl => match us, hl with | [_], _ => rfl⟩

theorem sc__law_same : FnScope ["_law_found", "_law_due", "_law_k"] ["_law_found", "_law_due"] (defScope (topS 36)) := ⟨rfl, rfl, rfl, by decide +kernel, rfl, by decide +kernel, by decide +kernel⟩
theorem D__law_same {f : Addr} {fd : FuncData} (Fn : Fun F.K "_law_same" "_law_same" (topS 36) f fd) (m_isinstance : mg "isinstance" = none) (m_tuple : mg "tuple" = none) (m_list : mg "list" = none) (m_len : mg "len" = none) (m_range : mg "range" = none) {k : Nat} {R R2 : FnM} (hR : ∀ vs μ Q E, vs.length = 2 → R2 vs μ Q E → P__law_same R vs μ Q E) (r__law_same : DfM P w F.K mg base F "_law_same" ["_law_found", "_law_due"] k R) (m_str : mg "str" = none) (m_bool : mg "bool" = none) (m_int : mg "int" = none) : FnOk P w F.K mg base (L2.CX P w) (k + 1) f fd ["_law_found", "_law_due"] (spM F 2 R2) :=
  (fn_ok Fn sc__law_same (by decide) (fun cdv A outer s H E hr =>
    show ISs _ F (fun cls d _ H => E cls d H) _ (M__law_same R) from (iss_cons (is_if (it_val (ie_isiS (pe_callB call_isiT (by rfl) m_isinstance (by decide +kernel) (pa_cons (ie_var (i := 1) (pv 1)) (pa_cons (pe_tup (pa_cons (pe_bltn (v := .ty "tuple") (by rfl) m_tuple (by decide +kernel) rfl) (pa_cons (pe_bltn (v := .ty "list") (by rfl) m_list (by decide +kernel) rfl) pa_nil))) pa_nil)))))
    (iss_cons (is_if (it_w (iw_or (it_not (it_val (ie_isiS (pe_callB call_isiT (by rfl) m_isinstance (by decide +kernel) (pa_cons (ie_var (i := 0) (pv 0)) (pa_cons (pe_tup (pa_cons (pe_bltn (v := .ty "tuple") (by rfl) m_tuple (by decide +kernel) rfl) (pa_cons (pe_bltn (v := .ty "list") (by rfl) m_list (by decide +kernel) rfl) pa_nil))) pa_nil)))))) (iw_or1 (it_cmp (op_neD hr.units) os_ne (ie_isi (T := .lst) (pe_callB call_isi (by rfl) m_isinstance (by decide +kernel) (pa_cons (ie_var (i := 0) (pv 0)) (pa_cons (pe_bltn (v := .ty "list") (by rfl) m_list (by decide +kernel) rfl) pa_nil)))) (ie_isi (T := .lst) (pe_callB call_isi (by rfl) m_isinstance (by decide +kernel) (pa_cons (ie_var (i := 1) (pv 1)) (pa_cons (pe_bltn (v := .ty "list") (by rfl) m_list (by decide +kernel) rfl) pa_nil)))) (nomark _)))))
    (iss_one (is_ret ie_bl))
    iss_nil)
    (iss_cons (is_if (it_cmp (op_neD hr.units) os_ne (ie_callB cr_lenA cs_len (by rfl) m_len PySem.boot_len (ia_cons (ie_var (i := 0) (pv 0)) ia_nil)) (ie_callB cr_lenA cs_len (by rfl) m_len PySem.boot_len (ia_cons (ie_var (i := 1) (pv 1)) ia_nil)) (nomark _))
    (iss_one (is_ret ie_bl))
    iss_nil)
    (iss_one (is_ret (ie_cmp (op_eqD hr.units) os_eq (ie_frz (ILc (t := (.nm 2)) rfl (pe_lc (own := [("_law_k", 2)]) (g := Tg.g F.K (.nm 2)) (tt := denT F W0 (mNotT (mB (mCall (ck 2 R) (aCons (mOp oIx (mVar 0) (mVar 2)) (aCons (mOp oIx (mVar 1) (mVar 2)) aNil)))))) (te := denE F W0 (mVar 2)) rfl sc__law_same.nd (ii_rg1 (pi_range1 (by rfl) m_range (pa_cons (ie_callB cr_lenA cs_len (by rfl) m_len PySem.boot_len (ia_cons (ie_var (i := 1) (pv 1)) ia_nil)) pa_nil))) (blkOk_by (own := [("_law_k", 2)]) (N := ["_law_found", "_law_due", "_law_k"]) (sc := defScope (topS 36)) (by decide +kernel)) (fun _ _ _ _ _ => (pg_name (i := 2) sc__law_same.nd rfl (.inl rfl))) (fun _ _ _ _ _ => (pts_one (it_not (it_val (ie_call r__law_same hr takes0 (ia_cons (ie_ix (ie_var (i := 0) (pv 0)) (ie_var (i := 2) (pv 2)) rfl (fun _ _ => rfl)) (ia_cons (ie_ix (ie_var (i := 1) (pv 1)) (ie_var (i := 2) (pv 2)) rfl (fun _ _ => rfl)) ia_nil))))))) (fun _ _ _ _ _ => (ie_var (i := 2) (pv 2)))))) (ie_frz (il_lst ia_nil)) (nomark _))))))
    iss_nil)
    (iss_cons (is_if (it_cmp op_isN os_isN (ie_var (i := 1) (pv 1)) ie_non (nomark _))
    (iss_one (is_ret (ie_cmp op_isN os_isN (ie_var (i := 0) (pv 0)) ie_non (nomark _))))
    iss_nil)
    (iss_cons (is_if (it_val (ie_isi (T := .str) (pe_callB call_isi (by rfl) m_isinstance (by decide +kernel) (pa_cons (ie_var (i := 1) (pv 1)) (pa_cons (pe_bltn (v := .ty "str") (by rfl) m_str (by decide +kernel) rfl) pa_nil)))))
    (iss_one (is_ret (ie_and (ie_isi (T := .str) (pe_callB call_isi (by rfl) m_isinstance (by decide +kernel) (pa_cons (ie_var (i := 0) (pv 0)) (pa_cons (pe_bltn (v := .ty "str") (by rfl) m_str (by decide +kernel) rfl) pa_nil)))) (ie_one (ie_cmp (op_eqD hr.units) os_eq (ie_var (i := 0) (pv 0)) (ie_var (i := 1) (pv 1)) (nomark _))))))
    iss_nil)
    (iss_cons (is_if (it_w (iw_or (it_val (ie_isi (T := .bool) (pe_callB call_isi (by rfl) m_isinstance (by decide +kernel) (pa_cons (ie_var (i := 1) (pv 1)) (pa_cons (pe_bltn (v := .ty "bool") (by rfl) m_bool (by decide +kernel) rfl) pa_nil))))) (iw_or1 (it_val (ie_isi (T := .bool) (pe_callB call_isi (by rfl) m_isinstance (by decide +kernel) (pa_cons (ie_var (i := 0) (pv 0)) (pa_cons (pe_bltn (v := .ty "bool") (by rfl) m_bool (by decide +kernel) rfl) pa_nil))))))))
    (iss_one (is_ret (ie_and (ie_isi (T := .bool) (pe_callB call_isi (by rfl) m_isinstance (by decide +kernel) (pa_cons (ie_var (i := 1) (pv 1)) (pa_cons (pe_bltn (v := .ty "bool") (by rfl) m_bool (by decide +kernel) rfl) pa_nil)))) (ie_and (ie_isi (T := .bool) (pe_callB call_isi (by rfl) m_isinstance (by decide +kernel) (pa_cons (ie_var (i := 0) (pv 0)) (pa_cons (pe_bltn (v := .ty "bool") (by rfl) m_bool (by decide +kernel) rfl) pa_nil)))) (ie_one (ie_cmp (op_eqD hr.units) os_eq (ie_var (i := 0) (pv 0)) (ie_var (i := 1) (pv 1)) (nomark _)))))))
    iss_nil)
    (iss_one (is_ret (ie_and (ie_isi (T := .int) (pe_callB call_isi (by rfl) m_isinstance (by decide +kernel) (pa_cons (ie_var (i := 0) (pv 0)) (pa_cons (pe_bltn (v := .ty "int") (by rfl) m_int (by decide +kernel) rfl) pa_nil)))) (ie_one (ie_cmp (op_eqD hr.units) os_eq (ie_var (i := 0) (pv 0)) (ie_var (i := 1) (pv 1)) (nomark _)))))))))))).imp (spM.imp hR)

theorem sc_law : FnScope ["_law_script", "_law_state", "_law_some", "_law_turn", "_law_text", "_law_change", "_law_steps", "_law_due", "_law_row_here"] ["_law_script"] (defScope (topS 56)) := ⟨rfl, rfl, rfl, by decide +kernel, rfl, by decide +kernel, by decide +kernel⟩
theorem D_law {f : Addr} {fd : FuncData} (d__law_start : DfM P w F.K mg base F "_law_start" ["_law_script"] 1 G__law_start) (m_range : mg "range" = none) (d__law_play : DfM P w F.K mg base F "_law_play" ["_law_state", "_law_files"] 6 G__law_play) (d_written : DfM P w F.K mg base F "written" ["steps"] 9 G_written) (d__law_drawn : DfM P w F.K mg base F "_law_drawn" ["_law_state", "_law_many"] 1 G__law_drawn) (d__law_spoilt : DfM P w F.K mg base F "_law_spoilt" ["_law_state", "_law_text"] 3 G__law_spoilt) (d__law_row : DfM P w F.K mg base F "_law_row" ["_law_row_here"] 3 G__law_row) {cL pL : Addr} (tb : LamX.TabB base mg cL pL) (hTm : (pL, (("law" : Str) ++ ".<locals>.") ++ "<lambda>") ∈ F.T) (hTu : ∀ p ∈ F.T, p.1 = pL → p.2 = (("law" : Str) ++ ".<locals>.") ++ "<lambda>") (d_read : DfM P w F.K mg base F "read" ["text"] 5 G_read) (d__law_word : Df P w F.K mg base "_law_word" ["_law_work"] 21 (spWord P w F.K mg base 20)) (hw : ∀ c j, wIx c = some j → mg (Str.ofString (wNames.getD j "")) = some (.ref (F.cA c))) (d__law_same : DfM P w F.K mg base F "_law_same" ["_law_found", "_law_due"] 9 G__law_same) (Fn : FunC F.K "law" "law" (topS 56) f fd cL) : FnOk P w F.K mg base (L2.CX P w) 22 f fd ["_law_script"] (spM F 1 G_law) :=
  (fn_okC Fn sc_law (by decide) (fun A outer s H E hr =>
    show ISs _ F (fun cls d _ H => E cls d H) _ M_law from (iss_cons (is_asg (t := .nm 1) rfl (ps_set (i := 1) sc_law.nd rfl (.inl rfl) (ie_call d__law_start (hr.mono (by decide)) (takes_of rfl rfl rfl rfl) (ia_cons (ie_var (i := 0) (pv 0)) ia_nil))))
    (iss_cons (is_asg (t := .nm 2) rfl (setFrz (ps_set (i := 2) sc_law.nd rfl (.inl rfl) (il_lst (ia_cons (ie_str (l := []) (by decide +kernel)) (ia_cons (ie_str (l := [10]) (by decide +kernel)) (ia_cons (ie_str (l := [99, 97, 114, 114, 121, 32]) (by decide +kernel)) (ia_cons (ie_str (l := [32, 99, 97, 114, 114, 121]) (by decide +kernel)) (ia_cons (ie_str (l := [97, 115, 107, 32, 49, 32, 102, 105, 110, 100]) (by decide +kernel)) (ia_cons (ie_str (l := [97, 115, 107, 32, 49, 32, 119, 111, 114, 100, 32, 48]) (by decide +kernel)) (ia_cons (ie_str (l := [101, 100, 105, 116]) (by decide +kernel)) (ia_cons (ie_str (l := [101, 100, 105, 116, 32, 49]) (by decide +kernel)) (ia_cons (ie_str (l := [101, 100, 105, 116, 32, 49, 32, 48, 32, 48, 32, 48, 32, 48]) (by decide +kernel)) (ia_cons (ie_str (l := [111, 112, 101, 110, 32, 49, 32, 126]) (by decide +kernel)) ia_nil))))))))))))))
    (iss_cons (is_asg (t := .nm 2) rfl (setFrz (ps_set (i := 2) sc_law.nd rfl (.inl rfl) (il_add (ie_var (i := 2) (pv 2)) (ie_frz (il_lst (ia_cons (ie_str (l := [111, 112, 101, 110, 32, 49, 32, 97, 32, 98]) (by decide +kernel)) (ia_cons (ie_str (l := [111, 112, 101, 110, 32, 49, 32, 126, 46, 126, 46]) (by decide +kernel)) (ia_cons (ie_str (l := [97, 115, 107, 32, 49, 32, 114, 101, 110, 97, 109, 101, 32, 48, 32, 48]) (by decide +kernel)) (ia_cons (ie_str (l := [99, 108, 111, 115, 101]) (by decide +kernel)) (ia_cons (ie_str (l := [111, 102, 102, 32, 49, 32, 49]) (by decide +kernel)) (ia_cons (ie_str (l := [101, 100, 105, 116, 32, 49, 32, 48, 32, 48, 32, 48, 32, 48, 32, 126, 46, 32, 48]) (by decide +kernel)) ia_nil))))))))))))
    (iss_cons (is_for (t := (.nm 3)) rfl (ps_for (passes_of rfl) rfl (ii_rg1 (pi_range1 (by rfl) m_range (pa_cons ie_int pa_nil))) (pg_name (i := 3) sc_law.nd rfl (.inl rfl))
    (iss_cons (is_asg (t := .nm 4) rfl (ps_set (i := 4) sc_law.nd rfl (.inr rfl) (ie_call d_written (hr.mono (by decide)) (takes_of rfl rfl rfl rfl) (ia_cons (ie_call d__law_play (hr.mono (by decide)) (takes_of rfl rfl rfl rfl) (ia_cons (ie_var (i := 1) (pv 1)) (ia_cons ie_int ia_nil))) ia_nil))))
    (iss_cons (is_if (it_cmp (op_eqD hr.units) os_eq (ie_call d__law_drawn (hr.mono (by decide)) (takes_of rfl rfl rfl rfl) (ia_cons (ie_var (i := 1) (pv 1)) (ia_cons ie_int ia_nil))) ie_int (nomark _))
    (iss_one (is_asg (t := .nm 4) rfl (ps_set (i := 4) sc_law.nd rfl (.inr rfl) (ie_ix (ie_var (i := 2) (pv 2)) (ie_call d__law_drawn (hr.mono (by decide)) (takes_of rfl rfl rfl rfl) (ia_cons (ie_var (i := 1) (pv 1)) (ia_cons ie_int ia_nil))) rfl (fun _ _ => rfl)))))
    iss_nil)
    (iss_cons (is_for (t := (.nm 5)) rfl (ps_for (passes_of rfl) rfl (ii_rg1 (pi_range1 (by rfl) m_range (pa_cons (ie_call d__law_drawn (hr.mono (by decide)) (takes_of rfl rfl rfl rfl) (ia_cons (ie_var (i := 1) (pv 1)) (ia_cons ie_int ia_nil))) pa_nil))) (pg_name (i := 5) sc_law.nd rfl (.inl rfl))
    (iss_one (is_asg (t := .nm 4) rfl (ps_set (i := 4) sc_law.nd rfl (.inr rfl) (ie_call d__law_spoilt (hr.mono (by decide)) (takes_of rfl rfl rfl rfl) (ia_cons (ie_var (i := 1) (pv 1)) (ia_cons (ie_var (i := 4) (pv 4)) ia_nil))))))))
    (iss_cons (is_asg (t := .nm 6) rfl (ps_set (i := 6) sc_law.nd rfl (.inl rfl) (ie_if (it_cmp (op_neD hr.units) os_ne (ie_var (i := 4) (pv 4)) (ie_str (l := []) (by decide +kernel)) (nomark _)) (ie_frz (ILc (t := (.nm 8)) rfl (pe_lc (own := [("_law_row_here", 8)]) (g := Tg.g F.K (.nm 8)) (tt := denT F W0 mYes) (te := denE F W0 (mCall (ck 1 G__law_row) (aCons (mVar 8) aNil))) rfl sc_law.nd (ii_lst (ie_frz (il_split (pe_split (ie_var (i := 4) (pv 4)) (ie_str (l := [10]) (by decide +kernel))))) rfl) (blkOk_by (own := [("_law_row_here", 8)]) (N := ["_law_script", "_law_state", "_law_some", "_law_turn", "_law_text", "_law_change", "_law_steps", "_law_due", "_law_row_here"]) (sc := defScope (topS 56)) (by decide +kernel)) (fun _ _ _ _ _ => (pg_name (i := 8) sc_law.nd rfl (.inl rfl))) (fun _ _ _ _ _ => pts_yes) (fun _ _ _ _ _ => (ie_call d__law_row (hr.mono (by decide)) takes0 (ia_cons (ie_var (i := 8) (pv 8)) ia_nil)))))) (ie_frz (il_lst ia_nil)))))
    (iss_cons (is_asg (t := .nm 7) rfl (ps_set (i := 7) sc_law.nd rfl (.inl rfl) (ie_if (it_cmp (op_inD (hu65 hr)) os_inD ie_non (ie_var (i := 6) (pv 6)) rfl) (ie_tup (ia_cons (ie_str (l := [66, 97, 100, 84, 101, 120, 116]) (by decide +kernel)) (ia_cons (ie_indexD (pe_bm PySem.F.plainAttrs_list PySem.F.slot_list_index PySem.F.type_list_index (mt_indexD (hu65 hr)) (ie_var (i := 6) (pv 6)) (pa_cons ie_non pa_nil))) ia_nil))) (ie_var (i := 6) (pv 6)))))
    (iss_one (is_if (it_not (it_val (ie_call d__law_same (hr.mono (by decide)) (takes_of rfl rfl rfl rfl) (ia_cons (ie_word d__law_word (hr.mono (by decide)) (by exact pe_lamN tb rfl hTm hTu (lmS_by (N := ["_law_script", "_law_state", "_law_some", "_law_turn", "_law_text", "_law_change", "_law_steps", "_law_due", "_law_row_here"]) (sc := defScope (topS 56)) (by decide +kernel)) (fun _ => rfl) rfl (fun _ _ _ _ _ => rfl)) hw (lmS_by (N := ["_law_script", "_law_state", "_law_some", "_law_turn", "_law_text", "_law_change", "_law_steps", "_law_due", "_law_row_here"]) (sc := defScope (topS 56)) (by decide +kernel)) (fun A outer s H E f c' hr => (ie_call d_read (hr.mono (by decide)) (takes_of rfl rfl rfl rfl) (ia_cons (ie_var (i := 4) (pv 4)) ia_nil)))) (ia_cons (ie_var (i := 7) (pv 7)) ia_nil)))))
    (iss_one (is_ret ie_bl))
    iss_nil)))))))))
    (iss_one (is_ret ie_bl)))))))).imp (spM.imp GP_law)

end
end MW

set_option Elab.async false
set_option linter.all false
set_option maxRecDepth 100000
set_option maxHeartbeats 2000000
namespace MW
open PySem PySem.Spec PyProof.Rows L2 Evl SX HW
def mkF (K : PySem.W.Frag) (C_WireError C_BadSheet C_BadPlace C_BadEdit C_BadFile C_Opened C_NoFile C_TooMany C_BadAsk C_NoAsk C_Old C_Fallen C_NotFallen C_BadLetter C_BadText pL0 : Addr) : Cf := ⟨K, fun c => match c with
  | .WireError => C_WireError
  | .BadSheet => C_BadSheet
  | .BadPlace => C_BadPlace
  | .BadEdit => C_BadEdit
  | .BadFile => C_BadFile
  | .Opened => C_Opened
  | .NoFile => C_NoFile
  | .TooMany => C_TooMany
  | .BadAsk => C_BadAsk
  | .NoAsk => C_NoAsk
  | .Old => C_Old
  | .Fallen => C_Fallen
  | .NotFallen => C_NotFallen
  | .BadLetter => C_BadLetter
  | .BadText => C_BadText
  | .OpenFile => 0
  | .KnownAsk => 0
  | .Court => 0
  | .EditorAsk => 0
  | .Editor => 0
  | .Helper => 0
  | .Wire => 0
  , [(pL0, (("law" : Str) ++ ".<locals>.") ++ "<lambda>")]⟩
set_option maxHeartbeats 0 in
theorem all_mk {l : PySem.W.OpenLaw} {w : World} {K : PySem.W.Frag} {h : Heap} {mg : Str → Option Value} {fa : Addr} (X : K.In h) (G : h.Ns mainGlobals mg) (hfa : mg "law" = some (.ref fa))
    {C_WireError : Addr}
    (g_WireError : PySem.W.nsIn K mainGlobals "WireError" = some (some (.ref C_WireError)))
    {C_BadSheet : Addr}
    (g_BadSheet : PySem.W.nsIn K mainGlobals "BadSheet" = some (some (.ref C_BadSheet)))
    {C_BadPlace : Addr}
    (g_BadPlace : PySem.W.nsIn K mainGlobals "BadPlace" = some (some (.ref C_BadPlace)))
    {C_BadEdit : Addr}
    (g_BadEdit : PySem.W.nsIn K mainGlobals "BadEdit" = some (some (.ref C_BadEdit)))
    {C_BadFile : Addr}
    (g_BadFile : PySem.W.nsIn K mainGlobals "BadFile" = some (some (.ref C_BadFile)))
    {C_Opened : Addr}
    (g_Opened : PySem.W.nsIn K mainGlobals "Opened" = some (some (.ref C_Opened)))
    {C_NoFile : Addr}
    (g_NoFile : PySem.W.nsIn K mainGlobals "NoFile" = some (some (.ref C_NoFile)))
    {C_TooMany : Addr}
    (g_TooMany : PySem.W.nsIn K mainGlobals "TooMany" = some (some (.ref C_TooMany)))
    {C_BadAsk : Addr}
    (g_BadAsk : PySem.W.nsIn K mainGlobals "BadAsk" = some (some (.ref C_BadAsk)))
    {C_NoAsk : Addr}
    (g_NoAsk : PySem.W.nsIn K mainGlobals "NoAsk" = some (some (.ref C_NoAsk)))
    {C_Old : Addr}
    (g_Old : PySem.W.nsIn K mainGlobals "Old" = some (some (.ref C_Old)))
    {C_Fallen : Addr}
    (g_Fallen : PySem.W.nsIn K mainGlobals "Fallen" = some (some (.ref C_Fallen)))
    {C_NotFallen : Addr}
    (g_NotFallen : PySem.W.nsIn K mainGlobals "NotFallen" = some (some (.ref C_NotFallen)))
    {C_BadLetter : Addr}
    (g_BadLetter : PySem.W.nsIn K mainGlobals "BadLetter" = some (some (.ref C_BadLetter)))
    {C_BadText : Addr}
    (g_BadText : PySem.W.nsIn K mainGlobals "BadText" = some (some (.ref C_BadText)))
    {f0 : Addr} {od0 an0 : Option Addr} {sl0 : Array (Option Value)} {oc0 kV0 dc0 pm0 cd0 ct0 : Value}
    (a0 : PySem.W.nsIn K mainGlobals "_law_word" = some (some (.ref f0)))
    (l0 : K.lookup f0 = some ⟨oc0, od0, .func (PySem.W.fnOf "_law_word" "_law_word" (defArgs (topS 37)) (defBody (topS 37)) (defScope (topS 37)) .none kV0 dc0 pm0 an0 cd0 ct0), sl0⟩)
    (c0 : PySem.W.codeIn K cd0 "_law_word" = true)
    (k0 : PySem.W.keepIn K (.ref f0) = true)
    {f1 : Addr} {od1 an1 : Option Addr} {sl1 : Array (Option Value)} {oc1 kV1 dc1 pm1 cd1 ct1 : Value}
    (a1 : PySem.W.nsIn K mainGlobals "_law_start" = some (some (.ref f1)))
    (l1 : K.lookup f1 = some ⟨oc1, od1, .func (PySem.W.fnOf "_law_start" "_law_start" (defArgs (topS 34)) (defBody (topS 34)) (defScope (topS 34)) .none kV1 dc1 pm1 an1 cd1 ct1), sl1⟩)
    (c1 : PySem.W.codeIn K cd1 "_law_start" = true)
    (k1 : PySem.W.keepIn K (.ref f1) = true)
    {f2 : Addr} {od2 an2 : Option Addr} {sl2 : Array (Option Value)} {oc2 kV2 dc2 pm2 cd2 ct2 : Value}
    (a2 : PySem.W.nsIn K mainGlobals "_law_drawn" = some (some (.ref f2)))
    (l2 : K.lookup f2 = some ⟨oc2, od2, .func (PySem.W.fnOf "_law_drawn" "_law_drawn" (defArgs (topS 35)) (defBody (topS 35)) (defScope (topS 35)) .none kV2 dc2 pm2 an2 cd2 ct2), sl2⟩)
    (c2 : PySem.W.codeIn K cd2 "_law_drawn" = true)
    (k2 : PySem.W.keepIn K (.ref f2) = true)
    {f3 : Addr} {od3 an3 : Option Addr} {sl3 : Array (Option Value)} {oc3 kV3 dc3 pm3 cd3 ct3 : Value}
    (a3 : PySem.W.nsIn K mainGlobals "_law_sign" = some (some (.ref f3)))
    (l3 : K.lookup f3 = some ⟨oc3, od3, .func (PySem.W.fnOf "_law_sign" "_law_sign" (defArgs (topS 38)) (defBody (topS 38)) (defScope (topS 38)) .none kV3 dc3 pm3 an3 cd3 ct3), sl3⟩)
    (c3 : PySem.W.codeIn K cd3 "_law_sign" = true)
    (k3 : PySem.W.keepIn K (.ref f3) = true)
    {f4 : Addr} {od4 an4 : Option Addr} {sl4 : Array (Option Value)} {oc4 kV4 dc4 pm4 cd4 ct4 : Value}
    (a4 : PySem.W.nsIn K mainGlobals "_law_put" = some (some (.ref f4)))
    (l4 : K.lookup f4 = some ⟨oc4, od4, .func (PySem.W.fnOf "_law_put" "_law_put" (defArgs (topS 39)) (defBody (topS 39)) (defScope (topS 39)) .none kV4 dc4 pm4 an4 cd4 ct4), sl4⟩)
    (c4 : PySem.W.codeIn K cd4 "_law_put" = true)
    (k4 : PySem.W.keepIn K (.ref f4) = true)
    {f5 : Addr} {od5 an5 : Option Addr} {sl5 : Array (Option Value)} {oc5 kV5 dc5 pm5 cd5 ct5 : Value}
    (a5 : PySem.W.nsIn K mainGlobals "_law_sheet" = some (some (.ref f5)))
    (l5 : K.lookup f5 = some ⟨oc5, od5, .func (PySem.W.fnOf "_law_sheet" "_law_sheet" (defArgs (topS 40)) (defBody (topS 40)) (defScope (topS 40)) .none kV5 dc5 pm5 an5 cd5 ct5), sl5⟩)
    (c5 : PySem.W.codeIn K cd5 "_law_sheet" = true)
    (k5 : PySem.W.keepIn K (.ref f5) = true)
    {f6 : Addr} {od6 an6 : Option Addr} {sl6 : Array (Option Value)} {oc6 kV6 dc6 pm6 cd6 ct6 : Value}
    (a6 : PySem.W.nsIn K mainGlobals "_law_at" = some (some (.ref f6)))
    (l6 : K.lookup f6 = some ⟨oc6, od6, .func (PySem.W.fnOf "_law_at" "_law_at" (defArgs (topS 41)) (defBody (topS 41)) (defScope (topS 41)) .none kV6 dc6 pm6 an6 cd6 ct6), sl6⟩)
    (c6 : PySem.W.codeIn K cd6 "_law_at" = true)
    (k6 : PySem.W.keepIn K (.ref f6) = true)
    {f7 : Addr} {od7 an7 : Option Addr} {sl7 : Array (Option Value)} {oc7 kV7 dc7 pm7 cd7 ct7 : Value}
    (a7 : PySem.W.nsIn K mainGlobals "_law_edit" = some (some (.ref f7)))
    (l7 : K.lookup f7 = some ⟨oc7, od7, .func (PySem.W.fnOf "_law_edit" "_law_edit" (defArgs (topS 43)) (defBody (topS 43)) (defScope (topS 43)) .none kV7 dc7 pm7 an7 cd7 ct7), sl7⟩)
    (c7 : PySem.W.codeIn K cd7 "_law_edit" = true)
    (k7 : PySem.W.keepIn K (.ref f7) = true)
    {f8 : Addr} {od8 an8 : Option Addr} {sl8 : Array (Option Value)} {oc8 kV8 dc8 pm8 cd8 ct8 : Value}
    (a8 : PySem.W.nsIn K mainGlobals "_law_numbers" = some (some (.ref f8)))
    (l8 : K.lookup f8 = some ⟨oc8, od8, .func (PySem.W.fnOf "_law_numbers" "_law_numbers" (defArgs (topS 42)) (defBody (topS 42)) (defScope (topS 42)) .none kV8 dc8 pm8 an8 cd8 ct8), sl8⟩)
    (c8 : PySem.W.codeIn K cd8 "_law_numbers" = true)
    (k8 : PySem.W.keepIn K (.ref f8) = true)
    {f9 : Addr} {od9 an9 : Option Addr} {sl9 : Array (Option Value)} {oc9 kV9 dc9 pm9 cd9 ct9 : Value}
    (a9 : PySem.W.nsIn K mainGlobals "_law_after" = some (some (.ref f9)))
    (l9 : K.lookup f9 = some ⟨oc9, od9, .func (PySem.W.fnOf "_law_after" "_law_after" (defArgs (topS 44)) (defBody (topS 44)) (defScope (topS 44)) .none kV9 dc9 pm9 an9 cd9 ct9), sl9⟩)
    (c9 : PySem.W.codeIn K cd9 "_law_after" = true)
    (k9 : PySem.W.keepIn K (.ref f9) = true)
    {f10 : Addr} {od10 an10 : Option Addr} {sl10 : Array (Option Value)} {oc10 kV10 dc10 pm10 cd10 ct10 : Value}
    (a10 : PySem.W.nsIn K mainGlobals "_law_edits" = some (some (.ref f10)))
    (l10 : K.lookup f10 = some ⟨oc10, od10, .func (PySem.W.fnOf "_law_edits" "_law_edits" (defArgs (topS 45)) (defBody (topS 45)) (defScope (topS 45)) .none kV10 dc10 pm10 an10 cd10 ct10), sl10⟩)
    (c10 : PySem.W.codeIn K cd10 "_law_edits" = true)
    (k10 : PySem.W.keepIn K (.ref f10) = true)
    {f11 : Addr} {od11 an11 : Option Addr} {sl11 : Array (Option Value)} {oc11 kV11 dc11 pm11 cd11 ct11 : Value}
    (a11 : PySem.W.nsIn K mainGlobals "_law_runs" = some (some (.ref f11)))
    (l11 : K.lookup f11 = some ⟨oc11, od11, .func (PySem.W.fnOf "_law_runs" "_law_runs" (defArgs (topS 47)) (defBody (topS 47)) (defScope (topS 47)) .none kV11 dc11 pm11 an11 cd11 ct11), sl11⟩)
    (c11 : PySem.W.codeIn K cd11 "_law_runs" = true)
    (k11 : PySem.W.keepIn K (.ref f11) = true)
    {f12 : Addr} {od12 an12 : Option Addr} {sl12 : Array (Option Value)} {oc12 kV12 dc12 pm12 cd12 ct12 : Value}
    (a12 : PySem.W.nsIn K mainGlobals "_law_name" = some (some (.ref f12)))
    (l12 : K.lookup f12 = some ⟨oc12, od12, .func (PySem.W.fnOf "_law_name" "_law_name" (defArgs (topS 46)) (defBody (topS 46)) (defScope (topS 46)) .none kV12 dc12 pm12 an12 cd12 ct12), sl12⟩)
    (c12 : PySem.W.codeIn K cd12 "_law_name" = true)
    (k12 : PySem.W.keepIn K (.ref f12) = true)
    {f13 : Addr} {od13 an13 : Option Addr} {sl13 : Array (Option Value)} {oc13 kV13 dc13 pm13 cd13 ct13 : Value}
    (a13 : PySem.W.nsIn K mainGlobals "_law_want" = some (some (.ref f13)))
    (l13 : K.lookup f13 = some ⟨oc13, od13, .func (PySem.W.fnOf "_law_want" "_law_want" (defArgs (topS 48)) (defBody (topS 48)) (defScope (topS 48)) .none kV13 dc13 pm13 an13 cd13 ct13), sl13⟩)
    (c13 : PySem.W.codeIn K cd13 "_law_want" = true)
    (k13 : PySem.W.keepIn K (.ref f13) = true)
    {f14 : Addr} {od14 an14 : Option Addr} {sl14 : Array (Option Value)} {oc14 kV14 dc14 pm14 cd14 ct14 : Value}
    (a14 : PySem.W.nsIn K mainGlobals "_law_play" = some (some (.ref f14)))
    (l14 : K.lookup f14 = some ⟨oc14, od14, .func (PySem.W.fnOf "_law_play" "_law_play" (defArgs (topS 50)) (defBody (topS 50)) (defScope (topS 50)) .none kV14 dc14 pm14 an14 cd14 ct14), sl14⟩)
    (c14 : PySem.W.codeIn K cd14 "_law_play" = true)
    (k14 : PySem.W.keepIn K (.ref f14) = true)
    {f15 : Addr} {od15 an15 : Option Addr} {sl15 : Array (Option Value)} {oc15 kV15 dc15 pm15 cd15 ct15 : Value}
    (a15 : PySem.W.nsIn K mainGlobals "written_text" = some (some (.ref f15)))
    (l15 : K.lookup f15 = some ⟨oc15, od15, .func (PySem.W.fnOf "written_text" "written_text" (defArgs (topS 26)) (defBody (topS 26)) (defScope (topS 26)) .none kV15 dc15 pm15 an15 cd15 ct15), sl15⟩)
    (c15 : PySem.W.codeIn K cd15 "written_text" = true)
    (k15 : PySem.W.keepIn K (.ref f15) = true)
    {f16 : Addr} {od16 an16 : Option Addr} {sl16 : Array (Option Value)} {oc16 kV16 dc16 pm16 cd16 ct16 : Value}
    (a16 : PySem.W.nsIn K mainGlobals "words_of" = some (some (.ref f16)))
    (l16 : K.lookup f16 = some ⟨oc16, od16, .func (PySem.W.fnOf "words_of" "words_of" (defArgs (topS 25)) (defBody (topS 25)) (defScope (topS 25)) .none kV16 dc16 pm16 an16 cd16 ct16), sl16⟩)
    (c16 : PySem.W.codeIn K cd16 "words_of" = true)
    (k16 : PySem.W.keepIn K (.ref f16) = true)
    {f17 : Addr} {od17 an17 : Option Addr} {sl17 : Array (Option Value)} {oc17 kV17 dc17 pm17 cd17 ct17 : Value}
    (a17 : PySem.W.nsIn K mainGlobals "written" = some (some (.ref f17)))
    (l17 : K.lookup f17 = some ⟨oc17, od17, .func (PySem.W.fnOf "written" "written" (defArgs (topS 23)) (defBody (topS 23)) (defScope (topS 23)) .none kV17 dc17 pm17 an17 cd17 ct17), sl17⟩)
    (c17 : PySem.W.codeIn K cd17 "written" = true)
    (k17 : PySem.W.keepIn K (.ref f17) = true)
    {f18 : Addr} {od18 an18 : Option Addr} {sl18 : Array (Option Value)} {oc18 kV18 dc18 pm18 cd18 ct18 : Value}
    (a18 : PySem.W.nsIn K mainGlobals "_law_spoilt" = some (some (.ref f18)))
    (l18 : K.lookup f18 = some ⟨oc18, od18, .func (PySem.W.fnOf "_law_spoilt" "_law_spoilt" (defArgs (topS 55)) (defBody (topS 55)) (defScope (topS 55)) .none kV18 dc18 pm18 an18 cd18 ct18), sl18⟩)
    (c18 : PySem.W.codeIn K cd18 "_law_spoilt" = true)
    (k18 : PySem.W.keepIn K (.ref f18) = true)
    {f19 : Addr} {od19 an19 : Option Addr} {sl19 : Array (Option Value)} {oc19 kV19 dc19 pm19 cd19 ct19 : Value}
    (a19 : PySem.W.nsIn K mainGlobals "_law_figures" = some (some (.ref f19)))
    (l19 : K.lookup f19 = some ⟨oc19, od19, .func (PySem.W.fnOf "_law_figures" "_law_figures" (defArgs (topS 51)) (defBody (topS 51)) (defScope (topS 51)) .none kV19 dc19 pm19 an19 cd19 ct19), sl19⟩)
    (c19 : PySem.W.codeIn K cd19 "_law_figures" = true)
    (k19 : PySem.W.keepIn K (.ref f19) = true)
    {f20 : Addr} {od20 an20 : Option Addr} {sl20 : Array (Option Value)} {oc20 kV20 dc20 pm20 cd20 ct20 : Value}
    (a20 : PySem.W.nsIn K mainGlobals "_law_unquoted" = some (some (.ref f20)))
    (l20 : K.lookup f20 = some ⟨oc20, od20, .func (PySem.W.fnOf "_law_unquoted" "_law_unquoted" (defArgs (topS 52)) (defBody (topS 52)) (defScope (topS 52)) .none kV20 dc20 pm20 an20 cd20 ct20), sl20⟩)
    (c20 : PySem.W.codeIn K cd20 "_law_unquoted" = true)
    (k20 : PySem.W.keepIn K (.ref f20) = true)
    {f21 : Addr} {od21 an21 : Option Addr} {sl21 : Array (Option Value)} {oc21 kV21 dc21 pm21 cd21 ct21 : Value}
    (a21 : PySem.W.nsIn K mainGlobals "_law_parts" = some (some (.ref f21)))
    (l21 : K.lookup f21 = some ⟨oc21, od21, .func (PySem.W.fnOf "_law_parts" "_law_parts" (defArgs (topS 53)) (defBody (topS 53)) (defScope (topS 53)) .none kV21 dc21 pm21 an21 cd21 ct21), sl21⟩)
    (c21 : PySem.W.codeIn K cd21 "_law_parts" = true)
    (k21 : PySem.W.keepIn K (.ref f21) = true)
    {f22 : Addr} {od22 an22 : Option Addr} {sl22 : Array (Option Value)} {oc22 kV22 dc22 pm22 cd22 ct22 : Value}
    (a22 : PySem.W.nsIn K mainGlobals "_law_row" = some (some (.ref f22)))
    (l22 : K.lookup f22 = some ⟨oc22, od22, .func (PySem.W.fnOf "_law_row" "_law_row" (defArgs (topS 54)) (defBody (topS 54)) (defScope (topS 54)) .none kV22 dc22 pm22 an22 cd22 ct22), sl22⟩)
    (c22 : PySem.W.codeIn K cd22 "_law_row" = true)
    (k22 : PySem.W.keepIn K (.ref f22) = true)
    {f23 : Addr} {od23 an23 : Option Addr} {sl23 : Array (Option Value)} {oc23 kV23 dc23 pm23 cd23 ct23 : Value}
    (a23 : PySem.W.nsIn K mainGlobals "number_in" = some (some (.ref f23)))
    (l23 : K.lookup f23 = some ⟨oc23, od23, .func (PySem.W.fnOf "number_in" "number_in" (defArgs (topS 31)) (defBody (topS 31)) (defScope (topS 31)) .none kV23 dc23 pm23 an23 cd23 ct23), sl23⟩)
    (c23 : PySem.W.codeIn K cd23 "number_in" = true)
    (k23 : PySem.W.keepIn K (.ref f23) = true)
    {f24 : Addr} {od24 an24 : Option Addr} {sl24 : Array (Option Value)} {oc24 kV24 dc24 pm24 cd24 ct24 : Value}
    (a24 : PySem.W.nsIn K mainGlobals "text_in" = some (some (.ref f24)))
    (l24 : K.lookup f24 = some ⟨oc24, od24, .func (PySem.W.fnOf "text_in" "text_in" (defArgs (topS 32)) (defBody (topS 32)) (defScope (topS 32)) .none kV24 dc24 pm24 an24 cd24 ct24), sl24⟩)
    (c24 : PySem.W.codeIn K cd24 "text_in" = true)
    (k24 : PySem.W.keepIn K (.ref f24) = true)
    {f25 : Addr} {od25 an25 : Option Addr} {sl25 : Array (Option Value)} {oc25 kV25 dc25 pm25 cd25 ct25 : Value}
    (a25 : PySem.W.nsIn K mainGlobals "parts_in" = some (some (.ref f25)))
    (l25 : K.lookup f25 = some ⟨oc25, od25, .func (PySem.W.fnOf "parts_in" "parts_in" (defArgs (topS 30)) (defBody (topS 30)) (defScope (topS 30)) .none kV25 dc25 pm25 an25 cd25 ct25), sl25⟩)
    (c25 : PySem.W.codeIn K cd25 "parts_in" = true)
    (k25 : PySem.W.keepIn K (.ref f25) = true)
    {f26 : Addr} {od26 an26 : Option Addr} {sl26 : Array (Option Value)} {oc26 kV26 dc26 pm26 cd26 ct26 : Value}
    (a26 : PySem.W.nsIn K mainGlobals "edit_in" = some (some (.ref f26)))
    (l26 : K.lookup f26 = some ⟨oc26, od26, .func (PySem.W.fnOf "edit_in" "edit_in" (defArgs (topS 28)) (defBody (topS 28)) (defScope (topS 28)) .none kV26 dc26 pm26 an26 cd26 ct26), sl26⟩)
    (c26 : PySem.W.codeIn K cd26 "edit_in" = true)
    (k26 : PySem.W.keepIn K (.ref f26) = true)
    {f27 : Addr} {od27 an27 : Option Addr} {sl27 : Array (Option Value)} {oc27 kV27 dc27 pm27 cd27 ct27 : Value}
    (a27 : PySem.W.nsIn K mainGlobals "ask_in" = some (some (.ref f27)))
    (l27 : K.lookup f27 = some ⟨oc27, od27, .func (PySem.W.fnOf "ask_in" "ask_in" (defArgs (topS 29)) (defBody (topS 29)) (defScope (topS 29)) .none kV27 dc27 pm27 an27 cd27 ct27), sl27⟩)
    (c27 : PySem.W.codeIn K cd27 "ask_in" = true)
    (k27 : PySem.W.keepIn K (.ref f27) = true)
    {f28 : Addr} {od28 an28 : Option Addr} {sl28 : Array (Option Value)} {oc28 kV28 dc28 pm28 cd28 ct28 : Value}
    (a28 : PySem.W.nsIn K mainGlobals "step_in" = some (some (.ref f28)))
    (l28 : K.lookup f28 = some ⟨oc28, od28, .func (PySem.W.fnOf "step_in" "step_in" (defArgs (topS 27)) (defBody (topS 27)) (defScope (topS 27)) .none kV28 dc28 pm28 an28 cd28 ct28), sl28⟩)
    (c28 : PySem.W.codeIn K cd28 "step_in" = true)
    (k28 : PySem.W.keepIn K (.ref f28) = true)
    {f29 : Addr} {od29 an29 : Option Addr} {sl29 : Array (Option Value)} {oc29 kV29 dc29 pm29 cd29 ct29 : Value}
    (a29 : PySem.W.nsIn K mainGlobals "read" = some (some (.ref f29)))
    (l29 : K.lookup f29 = some ⟨oc29, od29, .func (PySem.W.fnOf "read" "read" (defArgs (topS 24)) (defBody (topS 24)) (defScope (topS 24)) .none kV29 dc29 pm29 an29 cd29 ct29), sl29⟩)
    (c29 : PySem.W.codeIn K cd29 "read" = true)
    (k29 : PySem.W.keepIn K (.ref f29) = true)
    {f30 : Addr} {od30 an30 : Option Addr} {sl30 : Array (Option Value)} {oc30 kV30 dc30 pm30 cd30 ct30 : Value}
    (a30 : PySem.W.nsIn K mainGlobals "_law_same" = some (some (.ref f30)))
    (l30 : K.lookup f30 = some ⟨oc30, od30, .func (PySem.W.fnOf "_law_same" "_law_same" (defArgs (topS 36)) (defBody (topS 36)) (defScope (topS 36)) .none kV30 dc30 pm30 an30 cd30 ct30), sl30⟩)
    (c30 : PySem.W.codeIn K cd30 "_law_same" = true)
    (k30 : PySem.W.keepIn K (.ref f30) = true)
    {f31 cL0 : Addr} {od31 an31 : Option Addr} {sl31 : Array (Option Value)} {oc31 kV31 dc31 pm31 ct31 : Value}
    (a31 : PySem.W.nsIn K mainGlobals "law" = some (some (.ref f31)))
    (l31 : K.lookup f31 = some ⟨oc31, od31, .func (PySem.W.fnOf "law" "law" (defArgs (topS 56)) (defBody (topS 56)) (defScope (topS 56)) .none kV31 dc31 pm31 an31 (.ref cL0) ct31), sl31⟩)
    (c31 : PySem.W.codeIn K (.ref cL0) "law" = true)
    (k31 : PySem.W.keepIn K (.ref f31) = true)
    {pL0 : Addr} {occ0 : Value} {occd0 : Option Addr} {cvs0 : Array Value} {csl0 : Array (Option Value)}
    (lcc0 : K.lookup cL0 = some ⟨occ0, occd0, .fields cvs0, csl0⟩)
    (lcp0 : cvs0[11]? = some (.ref pL0))
    (lct0 : h.get? pL0 = some { cls := .none, data := .fields #[] })
    (lch0 : PySem.W.codeHdIn K cL0 pL0 = true)
    (lcn0 : K.lookup pL0 = none)
    (z_m_isinstance : PySem.W.nsIn K mainGlobals "isinstance" = some none)
    (z_m_ValueError : PySem.W.nsIn K mainGlobals "ValueError" = some none)
    (okw : wkB K [C_BadSheet, C_BadPlace, C_BadEdit, C_BadFile, C_Opened, C_NoFile, C_TooMany, C_BadAsk, C_NoAsk, C_Old, C_Fallen, C_NotFallen, C_BadLetter, C_BadText] C_WireError = true)
    (xe2 : xfB K C_BadEdit = true)
    (ne2 : PySem.W.findIn K (.ref C_BadEdit) "number" = some none)
    (xe13 : xfB K C_BadText = true)
    (ne13 : PySem.W.findIn K (.ref C_BadText) "row" = some none)
    (z_m_len : PySem.W.nsIn K mainGlobals "len" = some none)
    (z_m_range : PySem.W.nsIn K mainGlobals "range" = some none)
    (z_m_int : PySem.W.nsIn K mainGlobals "int" = some none)
    (z_m_sorted : PySem.W.nsIn K mainGlobals "sorted" = some none)
    (z_m_min : PySem.W.nsIn K mainGlobals "min" = some none)
    (z_m_enumerate : PySem.W.nsIn K mainGlobals "enumerate" = some none)
    (z_m_tuple : PySem.W.nsIn K mainGlobals "tuple" = some none)
    {t_EMPTY : Tok}
    (z_c_EMPTY : PySem.W.nsIn K mainGlobals "EMPTY" = some (some (.str (S [126, 46]) t_EMPTY)))
    (z_m_str : PySem.W.nsIn K mainGlobals "str" = some none)
    {t_MOST_FIGURES : Tok}
    (z_c_MOST_FIGURES : PySem.W.nsIn K mainGlobals "MOST_FIGURES" = some (some (.int 3 t_MOST_FIGURES)))
    (z_m_all : PySem.W.nsIn K mainGlobals "all" = some none)
    {d_SIGNS : Addr} {es_SIGNS : Array DictEntry} {n_SIGNS : Nat}
    (gd_SIGNS : PySem.W.nsIn K mainGlobals "SIGNS" = some (some (.ref d_SIGNS)))
    (ld_SIGNS : K.lookup d_SIGNS = some ⟨.type "dict", none, .dict es_SIGNS n_SIGNS, #[]⟩)
    (kl_SIGNS : PySem.W.KeysLit w.params es_SIGNS.toList)
    (lo_SIGNS : (d_SIGNS == sysModules) = false)
    (wb_SIGNS : wdB es_SIGNS.toList tb_SIGNS = true)
    (z_m_zip : PySem.W.nsIn K mainGlobals "zip" = some none)
    {t_EDIT_FORM : Tok}
    (z_c_EDIT_FORM : PySem.W.nsIn K mainGlobals "EDIT_FORM" = some (some (.str (S [110, 110, 110, 110, 116]) t_EDIT_FORM)))
    {d_ASK_FORMS : Addr} {es_ASK_FORMS : Array DictEntry} {n_ASK_FORMS : Nat}
    (gd_ASK_FORMS : PySem.W.nsIn K mainGlobals "ASK_FORMS" = some (some (.ref d_ASK_FORMS)))
    (ld_ASK_FORMS : K.lookup d_ASK_FORMS = some ⟨.type "dict", none, .dict es_ASK_FORMS n_ASK_FORMS, #[]⟩)
    (kl_ASK_FORMS : PySem.W.KeysLit w.params es_ASK_FORMS.toList)
    (lo_ASK_FORMS : (d_ASK_FORMS == sysModules) = false)
    (wb_ASK_FORMS : wdB es_ASK_FORMS.toList tb_ASK_FORMS = true)
    {d_STEP_FORMS : Addr} {es_STEP_FORMS : Array DictEntry} {n_STEP_FORMS : Nat}
    (gd_STEP_FORMS : PySem.W.nsIn K mainGlobals "STEP_FORMS" = some (some (.ref d_STEP_FORMS)))
    (ld_STEP_FORMS : K.lookup d_STEP_FORMS = some ⟨.type "dict", none, .dict es_STEP_FORMS n_STEP_FORMS, #[]⟩)
    (kl_STEP_FORMS : PySem.W.KeysLit w.params es_STEP_FORMS.toList)
    (lo_STEP_FORMS : (d_STEP_FORMS == sysModules) = false)
    (wb_STEP_FORMS : wdB es_STEP_FORMS.toList tb_STEP_FORMS = true)
    {fi_BadText di_BadText ci_BadText Ni_BadText : Addr} {ocBadText occBadText ocdBadText kVBadText dcBadText pmBadText ctBadText : Value} {odBadText anBadText oddBadText odcBadText ddBadText : Option Addr} {slBadText sldBadText slcBadText : Array (Option Value)} {vsBadText : Array Value} {fileBadText nmBadText qnBadText : Str} {tfBadText : Tok} {cdBadText : ClassData} {bsBadText bmBadText subBadText : List Value} {snBadText : List Str} {abBadText : Bool} {colBadText : Option Bool} {k0BadText k1BadText k2BadText k3BadText k5BadText : Option Value}
    (i2BadText : PySem.W.findIn K (.ref C_BadText) "__init__" = some (some (.ref fi_BadText)))
    (i3BadText : K.lookup fi_BadText = some ⟨ocBadText, odBadText, .func (PySem.W.ksFn "__init__" "BadText.__init__" (defArgs (iniOf (topS 15))) (defBody (iniOf (topS 15))) (defScope (iniOf (topS 15))) .none kVBadText dcBadText pmBadText anBadText (.ref di_BadText) ctBadText ci_BadText), slBadText⟩)
    (i4BadText : PySem.W.typeIn K (.ref fi_BadText) = some (.type "function"))
    (i5BadText : PySem.W.codeIn K (.ref di_BadText) "BadText.__init__" = true)
    (i6BadText : K.lookup di_BadText = some ⟨ocdBadText, oddBadText, .fields vsBadText, sldBadText⟩)
    (i7BadText : vsBadText[2]? = some (.str fileBadText tfBadText))
    (i8BadText : ((l.prog.main.file : Str) == fileBadText) = true)
    (i9BadText : K.lookup ci_BadText = some ⟨occBadText, odcBadText, .cell (some (.ref C_BadText)), slcBadText⟩)
    (iaBadText : PySem.W.clsIn K C_BadText = some cdBadText)
    (ibBadText : PySem.W.mroIn K C_BadText (.ref C_BadText) = some true)
    (icBadText : PySem.W.nsIn K mainGlobals "super" = some none)
    (idBadText : (l.prog.main.scope.names.lookup ("super" : Str)).isSome = false)
    (ieBadText : PySem.W.nsIn K cStatics "thirdparty.any" = some none)
    (ifBadText : PySem.W.ks_superIn K C_BadText C_BadText "__init__" = some (some (.builtin "ValueError.__init__")))
    (igBadText : PySem.W.subIn K (.ref C_BadText) (.type "ValueError") = some true)
    (ihBadText : K.lookup C_BadText = some (excClassObj nmBadText qnBadText C_BadText Ni_BadText bsBadText bmBadText true snBadText subBadText abBadText colBadText ddBadText k0BadText k1BadText k2BadText k3BadText k5BadText "ValueError.__new__"))
    (iiBadText : PySem.HandSPX.refsVE bmBadText = true)
    (ijBadText : PySem.W.findIn K (.ref C_BadText) "__setattr__" = some (some (.builtin "object.__setattr__")))
    (ikBadText : PySem.W.subIn K (.ref C_BadText) (.type "BaseException") = some true)
    (ilBadText : PySem.W.typeIn K (.ref C_BadText) = some (.type "type"))
    (imBadText : PySem.W.keepIn K (.ref C_BadText) = true)
    (inBadText : PySem.W.findIn K (.ref C_BadText) "row" = some none)
    (z_m_list : PySem.W.nsIn K mainGlobals "list" = some none)
    (z_m_bool : PySem.W.nsIn K mainGlobals "bool" = some none)
    : ∃ (fd : FuncData) (CT : List (Addr × Addr)) (sp : Sp), (∀ p ∈ CT, PySem.W.codeHdIn K p.1 p.2 = true ∧ h.get? p.2 = some { cls := .none, data := .fields #[] } ∧ K.lookup p.2 = none) ∧ (∀ (s : Shared) (v : Value), BindsTo s fd ⟨[v], []⟩ [("_law_script", v)]) ∧ (∀ (H : Hp) (a : Addr) (ns : List Int), (∀ p ∈ CT, H p.2 = some (.tbl #[])) → HW.Scr K H a (ns.map V.int) → sp [.ref a] H (fun v _ => v = .bl true) L2.E0) ∧ ∀ base : Heap, K.In base → base.Ns mainGlobals mg → (∀ p ∈ CT, LamX.TabB base mg p.1 p.2) → FnOk l.prog w K mg base L2.CX0 22 fa fd ["_law_script"] sp := by
  have e := hfa.symm.trans (PySem.W.mg_of X G a31)
  cases e
  refine ⟨PySem.W.fnOf "law" "law" (defArgs (topS 56)) (defBody (topS 56)) (defScope (topS 56)) .none kV31 dc31 pm31 an31 (.ref cL0) ct31, [(cL0, pL0)], fun vs H Q _ => spM (mkF K C_WireError C_BadSheet C_BadPlace C_BadEdit C_BadFile C_Opened C_NoFile C_TooMany C_BadAsk C_NoAsk C_Old C_Fallen C_NotFallen C_BadLetter C_BadText pL0) 1 G_law vs H Q fun _ _ _ => False, ?tabs, fun s v => .of_eq rfl, fun H a ns h1 h2 => law_atTs (F := (mkF K C_WireError C_BadSheet C_BadPlace C_BadEdit C_BadFile C_Opened C_NoFile C_TooMany C_BadAsk C_NoAsk C_Old C_Fallen C_NotFallen C_BadLetter C_BadText pL0)) ?ofT h1 h2 (fun _ _ => rfl), fun base _ _ tb => fn_nox ?_⟩
  case tabs =>
    intro p hp
    rcases List.mem_cons.mp hp with rfl | hp
    · exact ⟨lch0, lct0, lcn0⟩
    cases hp
  case ofT =>
    intro p hp
    have hp : p ∈ ([(pL0, (("law" : Str) ++ ".<locals>.") ++ "<lambda>")] : List (Addr × Str)) := hp
    rcases List.mem_cons.mp hp with rfl | hp
    · exact ⟨cL0, by simp⟩
    cases hp
  have hTm0 : (pL0, (("law" : Str) ++ ".<locals>.") ++ "<lambda>") ∈ (mkF K C_WireError C_BadSheet C_BadPlace C_BadEdit C_BadFile C_Opened C_NoFile C_TooMany C_BadAsk C_NoAsk C_Old C_Fallen C_NotFallen C_BadLetter C_BadText pL0).T := (show _ ∈ ([(pL0, (("law" : Str) ++ ".<locals>.") ++ "<lambda>")] : List (Addr × Str)) by simp)
  have hTu0 : ∀ p ∈ (mkF K C_WireError C_BadSheet C_BadPlace C_BadEdit C_BadFile C_Opened C_NoFile C_TooMany C_BadAsk C_NoAsk C_Old C_Fallen C_NotFallen C_BadLetter C_BadText pL0).T, p.1 = pL0 → p.2 = (("law" : Str) ++ ".<locals>.") ++ "<lambda>" := by
    intro p hp e
    have hp : p ∈ ([(pL0, (("law" : Str) ++ ".<locals>.") ++ "<lambda>")] : List (Addr × Str)) := hp
    rcases List.mem_cons.mp hp with rfl | hp
    · rfl
    cases hp
  have tb0 := tb (cL0, pL0) (by simp)
  have m_isinstance : mg "isinstance" = none := PySem.W.mg_none_of X G z_m_isinstance
  have m_ValueError : mg "ValueError" = none := PySem.W.mg_none_of X G z_m_ValueError
  have m_len : mg "len" = none := PySem.W.mg_none_of X G z_m_len
  have m_range : mg "range" = none := PySem.W.mg_none_of X G z_m_range
  have m_int : mg "int" = none := PySem.W.mg_none_of X G z_m_int
  have m_sorted : mg "sorted" = none := PySem.W.mg_none_of X G z_m_sorted
  have m_min : mg "min" = none := PySem.W.mg_none_of X G z_m_min
  have m_enumerate : mg "enumerate" = none := PySem.W.mg_none_of X G z_m_enumerate
  have m_tuple : mg "tuple" = none := PySem.W.mg_none_of X G z_m_tuple
  have c_EMPTY : mg "EMPTY" = some (.str (S [126, 46]) t_EMPTY) := PySem.W.mg_of X G z_c_EMPTY
  have m_str : mg "str" = none := PySem.W.mg_none_of X G z_m_str
  have c_MOST_FIGURES : mg "MOST_FIGURES" = some (.int 3 t_MOST_FIGURES) := PySem.W.mg_of X G z_c_MOST_FIGURES
  have m_all : mg "all" = none := PySem.W.mg_none_of X G z_m_all
  have wd_SIGNS : WDict ((mkF K C_WireError C_BadSheet C_BadPlace C_BadEdit C_BadFile C_Opened C_NoFile C_TooMany C_BadAsk C_NoAsk C_Old C_Fallen C_NotFallen C_BadLetter C_BadText pL0)).K w mg "SIGNS" tb_SIGNS := ⟨⟨d_SIGNS, es_SIGNS, n_SIGNS, PySem.W.mg_of X G gd_SIGNS, ⟨ld_SIGNS, kl_SIGNS, lo_SIGNS⟩, wb_SIGNS⟩, tb_SIGNS_ok⟩
  have m_zip : mg "zip" = none := PySem.W.mg_none_of X G z_m_zip
  have c_EDIT_FORM : mg "EDIT_FORM" = some (.str (S [110, 110, 110, 110, 116]) t_EDIT_FORM) := PySem.W.mg_of X G z_c_EDIT_FORM
  have wd_ASK_FORMS : WDict ((mkF K C_WireError C_BadSheet C_BadPlace C_BadEdit C_BadFile C_Opened C_NoFile C_TooMany C_BadAsk C_NoAsk C_Old C_Fallen C_NotFallen C_BadLetter C_BadText pL0)).K w mg "ASK_FORMS" tb_ASK_FORMS := ⟨⟨d_ASK_FORMS, es_ASK_FORMS, n_ASK_FORMS, PySem.W.mg_of X G gd_ASK_FORMS, ⟨ld_ASK_FORMS, kl_ASK_FORMS, lo_ASK_FORMS⟩, wb_ASK_FORMS⟩, tb_ASK_FORMS_ok⟩
  have wd_STEP_FORMS : WDict ((mkF K C_WireError C_BadSheet C_BadPlace C_BadEdit C_BadFile C_Opened C_NoFile C_TooMany C_BadAsk C_NoAsk C_Old C_Fallen C_NotFallen C_BadLetter C_BadText pL0)).K w mg "STEP_FORMS" tb_STEP_FORMS := ⟨⟨d_STEP_FORMS, es_STEP_FORMS, n_STEP_FORMS, PySem.W.mg_of X G gd_STEP_FORMS, ⟨ld_STEP_FORMS, kl_STEP_FORMS, lo_STEP_FORMS⟩, wb_STEP_FORMS⟩, tb_STEP_FORMS_ok⟩
  have ox_BadText : OexC K C_BadText := ⟨⟨_, _, _, _, _, _, _, _, _, _, _, _, _, _, _, ihBadText, iiBadText⟩, ijBadText, ikBadText, ilBadText, imBadText⟩
  have xc_BadText : IniC l.prog K mg "row" "BadText.__init__" C_BadText C_BadText fi_BadText di_BadText ci_BadText (defArgs (iniOf (topS 15))) (defScope (iniOf (topS 15))) := ⟨ini_by (by decide +kernel), by decide, rfl, i5BadText, ⟨_, _, _, _, _, _, i6BadText, i7BadText, i8BadText⟩, ⟨_, _, _, i9BadText⟩, ⟨_, iaBadText⟩, ibBadText, PySem.W.mg_none_of X G icBadText, idBadText, ieBadText, ifBadText, igBadText, ox_BadText, inBadText⟩
  have xi_BadText : Xi l.prog w (mkF K C_WireError C_BadSheet C_BadPlace C_BadEdit C_BadFile C_Opened C_NoFile C_TooMany C_BadAsk C_NoAsk C_Old C_Fallen C_NotFallen C_BadLetter C_BadText pL0).K mg base "BadText" "row" ((mkF K C_WireError C_BadSheet C_BadPlace C_BadEdit C_BadFile C_Opened C_NoFile C_TooMany C_BadAsk C_NoAsk C_Old C_Fallen C_NotFallen C_BadLetter C_BadText pL0).cA .BadText) fi_BadText _ := ⟨ox_BadText, i2BadText, i4BadText, init_ok xc_BadText (by decide +kernel) (by decide +kernel) (fun _ => rfl) (fun _ => rfl) (fun _ => rfl) (fun _ => rfl) (by decide) (by decide) i3BadText, .all fun us hl => (match us, hl with | [_, _], _ => rfl), PySem.W.mg_of X G g_BadText⟩
  have m_list : mg "list" = none := PySem.W.mg_none_of X G z_m_list
  have m_bool : mg "bool" = none := PySem.W.mg_none_of X G z_m_bool
  have wk : Wk K mg [C_BadSheet, C_BadPlace, C_BadEdit, C_BadFile, C_Opened, C_NoFile, C_TooMany, C_BadAsk, C_NoAsk, C_Old, C_Fallen, C_NotFallen, C_BadLetter, C_BadText] C_WireError := ⟨okw, fun i n C h1 h2 => (match i, h1, h2 with
    | 0, h1, h2 => by cases h1; cases h2; exact PySem.W.mg_of X G g_BadSheet
    | 1, h1, h2 => by cases h1; cases h2; exact PySem.W.mg_of X G g_BadPlace
    | 2, h1, h2 => by cases h1; cases h2; exact PySem.W.mg_of X G g_BadEdit
    | 3, h1, h2 => by cases h1; cases h2; exact PySem.W.mg_of X G g_BadFile
    | 4, h1, h2 => by cases h1; cases h2; exact PySem.W.mg_of X G g_Opened
    | 5, h1, h2 => by cases h1; cases h2; exact PySem.W.mg_of X G g_NoFile
    | 6, h1, h2 => by cases h1; cases h2; exact PySem.W.mg_of X G g_TooMany
    | 7, h1, h2 => by cases h1; cases h2; exact PySem.W.mg_of X G g_BadAsk
    | 8, h1, h2 => by cases h1; cases h2; exact PySem.W.mg_of X G g_NoAsk
    | 9, h1, h2 => by cases h1; cases h2; exact PySem.W.mg_of X G g_Old
    | 10, h1, h2 => by cases h1; cases h2; exact PySem.W.mg_of X G g_Fallen
    | 11, h1, h2 => by cases h1; cases h2; exact PySem.W.mg_of X G g_NotFallen
    | 12, h1, h2 => by cases h1; cases h2; exact PySem.W.mg_of X G g_BadLetter
    | 13, h1, h2 => by cases h1; cases h2; exact PySem.W.mg_of X G g_BadText
    | k + 14, h1, h2 => by simp [wNames] at h1), PySem.W.mg_of X G g_WireError⟩
  have hw : ∀ c j, wIx c = some j → mg (Str.ofString (wNames.getD j "")) = some (.ref ((mkF K C_WireError C_BadSheet C_BadPlace C_BadEdit C_BadFile C_Opened C_NoFile C_TooMany C_BadAsk C_NoAsk C_Old C_Fallen C_NotFallen C_BadLetter C_BadText pL0).cA c)) := fun c j h => ?_
  rotate_left
  · cases c <;> first | (cases h; done) | (cases h; first | exact PySem.W.mg_of X G g_BadSheet | exact PySem.W.mg_of X G g_BadPlace | exact PySem.W.mg_of X G g_BadEdit | exact PySem.W.mg_of X G g_BadFile | exact PySem.W.mg_of X G g_Opened | exact PySem.W.mg_of X G g_NoFile | exact PySem.W.mg_of X G g_TooMany | exact PySem.W.mg_of X G g_BadAsk | exact PySem.W.mg_of X G g_NoAsk | exact PySem.W.mg_of X G g_Old | exact PySem.W.mg_of X G g_Fallen | exact PySem.W.mg_of X G g_NotFallen | exact PySem.W.mg_of X G g_BadLetter | exact PySem.W.mg_of X G g_BadText)
  have F0 := fun_mk (st := (topS 37)) l0 c0 k0
  have b0 := F0.binds (ps := ["_law_work"]) fun _ _ _ _ _ _ us hl => match us, hl with | [_], _ => rfl
  have d__law_word : Df l.prog w (mkF K C_WireError C_BadSheet C_BadPlace C_BadEdit C_BadFile C_Opened C_NoFile C_TooMany C_BadAsk C_NoAsk C_Old C_Fallen C_NotFallen C_BadLetter C_BadText pL0).K mg base "_law_word" ["_law_work"] 21 (spWord l.prog w (mkF K C_WireError C_BadSheet C_BadPlace C_BadEdit C_BadFile C_Opened C_NoFile C_TooMany C_BadAsk C_NoAsk C_Old C_Fallen C_NotFallen C_BadLetter C_BadText pL0).K mg base 20) := ⟨f0, _, D__law_word F0 (m_isinstance := m_isinstance) (m_ValueError := m_ValueError) (wk := wk) (xfE := xfB_ok xe2) (noE := ne2) (xfT := xfB_ok xe13) (noT := ne13), PySem.W.mg_of X G a0, k0, b0⟩
  have d__law_start := E__law_start (P := l.prog) (w := w) (mg := mg) (base := base) (F := (mkF K C_WireError C_BadSheet C_BadPlace C_BadEdit C_BadFile C_Opened C_NoFile C_TooMany C_BadAsk C_NoAsk C_Old C_Fallen C_NotFallen C_BadLetter C_BadText pL0)) l1 c1 k1 (PySem.W.mg_of X G a1) 
  have d__law_drawn := E__law_drawn (P := l.prog) (w := w) (mg := mg) (base := base) (F := (mkF K C_WireError C_BadSheet C_BadPlace C_BadEdit C_BadFile C_Opened C_NoFile C_TooMany C_BadAsk C_NoAsk C_Old C_Fallen C_NotFallen C_BadLetter C_BadText pL0)) l2 c2 k2 (PySem.W.mg_of X G a2) (m_len := m_len)
  have d__law_sign := E__law_sign (P := l.prog) (w := w) (mg := mg) (base := base) (F := (mkF K C_WireError C_BadSheet C_BadPlace C_BadEdit C_BadFile C_Opened C_NoFile C_TooMany C_BadAsk C_NoAsk C_Old C_Fallen C_NotFallen C_BadLetter C_BadText pL0)) l3 c3 k3 (PySem.W.mg_of X G a3) (d__law_drawn := d__law_drawn) (m_len := m_len)
  have d__law_put := E__law_put (P := l.prog) (w := w) (mg := mg) (base := base) (F := (mkF K C_WireError C_BadSheet C_BadPlace C_BadEdit C_BadFile C_Opened C_NoFile C_TooMany C_BadAsk C_NoAsk C_Old C_Fallen C_NotFallen C_BadLetter C_BadText pL0)) l4 c4 k4 (PySem.W.mg_of X G a4) (d__law_drawn := d__law_drawn) (m_range := m_range) (d__law_sign := d__law_sign)
  have d__law_sheet := E__law_sheet (P := l.prog) (w := w) (mg := mg) (base := base) (F := (mkF K C_WireError C_BadSheet C_BadPlace C_BadEdit C_BadFile C_Opened C_NoFile C_TooMany C_BadAsk C_NoAsk C_Old C_Fallen C_NotFallen C_BadLetter C_BadText pL0)) l5 c5 k5 (PySem.W.mg_of X G a5) (d__law_put := d__law_put) (d__law_drawn := d__law_drawn)
  have d__law_at := E__law_at (P := l.prog) (w := w) (mg := mg) (base := base) (F := (mkF K C_WireError C_BadSheet C_BadPlace C_BadEdit C_BadFile C_Opened C_NoFile C_TooMany C_BadAsk C_NoAsk C_Old C_Fallen C_NotFallen C_BadLetter C_BadText pL0)) l6 c6 k6 (PySem.W.mg_of X G a6) (m_int := m_int)
  have d__law_edit := E__law_edit (P := l.prog) (w := w) (mg := mg) (base := base) (F := (mkF K C_WireError C_BadSheet C_BadPlace C_BadEdit C_BadFile C_Opened C_NoFile C_TooMany C_BadAsk C_NoAsk C_Old C_Fallen C_NotFallen C_BadLetter C_BadText pL0)) l7 c7 k7 (PySem.W.mg_of X G a7) (m_len := m_len) (d__law_drawn := d__law_drawn) (m_sorted := m_sorted) (m_min := m_min) (d__law_put := d__law_put) (d__law_at := d__law_at)
  have d__law_numbers := E__law_numbers (P := l.prog) (w := w) (mg := mg) (base := base) (F := (mkF K C_WireError C_BadSheet C_BadPlace C_BadEdit C_BadFile C_Opened C_NoFile C_TooMany C_BadAsk C_NoAsk C_Old C_Fallen C_NotFallen C_BadLetter C_BadText pL0)) l8 c8 k8 (PySem.W.mg_of X G a8) (m_enumerate := m_enumerate) (m_int := m_int)
  have d__law_after := E__law_after (P := l.prog) (w := w) (mg := mg) (base := base) (F := (mkF K C_WireError C_BadSheet C_BadPlace C_BadEdit C_BadFile C_Opened C_NoFile C_TooMany C_BadAsk C_NoAsk C_Old C_Fallen C_NotFallen C_BadLetter C_BadText pL0)) l9 c9 k9 (PySem.W.mg_of X G a9) (d__law_numbers := d__law_numbers)
  have d__law_edits := E__law_edits (P := l.prog) (w := w) (mg := mg) (base := base) (F := (mkF K C_WireError C_BadSheet C_BadPlace C_BadEdit C_BadFile C_Opened C_NoFile C_TooMany C_BadAsk C_NoAsk C_Old C_Fallen C_NotFallen C_BadLetter C_BadText pL0)) l10 c10 k10 (PySem.W.mg_of X G a10) (d__law_drawn := d__law_drawn) (m_range := m_range) (d__law_edit := d__law_edit) (d__law_after := d__law_after)
  have d__law_runs := E__law_runs (P := l.prog) (w := w) (mg := mg) (base := base) (F := (mkF K C_WireError C_BadSheet C_BadPlace C_BadEdit C_BadFile C_Opened C_NoFile C_TooMany C_BadAsk C_NoAsk C_Old C_Fallen C_NotFallen C_BadLetter C_BadText pL0)) l11 c11 k11 (PySem.W.mg_of X G a11) (m_len := m_len) (m_range := m_range)
  have d__law_name := E__law_name (P := l.prog) (w := w) (mg := mg) (base := base) (F := (mkF K C_WireError C_BadSheet C_BadPlace C_BadEdit C_BadFile C_Opened C_NoFile C_TooMany C_BadAsk C_NoAsk C_Old C_Fallen C_NotFallen C_BadLetter C_BadText pL0)) l12 c12 k12 (PySem.W.mg_of X G a12) (d__law_runs := d__law_runs) (d__law_drawn := d__law_drawn) (m_len := m_len) (m_range := m_range)
  have d__law_want := E__law_want (P := l.prog) (w := w) (mg := mg) (base := base) (F := (mkF K C_WireError C_BadSheet C_BadPlace C_BadEdit C_BadFile C_Opened C_NoFile C_TooMany C_BadAsk C_NoAsk C_Old C_Fallen C_NotFallen C_BadLetter C_BadText pL0)) l13 c13 k13 (PySem.W.mg_of X G a13) (m_len := m_len) (d__law_drawn := d__law_drawn) (d__law_at := d__law_at) (d__law_name := d__law_name)
  have d__law_play := E__law_play (P := l.prog) (w := w) (mg := mg) (base := base) (F := (mkF K C_WireError C_BadSheet C_BadPlace C_BadEdit C_BadFile C_Opened C_NoFile C_TooMany C_BadAsk C_NoAsk C_Old C_Fallen C_NotFallen C_BadLetter C_BadText pL0)) l14 c14 k14 (PySem.W.mg_of X G a14) (d__law_drawn := d__law_drawn) (m_range := m_range) (d__law_sheet := d__law_sheet) (d__law_edits := d__law_edits) (m_tuple := m_tuple) (d__law_put := d__law_put) (d__law_want := d__law_want)
  have d_written_text := E_written_text (P := l.prog) (w := w) (mg := mg) (base := base) (F := (mkF K C_WireError C_BadSheet C_BadPlace C_BadEdit C_BadFile C_Opened C_NoFile C_TooMany C_BadAsk C_NoAsk C_Old C_Fallen C_NotFallen C_BadLetter C_BadText pL0)) l15 c15 k15 (PySem.W.mg_of X G a15) (c_EMPTY := c_EMPTY)
  have F16 := fun_mk (st := (topS 25)) l16 c16 k16
  have b16 := F16.binds (ps := ["value"]) fun _ _ _ _ _ _ us hl => match us, hl with | [_], _ => rfl
  have r0_words_of : DfM l.prog w K mg base (mkF K C_WireError C_BadSheet C_BadPlace C_BadEdit C_BadFile C_Opened C_NoFile C_TooMany C_BadAsk C_NoAsk C_Old C_Fallen C_NotFallen C_BadLetter C_BadText pL0) "words_of" ["value"] 2 (wofN 0) := ⟨f16, _, fn_no, PySem.W.mg_of X G a16, k16, b16⟩
  have r1_words_of : DfM l.prog w K mg base (mkF K C_WireError C_BadSheet C_BadPlace C_BadEdit C_BadFile C_Opened C_NoFile C_TooMany C_BadAsk C_NoAsk C_Old C_Fallen C_NotFallen C_BadLetter C_BadText pL0) "words_of" ["value"] 3 (wofN 1) := ⟨f16, _, D_words_of (F := (mkF K C_WireError C_BadSheet C_BadPlace C_BadEdit C_BadFile C_Opened C_NoFile C_TooMany C_BadAsk C_NoAsk C_Old C_Fallen C_NotFallen C_BadLetter C_BadText pL0)) F16 (k := 0) (m_isinstance := m_isinstance) (m_tuple := m_tuple) (m_str := m_str) (d_written_text := d_written_text) (hR := wofN_P 0) (r_words_of := r0_words_of), PySem.W.mg_of X G a16, k16, b16⟩
  have r2_words_of : DfM l.prog w K mg base (mkF K C_WireError C_BadSheet C_BadPlace C_BadEdit C_BadFile C_Opened C_NoFile C_TooMany C_BadAsk C_NoAsk C_Old C_Fallen C_NotFallen C_BadLetter C_BadText pL0) "words_of" ["value"] 4 (wofN 2) := ⟨f16, _, D_words_of (F := (mkF K C_WireError C_BadSheet C_BadPlace C_BadEdit C_BadFile C_Opened C_NoFile C_TooMany C_BadAsk C_NoAsk C_Old C_Fallen C_NotFallen C_BadLetter C_BadText pL0)) F16 (k := 1) (m_isinstance := m_isinstance) (m_tuple := m_tuple) (m_str := m_str) (d_written_text := d_written_text) (hR := wofN_P 1) (r_words_of := r1_words_of), PySem.W.mg_of X G a16, k16, b16⟩
  have r3_words_of : DfM l.prog w K mg base (mkF K C_WireError C_BadSheet C_BadPlace C_BadEdit C_BadFile C_Opened C_NoFile C_TooMany C_BadAsk C_NoAsk C_Old C_Fallen C_NotFallen C_BadLetter C_BadText pL0) "words_of" ["value"] 5 (wofN 3) := ⟨f16, _, D_words_of (F := (mkF K C_WireError C_BadSheet C_BadPlace C_BadEdit C_BadFile C_Opened C_NoFile C_TooMany C_BadAsk C_NoAsk C_Old C_Fallen C_NotFallen C_BadLetter C_BadText pL0)) F16 (k := 2) (m_isinstance := m_isinstance) (m_tuple := m_tuple) (m_str := m_str) (d_written_text := d_written_text) (hR := wofN_P 2) (r_words_of := r2_words_of), PySem.W.mg_of X G a16, k16, b16⟩
  have r4_words_of : DfM l.prog w K mg base (mkF K C_WireError C_BadSheet C_BadPlace C_BadEdit C_BadFile C_Opened C_NoFile C_TooMany C_BadAsk C_NoAsk C_Old C_Fallen C_NotFallen C_BadLetter C_BadText pL0) "words_of" ["value"] 6 (wofN 4) := ⟨f16, _, D_words_of (F := (mkF K C_WireError C_BadSheet C_BadPlace C_BadEdit C_BadFile C_Opened C_NoFile C_TooMany C_BadAsk C_NoAsk C_Old C_Fallen C_NotFallen C_BadLetter C_BadText pL0)) F16 (k := 3) (m_isinstance := m_isinstance) (m_tuple := m_tuple) (m_str := m_str) (d_written_text := d_written_text) (hR := wofN_P 3) (r_words_of := r3_words_of), PySem.W.mg_of X G a16, k16, b16⟩
  have r5_words_of : DfM l.prog w K mg base (mkF K C_WireError C_BadSheet C_BadPlace C_BadEdit C_BadFile C_Opened C_NoFile C_TooMany C_BadAsk C_NoAsk C_Old C_Fallen C_NotFallen C_BadLetter C_BadText pL0) "words_of" ["value"] 7 (wofN 5) := ⟨f16, _, D_words_of (F := (mkF K C_WireError C_BadSheet C_BadPlace C_BadEdit C_BadFile C_Opened C_NoFile C_TooMany C_BadAsk C_NoAsk C_Old C_Fallen C_NotFallen C_BadLetter C_BadText pL0)) F16 (k := 4) (m_isinstance := m_isinstance) (m_tuple := m_tuple) (m_str := m_str) (d_written_text := d_written_text) (hR := wofN_P 4) (r_words_of := r4_words_of), PySem.W.mg_of X G a16, k16, b16⟩
  have r6_words_of : DfM l.prog w K mg base (mkF K C_WireError C_BadSheet C_BadPlace C_BadEdit C_BadFile C_Opened C_NoFile C_TooMany C_BadAsk C_NoAsk C_Old C_Fallen C_NotFallen C_BadLetter C_BadText pL0) "words_of" ["value"] 8 (wofN 6) := ⟨f16, _, D_words_of (F := (mkF K C_WireError C_BadSheet C_BadPlace C_BadEdit C_BadFile C_Opened C_NoFile C_TooMany C_BadAsk C_NoAsk C_Old C_Fallen C_NotFallen C_BadLetter C_BadText pL0)) F16 (k := 5) (m_isinstance := m_isinstance) (m_tuple := m_tuple) (m_str := m_str) (d_written_text := d_written_text) (hR := wofN_P 5) (r_words_of := r5_words_of), PySem.W.mg_of X G a16, k16, b16⟩
  have d_words_of := r6_words_of
  have d_written := E_written (P := l.prog) (w := w) (mg := mg) (base := base) (F := (mkF K C_WireError C_BadSheet C_BadPlace C_BadEdit C_BadFile C_Opened C_NoFile C_TooMany C_BadAsk C_NoAsk C_Old C_Fallen C_NotFallen C_BadLetter C_BadText pL0)) l17 c17 k17 (PySem.W.mg_of X G a17) (d_words_of := d_words_of)
  have d__law_spoilt := E__law_spoilt (P := l.prog) (w := w) (mg := mg) (base := base) (F := (mkF K C_WireError C_BadSheet C_BadPlace C_BadEdit C_BadFile C_Opened C_NoFile C_TooMany C_BadAsk C_NoAsk C_Old C_Fallen C_NotFallen C_BadLetter C_BadText pL0)) l18 c18 k18 (PySem.W.mg_of X G a18) (m_len := m_len) (d__law_drawn := d__law_drawn) (d__law_sign := d__law_sign) (m_int := m_int)
  have d__law_figures := E__law_figures (P := l.prog) (w := w) (mg := mg) (base := base) (F := (mkF K C_WireError C_BadSheet C_BadPlace C_BadEdit C_BadFile C_Opened C_NoFile C_TooMany C_BadAsk C_NoAsk C_Old C_Fallen C_NotFallen C_BadLetter C_BadText pL0)) l19 c19 k19 (PySem.W.mg_of X G a19) (m_len := m_len) (m_int := m_int)
  have d__law_unquoted := E__law_unquoted (P := l.prog) (w := w) (mg := mg) (base := base) (F := (mkF K C_WireError C_BadSheet C_BadPlace C_BadEdit C_BadFile C_Opened C_NoFile C_TooMany C_BadAsk C_NoAsk C_Old C_Fallen C_NotFallen C_BadLetter C_BadText pL0)) l20 c20 k20 (PySem.W.mg_of X G a20) (m_len := m_len)
  have d__law_parts := E__law_parts (P := l.prog) (w := w) (mg := mg) (base := base) (F := (mkF K C_WireError C_BadSheet C_BadPlace C_BadEdit C_BadFile C_Opened C_NoFile C_TooMany C_BadAsk C_NoAsk C_Old C_Fallen C_NotFallen C_BadLetter C_BadText pL0)) l21 c21 k21 (PySem.W.mg_of X G a21) (m_len := m_len) (m_range := m_range) (d__law_figures := d__law_figures) (d__law_unquoted := d__law_unquoted)
  have d__law_row := E__law_row (P := l.prog) (w := w) (mg := mg) (base := base) (F := (mkF K C_WireError C_BadSheet C_BadPlace C_BadEdit C_BadFile C_Opened C_NoFile C_TooMany C_BadAsk C_NoAsk C_Old C_Fallen C_NotFallen C_BadLetter C_BadText pL0)) l22 c22 k22 (PySem.W.mg_of X G a22) (m_len := m_len) (d__law_parts := d__law_parts) (m_tuple := m_tuple) (m_range := m_range)
  have d_number_in := E_number_in (P := l.prog) (w := w) (mg := mg) (base := base) (F := (mkF K C_WireError C_BadSheet C_BadPlace C_BadEdit C_BadFile C_Opened C_NoFile C_TooMany C_BadAsk C_NoAsk C_Old C_Fallen C_NotFallen C_BadLetter C_BadText pL0)) l23 c23 k23 (PySem.W.mg_of X G a23) (m_len := m_len) (c_MOST_FIGURES := c_MOST_FIGURES) (m_all := m_all) (m_int := m_int)
  have d_text_in := E_text_in (P := l.prog) (w := w) (mg := mg) (base := base) (F := (mkF K C_WireError C_BadSheet C_BadPlace C_BadEdit C_BadFile C_Opened C_NoFile C_TooMany C_BadAsk C_NoAsk C_Old C_Fallen C_NotFallen C_BadLetter C_BadText pL0)) l24 c24 k24 (PySem.W.mg_of X G a24) (c_EMPTY := c_EMPTY) (m_len := m_len) (wd_SIGNS := wd_SIGNS)
  have d_parts_in := E_parts_in (P := l.prog) (w := w) (mg := mg) (base := base) (F := (mkF K C_WireError C_BadSheet C_BadPlace C_BadEdit C_BadFile C_Opened C_NoFile C_TooMany C_BadAsk C_NoAsk C_Old C_Fallen C_NotFallen C_BadLetter C_BadText pL0)) l25 c25 k25 (PySem.W.mg_of X G a25) (m_len := m_len) (m_zip := m_zip) (d_number_in := d_number_in) (d_text_in := d_text_in)
  have d_edit_in := E_edit_in (P := l.prog) (w := w) (mg := mg) (base := base) (F := (mkF K C_WireError C_BadSheet C_BadPlace C_BadEdit C_BadFile C_Opened C_NoFile C_TooMany C_BadAsk C_NoAsk C_Old C_Fallen C_NotFallen C_BadLetter C_BadText pL0)) l26 c26 k26 (PySem.W.mg_of X G a26) (c_EDIT_FORM := c_EDIT_FORM) (m_len := m_len) (d_parts_in := d_parts_in) (m_range := m_range) (m_tuple := m_tuple)
  have d_ask_in := E_ask_in (P := l.prog) (w := w) (mg := mg) (base := base) (F := (mkF K C_WireError C_BadSheet C_BadPlace C_BadEdit C_BadFile C_Opened C_NoFile C_TooMany C_BadAsk C_NoAsk C_Old C_Fallen C_NotFallen C_BadLetter C_BadText pL0)) l27 c27 k27 (PySem.W.mg_of X G a27) (m_len := m_len) (wd_ASK_FORMS := wd_ASK_FORMS) (d_parts_in := d_parts_in)
  have d_step_in := E_step_in (P := l.prog) (w := w) (mg := mg) (base := base) (F := (mkF K C_WireError C_BadSheet C_BadPlace C_BadEdit C_BadFile C_Opened C_NoFile C_TooMany C_BadAsk C_NoAsk C_Old C_Fallen C_NotFallen C_BadLetter C_BadText pL0)) l28 c28 k28 (PySem.W.mg_of X G a28) (d_edit_in := d_edit_in) (d_ask_in := d_ask_in) (wd_STEP_FORMS := wd_STEP_FORMS) (d_parts_in := d_parts_in)
  have d_read := E_read (P := l.prog) (w := w) (mg := mg) (base := base) (F := (mkF K C_WireError C_BadSheet C_BadPlace C_BadEdit C_BadFile C_Opened C_NoFile C_TooMany C_BadAsk C_NoAsk C_Old C_Fallen C_NotFallen C_BadLetter C_BadText pL0)) l29 c29 k29 (PySem.W.mg_of X G a29) (m_enumerate := m_enumerate) (d_step_in := d_step_in) (xi_BadText := xi_BadText)
  have F30 := fun_mk (st := (topS 36)) l30 c30 k30
  have b30 := F30.binds (ps := ["_law_found", "_law_due"]) fun _ _ _ _ _ _ us hl => match us, hl with | [_, _], _ => rfl
  have r0__law_same : DfM l.prog w K mg base (mkF K C_WireError C_BadSheet C_BadPlace C_BadEdit C_BadFile C_Opened C_NoFile C_TooMany C_BadAsk C_NoAsk C_Old C_Fallen C_NotFallen C_BadLetter C_BadText pL0) "_law_same" ["_law_found", "_law_due"] 0 (samN 0) := ⟨f30, _, fn_no, PySem.W.mg_of X G a30, k30, b30⟩
  have r1__law_same : DfM l.prog w K mg base (mkF K C_WireError C_BadSheet C_BadPlace C_BadEdit C_BadFile C_Opened C_NoFile C_TooMany C_BadAsk C_NoAsk C_Old C_Fallen C_NotFallen C_BadLetter C_BadText pL0) "_law_same" ["_law_found", "_law_due"] 1 (samN 1) := ⟨f30, _, D__law_same (F := (mkF K C_WireError C_BadSheet C_BadPlace C_BadEdit C_BadFile C_Opened C_NoFile C_TooMany C_BadAsk C_NoAsk C_Old C_Fallen C_NotFallen C_BadLetter C_BadText pL0)) F30 (k := 0) (m_isinstance := m_isinstance) (m_tuple := m_tuple) (m_list := m_list) (m_len := m_len) (m_range := m_range) (m_str := m_str) (m_bool := m_bool) (m_int := m_int) (hR := samN_P 0) (r__law_same := r0__law_same), PySem.W.mg_of X G a30, k30, b30⟩
  have r2__law_same : DfM l.prog w K mg base (mkF K C_WireError C_BadSheet C_BadPlace C_BadEdit C_BadFile C_Opened C_NoFile C_TooMany C_BadAsk C_NoAsk C_Old C_Fallen C_NotFallen C_BadLetter C_BadText pL0) "_law_same" ["_law_found", "_law_due"] 2 (samN 2) := ⟨f30, _, D__law_same (F := (mkF K C_WireError C_BadSheet C_BadPlace C_BadEdit C_BadFile C_Opened C_NoFile C_TooMany C_BadAsk C_NoAsk C_Old C_Fallen C_NotFallen C_BadLetter C_BadText pL0)) F30 (k := 1) (m_isinstance := m_isinstance) (m_tuple := m_tuple) (m_list := m_list) (m_len := m_len) (m_range := m_range) (m_str := m_str) (m_bool := m_bool) (m_int := m_int) (hR := samN_P 1) (r__law_same := r1__law_same), PySem.W.mg_of X G a30, k30, b30⟩
  have r3__law_same : DfM l.prog w K mg base (mkF K C_WireError C_BadSheet C_BadPlace C_BadEdit C_BadFile C_Opened C_NoFile C_TooMany C_BadAsk C_NoAsk C_Old C_Fallen C_NotFallen C_BadLetter C_BadText pL0) "_law_same" ["_law_found", "_law_due"] 3 (samN 3) := ⟨f30, _, D__law_same (F := (mkF K C_WireError C_BadSheet C_BadPlace C_BadEdit C_BadFile C_Opened C_NoFile C_TooMany C_BadAsk C_NoAsk C_Old C_Fallen C_NotFallen C_BadLetter C_BadText pL0)) F30 (k := 2) (m_isinstance := m_isinstance) (m_tuple := m_tuple) (m_list := m_list) (m_len := m_len) (m_range := m_range) (m_str := m_str) (m_bool := m_bool) (m_int := m_int) (hR := samN_P 2) (r__law_same := r2__law_same), PySem.W.mg_of X G a30, k30, b30⟩
  have r4__law_same : DfM l.prog w K mg base (mkF K C_WireError C_BadSheet C_BadPlace C_BadEdit C_BadFile C_Opened C_NoFile C_TooMany C_BadAsk C_NoAsk C_Old C_Fallen C_NotFallen C_BadLetter C_BadText pL0) "_law_same" ["_law_found", "_law_due"] 4 (samN 4) := ⟨f30, _, D__law_same (F := (mkF K C_WireError C_BadSheet C_BadPlace C_BadEdit C_BadFile C_Opened C_NoFile C_TooMany C_BadAsk C_NoAsk C_Old C_Fallen C_NotFallen C_BadLetter C_BadText pL0)) F30 (k := 3) (m_isinstance := m_isinstance) (m_tuple := m_tuple) (m_list := m_list) (m_len := m_len) (m_range := m_range) (m_str := m_str) (m_bool := m_bool) (m_int := m_int) (hR := samN_P 3) (r__law_same := r3__law_same), PySem.W.mg_of X G a30, k30, b30⟩
  have r5__law_same : DfM l.prog w K mg base (mkF K C_WireError C_BadSheet C_BadPlace C_BadEdit C_BadFile C_Opened C_NoFile C_TooMany C_BadAsk C_NoAsk C_Old C_Fallen C_NotFallen C_BadLetter C_BadText pL0) "_law_same" ["_law_found", "_law_due"] 5 (samN 5) := ⟨f30, _, D__law_same (F := (mkF K C_WireError C_BadSheet C_BadPlace C_BadEdit C_BadFile C_Opened C_NoFile C_TooMany C_BadAsk C_NoAsk C_Old C_Fallen C_NotFallen C_BadLetter C_BadText pL0)) F30 (k := 4) (m_isinstance := m_isinstance) (m_tuple := m_tuple) (m_list := m_list) (m_len := m_len) (m_range := m_range) (m_str := m_str) (m_bool := m_bool) (m_int := m_int) (hR := samN_P 4) (r__law_same := r4__law_same), PySem.W.mg_of X G a30, k30, b30⟩
  have r6__law_same : DfM l.prog w K mg base (mkF K C_WireError C_BadSheet C_BadPlace C_BadEdit C_BadFile C_Opened C_NoFile C_TooMany C_BadAsk C_NoAsk C_Old C_Fallen C_NotFallen C_BadLetter C_BadText pL0) "_law_same" ["_law_found", "_law_due"] 6 (samN 6) := ⟨f30, _, D__law_same (F := (mkF K C_WireError C_BadSheet C_BadPlace C_BadEdit C_BadFile C_Opened C_NoFile C_TooMany C_BadAsk C_NoAsk C_Old C_Fallen C_NotFallen C_BadLetter C_BadText pL0)) F30 (k := 5) (m_isinstance := m_isinstance) (m_tuple := m_tuple) (m_list := m_list) (m_len := m_len) (m_range := m_range) (m_str := m_str) (m_bool := m_bool) (m_int := m_int) (hR := samN_P 5) (r__law_same := r5__law_same), PySem.W.mg_of X G a30, k30, b30⟩
  have r7__law_same : DfM l.prog w K mg base (mkF K C_WireError C_BadSheet C_BadPlace C_BadEdit C_BadFile C_Opened C_NoFile C_TooMany C_BadAsk C_NoAsk C_Old C_Fallen C_NotFallen C_BadLetter C_BadText pL0) "_law_same" ["_law_found", "_law_due"] 7 (samN 7) := ⟨f30, _, D__law_same (F := (mkF K C_WireError C_BadSheet C_BadPlace C_BadEdit C_BadFile C_Opened C_NoFile C_TooMany C_BadAsk C_NoAsk C_Old C_Fallen C_NotFallen C_BadLetter C_BadText pL0)) F30 (k := 6) (m_isinstance := m_isinstance) (m_tuple := m_tuple) (m_list := m_list) (m_len := m_len) (m_range := m_range) (m_str := m_str) (m_bool := m_bool) (m_int := m_int) (hR := samN_P 6) (r__law_same := r6__law_same), PySem.W.mg_of X G a30, k30, b30⟩
  have r8__law_same : DfM l.prog w K mg base (mkF K C_WireError C_BadSheet C_BadPlace C_BadEdit C_BadFile C_Opened C_NoFile C_TooMany C_BadAsk C_NoAsk C_Old C_Fallen C_NotFallen C_BadLetter C_BadText pL0) "_law_same" ["_law_found", "_law_due"] 8 (samN 8) := ⟨f30, _, D__law_same (F := (mkF K C_WireError C_BadSheet C_BadPlace C_BadEdit C_BadFile C_Opened C_NoFile C_TooMany C_BadAsk C_NoAsk C_Old C_Fallen C_NotFallen C_BadLetter C_BadText pL0)) F30 (k := 7) (m_isinstance := m_isinstance) (m_tuple := m_tuple) (m_list := m_list) (m_len := m_len) (m_range := m_range) (m_str := m_str) (m_bool := m_bool) (m_int := m_int) (hR := samN_P 7) (r__law_same := r7__law_same), PySem.W.mg_of X G a30, k30, b30⟩
  have r9__law_same : DfM l.prog w K mg base (mkF K C_WireError C_BadSheet C_BadPlace C_BadEdit C_BadFile C_Opened C_NoFile C_TooMany C_BadAsk C_NoAsk C_Old C_Fallen C_NotFallen C_BadLetter C_BadText pL0) "_law_same" ["_law_found", "_law_due"] 9 (samN 9) := ⟨f30, _, D__law_same (F := (mkF K C_WireError C_BadSheet C_BadPlace C_BadEdit C_BadFile C_Opened C_NoFile C_TooMany C_BadAsk C_NoAsk C_Old C_Fallen C_NotFallen C_BadLetter C_BadText pL0)) F30 (k := 8) (m_isinstance := m_isinstance) (m_tuple := m_tuple) (m_list := m_list) (m_len := m_len) (m_range := m_range) (m_str := m_str) (m_bool := m_bool) (m_int := m_int) (hR := samN_P 8) (r__law_same := r8__law_same), PySem.W.mg_of X G a30, k30, b30⟩
  have d__law_same := r9__law_same
  have F31 := fun_mk (st := (topS 56)) l31 c31 k31
  have FC0 : FunC (mkF K C_WireError C_BadSheet C_BadPlace C_BadEdit C_BadFile C_Opened C_NoFile C_TooMany C_BadAsk C_NoAsk C_Old C_Fallen C_NotFallen C_BadLetter C_BadText pL0).K "law" "law" (topS 56) fa _ cL0 := ⟨⟨_, _, _, _, _, _, _, _, rfl, l31, c31⟩⟩
  exact D_law (F := (mkF K C_WireError C_BadSheet C_BadPlace C_BadEdit C_BadFile C_Opened C_NoFile C_TooMany C_BadAsk C_NoAsk C_Old C_Fallen C_NotFallen C_BadLetter C_BadText pL0)) (Fn := FC0) (d__law_start := d__law_start) (m_range := m_range) (d__law_play := d__law_play) (d_written := d_written) (d__law_drawn := d__law_drawn) (d__law_spoilt := d__law_spoilt) (d__law_row := d__law_row) (tb := tb0) (d_read := d_read) (d__law_word := d__law_word) (hw := hw) (d__law_same := d__law_same) (hTm := hTm0) (hTu := hTu0)
end MW
open PySem PySem.W PyProof.Rows
set_option maxHeartbeats 0 in
theorem PySem.Challenge.cw_helperwire_k15_texts_refused_holds : PySem.Challenge.rw_helperwire_k15_texts_refused.Holds := by
  refine MW.hd ?_
  k_fill
  refine HW.walk_tabs (l := PySem.Challenge.rw_helperwire_k15_texts_refused) (n := 63) (k := 22) (x := "_law_script") rfl (by decide) rfl ⟨rfl, by decide, by decide⟩ (fun w h Y => PySem.W.km_in_of Y) ?F
  case F =>
    intro w mg fa h Y KX G hmg
    refine' MW.all_mk KX G hmg ?g_WireError ?g_BadSheet ?g_BadPlace ?g_BadEdit ?g_BadFile ?g_Opened ?g_NoFile ?g_TooMany ?g_BadAsk ?g_NoAsk ?g_Old ?g_Fallen ?g_NotFallen ?g_BadLetter ?g_BadText ?a0 ?l0 ?c0 ?k0 ?a1 ?l1 ?c1 ?k1 ?a2 ?l2 ?c2 ?k2 ?a3 ?l3 ?c3 ?k3 ?a4 ?l4 ?c4 ?k4 ?a5 ?l5 ?c5 ?k5 ?a6 ?l6 ?c6 ?k6 ?a7 ?l7 ?c7 ?k7 ?a8 ?l8 ?c8 ?k8 ?a9 ?l9 ?c9 ?k9 ?a10 ?l10 ?c10 ?k10 ?a11 ?l11 ?c11 ?k11 ?a12 ?l12 ?c12 ?k12 ?a13 ?l13 ?c13 ?k13 ?a14 ?l14 ?c14 ?k14 ?a15 ?l15 ?c15 ?k15 ?a16 ?l16 ?c16 ?k16 ?a17 ?l17 ?c17 ?k17 ?a18 ?l18 ?c18 ?k18 ?a19 ?l19 ?c19 ?k19 ?a20 ?l20 ?c20 ?k20 ?a21 ?l21 ?c21 ?k21 ?a22 ?l22 ?c22 ?k22 ?a23 ?l23 ?c23 ?k23 ?a24 ?l24 ?c24 ?k24 ?a25 ?l25 ?c25 ?k25 ?a26 ?l26 ?c26 ?k26 ?a27 ?l27 ?c27 ?k27 ?a28 ?l28 ?c28 ?k28 ?a29 ?l29 ?c29 ?k29 ?a30 ?l30 ?c30 ?k30 ?a31 ?l31 ?c31 ?k31 ?lcc0 ?lcp0 ?lct0 ?lch0 ?lcn0 ?z_m_isinstance ?z_m_ValueError ?okw ?xe2 ?ne2 ?xe13 ?ne13 ?z_m_len ?z_m_range ?z_m_int ?z_m_sorted ?z_m_min ?z_m_enumerate ?z_m_tuple ?z_c_EMPTY ?z_m_str ?z_c_MOST_FIGURES ?z_m_all ?gd_SIGNS ?ld_SIGNS ?kl_SIGNS ?lo_SIGNS ?wb_SIGNS ?z_m_zip ?z_c_EDIT_FORM ?gd_ASK_FORMS ?ld_ASK_FORMS ?kl_ASK_FORMS ?lo_ASK_FORMS ?wb_ASK_FORMS ?gd_STEP_FORMS ?ld_STEP_FORMS ?kl_STEP_FORMS ?lo_STEP_FORMS ?wb_STEP_FORMS ?i2BadText ?i3BadText ?i4BadText ?i5BadText ?i6BadText ?i7BadText ?i8BadText ?i9BadText ?iaBadText ?ibBadText ?icBadText ?idBadText ?ieBadText ?ifBadText ?igBadText ?ihBadText ?iiBadText ?ijBadText ?ikBadText ?ilBadText ?imBadText ?inBadText ?z_m_list ?z_m_bool
    (case g_WireError => k_is)
    (case g_BadSheet => k_is)
    (case g_BadPlace => k_is)
    (case g_BadEdit => k_is)
    (case g_BadFile => k_is)
    (case g_Opened => k_is)
    (case g_NoFile => k_is)
    (case g_TooMany => k_is)
    (case g_BadAsk => k_is)
    (case g_NoAsk => k_is)
    (case g_Old => k_is)
    (case g_Fallen => k_is)
    (case g_NotFallen => k_is)
    (case g_BadLetter => k_is)
    (case g_BadText => k_is)
    (case a0 => k_is)
    (case l0 => k_is)
    (case c0 => k_is)
    (case k0 => k_is)
    (case a1 => k_is)
    (case l1 => k_is)
    (case c1 => k_is)
    (case k1 => k_is)
    (case a2 => k_is)
    (case l2 => k_is)
    (case c2 => k_is)
    (case k2 => k_is)
    (case a3 => k_is)
    (case l3 => k_is)
    (case c3 => k_is)
    (case k3 => k_is)
    (case a4 => k_is)
    (case l4 => k_is)
    (case c4 => k_is)
    (case k4 => k_is)
    (case a5 => k_is)
    (case l5 => k_is)
    (case c5 => k_is)
    (case k5 => k_is)
    (case a6 => k_is)
    (case l6 => k_is)
    (case c6 => k_is)
    (case k6 => k_is)
    (case a7 => k_is)
    (case l7 => k_is)
    (case c7 => k_is)
    (case k7 => k_is)
    (case a8 => k_is)
    (case l8 => k_is)
    (case c8 => k_is)
    (case k8 => k_is)
    (case a9 => k_is)
    (case l9 => k_is)
    (case c9 => k_is)
    (case k9 => k_is)
    (case a10 => k_is)
    (case l10 => k_is)
    (case c10 => k_is)
    (case k10 => k_is)
    (case a11 => k_is)
    (case l11 => k_is)
    (case c11 => k_is)
    (case k11 => k_is)
    (case a12 => k_is)
    (case l12 => k_is)
    (case c12 => k_is)
    (case k12 => k_is)
    (case a13 => k_is)
    (case l13 => k_is)
    (case c13 => k_is)
    (case k13 => k_is)
    (case a14 => k_is)
    (case l14 => k_is)
    (case c14 => k_is)
    (case k14 => k_is)
    (case a15 => k_is)
    (case l15 => k_is)
    (case c15 => k_is)
    (case k15 => k_is)
    (case a16 => k_is)
    (case l16 => k_is)
    (case c16 => k_is)
    (case k16 => k_is)
    (case a17 => k_is)
    (case l17 => k_is)
    (case c17 => k_is)
    (case k17 => k_is)
    (case a18 => k_is)
    (case l18 => k_is)
    (case c18 => k_is)
    (case k18 => k_is)
    (case a19 => k_is)
    (case l19 => k_is)
    (case c19 => k_is)
    (case k19 => k_is)
    (case a20 => k_is)
    (case l20 => k_is)
    (case c20 => k_is)
    (case k20 => k_is)
    (case a21 => k_is)
    (case l21 => k_is)
    (case c21 => k_is)
    (case k21 => k_is)
    (case a22 => k_is)
    (case l22 => k_is)
    (case c22 => k_is)
    (case k22 => k_is)
    (case a23 => k_is)
    (case l23 => k_is)
    (case c23 => k_is)
    (case k23 => k_is)
    (case a24 => k_is)
    (case l24 => k_is)
    (case c24 => k_is)
    (case k24 => k_is)
    (case a25 => k_is)
    (case l25 => k_is)
    (case c25 => k_is)
    (case k25 => k_is)
    (case a26 => k_is)
    (case l26 => k_is)
    (case c26 => k_is)
    (case k26 => k_is)
    (case a27 => k_is)
    (case l27 => k_is)
    (case c27 => k_is)
    (case k27 => k_is)
    (case a28 => k_is)
    (case l28 => k_is)
    (case c28 => k_is)
    (case k28 => k_is)
    (case a29 => k_is)
    (case l29 => k_is)
    (case c29 => k_is)
    (case k29 => k_is)
    (case a30 => k_is)
    (case l30 => k_is)
    (case c30 => k_is)
    (case k30 => k_is)
    (case a31 => k_is)
    (case l31 => k_is)
    (case c31 => k_is)
    (case k31 => k_is)
    (case lcc0 => k_is)
    (case lcp0 => exact rfl)
    (case lct0 => exact PySem.W.km_tabs_of Y _ (by simp))
    (case lch0 => kernel_rfl)
    (case lcn0 => kernel_rfl)
    (case z_m_isinstance => k_is)
    (case z_m_ValueError => k_is)
    (case okw => kernel_rfl)
    (case xe2 => kernel_rfl)
    (case ne2 => k_is)
    (case xe13 => kernel_rfl)
    (case ne13 => k_is)
    (case z_m_len => k_is)
    (case z_m_range => k_is)
    (case z_m_int => k_is)
    (case z_m_sorted => k_is)
    (case z_m_min => k_is)
    (case z_m_enumerate => k_is)
    (case z_m_tuple => k_is)
    (case z_c_EMPTY => k_is)
    (case z_m_str => k_is)
    (case z_c_MOST_FIGURES => k_is)
    (case z_m_all => k_is)
    (case gd_SIGNS => k_is)
    (case ld_SIGNS => k_is)
    (case kl_SIGNS => exact ⟨⟨_, _, rfl, rfl⟩, ⟨_, _, rfl, rfl⟩, ⟨_, _, rfl, rfl⟩, trivial⟩)
    (case lo_SIGNS => kernel_rfl)
    (case wb_SIGNS => kernel_rfl)
    (case z_m_zip => k_is)
    (case z_c_EDIT_FORM => k_is)
    (case gd_ASK_FORMS => k_is)
    (case ld_ASK_FORMS => k_is)
    (case kl_ASK_FORMS => exact ⟨⟨_, _, rfl, rfl⟩, ⟨_, _, rfl, rfl⟩, ⟨_, _, rfl, rfl⟩, ⟨_, _, rfl, rfl⟩, trivial⟩)
    (case lo_ASK_FORMS => kernel_rfl)
    (case wb_ASK_FORMS => kernel_rfl)
    (case gd_STEP_FORMS => k_is)
    (case ld_STEP_FORMS => k_is)
    (case kl_STEP_FORMS => exact ⟨⟨_, _, rfl, rfl⟩, ⟨_, _, rfl, rfl⟩, ⟨_, _, rfl, rfl⟩, ⟨_, _, rfl, rfl⟩, ⟨_, _, rfl, rfl⟩, ⟨_, _, rfl, rfl⟩, ⟨_, _, rfl, rfl⟩, ⟨_, _, rfl, rfl⟩, ⟨_, _, rfl, rfl⟩, ⟨_, _, rfl, rfl⟩, trivial⟩)
    (case lo_STEP_FORMS => kernel_rfl)
    (case wb_STEP_FORMS => kernel_rfl)
    (case i2BadText => k_is)
    (case i3BadText => k_is)
    (case i4BadText => k_is)
    (case i5BadText => k_is)
    (case i6BadText => k_is)
    (case i7BadText => exact rfl)
    (case i8BadText => kernel_rfl)
    (case i9BadText => k_is)
    (case iaBadText => k_is)
    (case ibBadText => k_is)
    (case icBadText => k_is)
    (case idBadText => kernel_rfl)
    (case ieBadText => k_is)
    (case ifBadText => kernel_rfl)
    (case igBadText => k_is)
    (case ihBadText => k_is)
    (case iiBadText => kernel_rfl)
    (case ijBadText => k_is)
    (case ikBadText => k_is)
    (case ilBadText => k_is)
    (case imBadText => k_is)
    (case inBadText => k_is)
    (case z_m_list => k_is)
    (case z_m_bool => k_is)

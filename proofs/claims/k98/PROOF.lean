import PyProof.Rows.All
import Wide.All
import OpenK.AllK
import Wide.FinOn
import HandS.ForMost
import HandS.Deep
import HandS.IsInst
import HandS.Star
import HandS.SetKeys
import HandS.DictComp
import HandS.Zip
import HandS.Flow
import HandS.ExcInit
import HandS.TupAny
import HandS.Codes
import HandS.RaiseMore
import HandS.Style
import HandS.ClsMeth
import HandS.ExcField
import HandS.ExcIs
import HandS.Defaults
import PyProof.ExcBaseAll.LookupError
import PyProof.ExcBaseAll.RuntimeError
import KE.KExcIs
import KE.KExcInit
import PySem.Challenge.RW_clobberwalk_k98_errors_and_limits
set_option Elab.async false
set_option linter.all false
set_option maxRecDepth 100000
set_option maxHeartbeats 4000000
set_option autoImplicit false
/-! A layer of DATA over HandS: expressions and statements read as functions on plain data (PyData), the heap hidden. -/
namespace Y
open PySem PySem.Spec L2
/-! ### data that stands in the heap -/
def keyD : Key → PyData
  | .inl i => .int i
  | .inr s => .str s
/-- plain dicts: not the form that tells of an exception -/
def dOk : List (PyData × PyData) → Bool
  | (.none, _) :: _ => false
  | _ => true
def dOkD : PyData → Bool
  | .dict k => dOk k
  | _ => true
mutual
inductive Rp (K : PySem.W.Frag) (H : Hp) : V → PyData → Prop
  | non : Rp K H .non .none
  | bl (b : Bool) : Rp K H (.bl b) (.bool b)
  | int (i : Int) : Rp K H (.int i) (.int i)
  | str (x : Str) : Rp K H (.str x) (.str x)
  | lst {a : Addr} {xs : List V} {ds : List PyData} : H a = some (.lst xs) → RpAll K H xs ds → Rp K H (.ref a) (.list ds)
  | tup {a : Addr} {xs : List V} {ds : List PyData} : SqT K H a xs → RpAll K H xs ds → Rp K H (.ref a) (.tuple ds)
  | dct {a : Addr} {kvs : List (Key × V)} {ds : List (PyData × PyData)} : H a = some (.dK kvs) → RpKv K H kvs ds → Rp K H (.ref a) (.dict ds)
  | ex0 {a C : Addr} : H a = some (exo a C none) → Rp K H (.ref a) (.dict [(.none, .int C)])
  | exc {a C dx : Addr} {fs : List (Str × V)} {ds : List (PyData × PyData)} : H a = some (exo a C (some dx)) → H dx = some (exd dx fs) → RpKv K H (fs.map fun q => (.inr q.1, q.2)) ds → Rp K H (.ref a) (.dict ((.none, .int C) :: ds))
inductive RpAll (K : PySem.W.Frag) (H : Hp) : List V → List PyData → Prop
  | nil : RpAll K H [] []
  | cons {v : V} {vs : List V} {d : PyData} {ds : List PyData} : Rp K H v d → RpAll K H vs ds → RpAll K H (v :: vs) (d :: ds)
inductive RpKv (K : PySem.W.Frag) (H : Hp) : List (Key × V) → List (PyData × PyData) → Prop
  | nil : RpKv K H [] []
  | cons {k : Key} {v : V} {vs : List (Key × V)} {d : PyData} {ds : List (PyData × PyData)} : Rp K H v d → RpKv K H vs ds → RpKv K H ((k, v) :: vs) ((keyD k, d) :: ds)
end
theorem sqT_mono {K : PySem.W.Frag} {H H' : Hp} {a : Addr} {xs : List V} (e : Same H H') (h : SqT K H a xs) : SqT K H' a xs := by
  rcases h with (h | ⟨o, h⟩) | h
  · exact .inl (.inl (e _ _ h))
  · exact .inl (.inr ⟨o, e _ _ h⟩)
  · exact .inr h
section
variable {K : PySem.W.Frag} {H H' : Hp}
mutual
theorem Rp.mono (e : Same H H') : ∀ {d : PyData} {v : V}, Rp K H v d → Rp K H' v d
  | .none, _, .non => .non
  | .bool _, _, .bl b => .bl b
  | .int _, _, .int i => .int i
  | .str _, _, .str x => .str x
  | .list _, _, .lst h a => .lst (e _ _ h) (RpAll.mono e a)
  | .tuple _, _, .tup h a => .tup (sqT_mono e h) (RpAll.mono e a)
  | .dict _, _, .dct h a => .dct (e _ _ h) (RpKv.mono e a)
  | .dict _, _, .ex0 h => .ex0 (e _ _ h)
  | .dict _, _, .exc h g a => .exc (e _ _ h) (e _ _ g) (RpKv.mono e a)
theorem RpAll.mono (e : Same H H') : ∀ {ds : List PyData} {vs : List V}, RpAll K H vs ds → RpAll K H' vs ds
  | [], _, .nil => .nil
  | _ :: _, _, .cons h t => .cons (Rp.mono e h) (RpAll.mono e t)
theorem RpKv.mono (e : Same H H') : ∀ {ds : List (PyData × PyData)} {vs : List (Key × V)}, RpKv K H vs ds → RpKv K H' vs ds
  | [], _, .nil => .nil
  | _ :: _, _, .cons h t => .cons (Rp.mono e h) (RpKv.mono e t)
end
theorem RpAll.length : ∀ {vs : List V} {ds : List PyData}, RpAll K H vs ds → vs.length = ds.length
  | _, _, .nil => rfl
  | _, _, .cons _ t => congrArg (· + 1) (RpAll.length t)
theorem RpAll.append : ∀ {vs ws : List V} {ds es : List PyData}, RpAll K H vs ds → RpAll K H ws es → RpAll K H (vs ++ ws) (ds ++ es)
  | _, _, _, _, .nil, t => t
  | _, _, _, _, .cons h t, u => .cons h (RpAll.append t u)
theorem RpAll.get : ∀ {vs : List V} {ds : List PyData} {i : Nat} {d : PyData}, RpAll K H vs ds → ds[i]? = some d → ∃ v, vs[i]? = some v ∧ Rp K H v d
  | _, _, i, d, .nil, e => by simp at e
  | _, _, 0, d, .cons h t, e => by
    simp at e; subst e; exact ⟨_, rfl, h⟩
  | _, _, i + 1, d, .cons h t, e => by
    obtain ⟨v, e1, r⟩ := RpAll.get (i := i) t (by simpa using e)
    exact ⟨v, by simpa using e1, r⟩
theorem RpAll.getV : ∀ {vs : List V} {ds : List PyData} {i : Nat} {v : V}, RpAll K H vs ds → vs[i]? = some v → ∃ d, ds[i]? = some d ∧ Rp K H v d
  | _, _, i, d, .nil, e => by simp at e
  | _, _, 0, d, .cons h t, e => by
    simp at e; subst e; exact ⟨_, rfl, h⟩
  | _, _, i + 1, d, .cons h t, e => by
    obtain ⟨v, e1, r⟩ := RpAll.getV (i := i) t (by simpa using e)
    exact ⟨v, by simpa using e1, r⟩
theorem RpAll.take : ∀ {vs : List V} {ds : List PyData} (n : Nat), RpAll K H vs ds → RpAll K H (vs.take n) (ds.take n)
  | _, _, 0, _ => by simpa using RpAll.nil
  | _, _, _ + 1, .nil => .nil
  | _, _, n + 1, .cons h t => .cons h (RpAll.take n t)
theorem RpAll.drop : ∀ {vs : List V} {ds : List PyData} (n : Nat), RpAll K H vs ds → RpAll K H (vs.drop n) (ds.drop n)
  | _, _, 0, r => r
  | _, _, _ + 1, .nil => .nil
  | _, _, n + 1, .cons _ t => RpAll.drop n t
theorem RpAll.set {v : V} {d : PyData} (r : Rp K H v d) : ∀ {vs : List V} {ds : List PyData} (n : Nat), RpAll K H vs ds → RpAll K H (vs.set n v) (ds.set n d)
  | _, _, _, .nil => .nil
  | _, _, 0, .cons _ t => .cons r t
  | _, _, n + 1, .cons h t => .cons h (RpAll.set r n t)
theorem RpAll.dropLast : ∀ {vs : List V} {ds : List PyData}, RpAll K H vs ds → RpAll K H vs.dropLast ds.dropLast
  | _, _, .nil => .nil
  | _, _, .cons _ .nil => .nil
  | _, _, .cons h (.cons h2 t) => .cons h (RpAll.dropLast (.cons h2 t))
theorem RpAll.eraseIdx : ∀ {vs : List V} {ds : List PyData} (n : Nat), RpAll K H vs ds → RpAll K H (vs.eraseIdx n) (ds.eraseIdx n)
  | _, _, _, .nil => .nil
  | _, _, 0, .cons _ t => t
  | _, _, n + 1, .cons h t => .cons h (RpAll.eraseIdx n t)
end
/-! ### slots of a def: what they hold -/
inductive MO where
  | lst (xs : List PyData)
  | dct (kvs : List (Key × PyData))
/-- un: nothing told; d: data that never changes; m: an object of one's own that may change; p: such an object of the caller's, handed in as a parameter; s: the script -/
inductive Slot where
  | un | d (x : PyData) | m (o : MO) | p (o : MO) | scr (ns : List Int)
abbrev Rho := List Slot
def Slot.obj? : Slot → Option MO
  | .m o => some o
  | .p o => some o
  | _ => none
def Slot.put : Slot → MO → Slot
  | .m _, o => .m o
  | .p _, o => .p o
  | z, _ => z
inductive RpK (K : PySem.W.Frag) (H : Hp) : List (Key × V) → List (Key × PyData) → Prop
  | nil : RpK K H [] []
  | cons {k : Key} {v : V} {vs : List (Key × V)} {d : PyData} {ds : List (Key × PyData)} : Rp K H v d → RpK K H vs ds → RpK K H ((k, v) :: vs) ((k, d) :: ds)
theorem RpK.mono {K : PySem.W.Frag} {H H' : Hp} (e : Same H H') : ∀ {vs : List (Key × V)} {ds : List (Key × PyData)}, RpK K H vs ds → RpK K H' vs ds
  | _, _, .nil => .nil
  | _, _, .cons h t => .cons (h.mono e) (RpK.mono e t)
theorem RpK.length {K : PySem.W.Frag} {H : Hp} : ∀ {vs : List (Key × V)} {ds : List (Key × PyData)}, RpK K H vs ds → vs.length = ds.length
  | _, _, .nil => rfl
  | _, _, .cons _ t => congrArg (· + 1) (RpK.length t)
/-- the object at a holds o -/
def ObjR (K : PySem.W.Frag) (Hf H : Hp) (a : Addr) : MO → Prop
  | .lst xs => ∃ vs, H a = some (.lst vs) ∧ RpAll K Hf vs xs
  | .dct kvs => ∃ vs, H a = some (.dK vs) ∧ RpK K Hf vs kvs
theorem ObjR.mono {K : PySem.W.Frag} {Hf Hf' H H' : Hp} {a : Addr} {o : MO} (e : Same Hf Hf') (k : H' a = H a) (h : ObjR K Hf H a o) : ObjR K Hf' H' a o := by
  cases o with
  | lst xs => obtain ⟨vs, h1, h2⟩ := h; exact ⟨vs, k.trans h1, h2.mono e⟩
  | dct kvs => obtain ⟨vs, h1, h2⟩ := h; exact ⟨vs, k.trans h1, h2.mono e⟩
theorem ObjR.there {K : PySem.W.Frag} {Hf H : Hp} {a : Addr} {o : MO} (h : ObjR K Hf H a o) : ∃ u, H a = some u := by
  cases o with
  | lst xs => obtain ⟨vs, h1, h2⟩ := h; exact ⟨_, h1⟩
  | dct kvs => obtain ⟨vs, h1, h2⟩ := h; exact ⟨_, h1⟩
/-- the base: the heap at the entry, what of it never changes, what may change, the parameters that may -/
structure Bs where
  Hb : Hp
  Hz : Hp
  ms : List Addr
  pa : List (Nat × Addr)
  lf : Bool
structure Rel (K : PySem.W.Frag) (B : Bs) (σ : St) (H Hf : Hp) (ρ : Rho) : Prop where
  fz : Same Hf H
  zf : Same B.Hz Hf
  kp : ∀ b o, B.Hb b = some o → b ∉ B.ms → H b = some o
  nf : ∀ b o, B.Hb b = some o → B.Hz b = none → Hf b = none
  mt : ∀ a ∈ B.ms, ∃ o, H a = some o
  len : ρ.length = σ.length
  dat : ∀ (i : Nat) (d : PyData), ρ[i]? = some (.d d) → ∃ v : V, σ[i]? = some (some v) ∧ Rp K Hf v d
  scr : ∀ (i : Nat) (ns : List Int), ρ[i]? = some (.scr ns) → ∃ a : Addr, σ[i]? = some (some (V.ref a)) ∧ SqL K Hf a (ns.map V.int)
  own : ∀ (i : Nat) (s : Slot) (o : MO), ρ[i]? = some s → s.obj? = some o → ∃ a : Addr, σ[i]? = some (some (V.ref a)) ∧ Hf a = none ∧ ObjR K Hf H a o ∧ (a ∈ B.ms ∨ B.Hb a = none)
  dis : ∀ (i j : Nat) (s s' : Slot) (o o' : MO) (a : Addr), ρ[i]? = some s → s.obj? = some o → ρ[j]? = some s' → s'.obj? = some o' → σ[i]? = some (some (V.ref a)) → σ[j]? = some (some (V.ref a)) → i = j
  par : ∀ (i : Nat) (o : MO), ρ[i]? = some (.p o) → ∃ a : Addr, σ[i]? = some (some (V.ref a)) ∧ (i, a) ∈ B.pa
  loc : B.lf = true → ∀ (i : Nat) (o : MO), ρ[i]? = some (.m o) → ∀ a : Addr, σ[i]? = some (some (V.ref a)) → B.Hb a = none
  pas : ∀ q ∈ B.pa, σ[q.1]? = some (some (V.ref q.2)) ∧ ∃ o : MO, ρ[q.1]? = some (.p o)
section
variable {K : PySem.W.Frag} {B : Bs} {σ σ' : St} {H H' Hf Hf' : Hp} {ρ ρ' : Rho}
theorem Rel.newB (R : Rel K B σ H Hf ρ) {p : Addr} (h : H p = none) : B.Hb p = none := by
  cases e : B.Hb p with
  | none => rfl
  | some o =>
    by_cases hm : p ∈ B.ms
    · obtain ⟨u, q⟩ := R.mt p hm
      rw [h] at q; cases q
    · have q := R.kp p o e hm
      rw [h] at q; cases q
theorem Rel.newF (R : Rel K B σ H Hf ρ) {p : Addr} (h : H p = none) : Hf p = none := R.fz.free h
theorem same_upd {H : Hp} {p : Addr} {o : HO} (h : H p = none) : Same H (upd H p o) := fun b x e => by
  rw [upd_ne (ne_of_none e h)]
  exact e
theorem same_both {H Hf : Hp} {p : Addr} {o : HO} (h : Same Hf H) : Same (upd Hf p o) (upd H p o) := fun b x e => by
  by_cases hb : b = p
  · subst hb; rw [upd_same] at e ⊢; exact e
  · rw [upd_ne hb] at e ⊢; exact h b x e
/-- a new frozen object -/
theorem Rel.froze (R : Rel K B σ H Hf ρ) {p : Addr} (h : H p = none) (o : HO) : Rel K B σ (upd H p o) (upd Hf p o) ρ := by
  have hb := R.newB h
  have hf := R.newF h
  have sf : Same Hf (upd Hf p o) := same_upd hf
  refine ⟨same_both R.fz, R.zf.trans sf, fun b u e m => ?_, fun b u e z => ?_, fun a m => ?_, R.len, fun i d e => ?_, fun i ns e => ?_, fun i s o' e e' => ?_, R.dis, R.par, R.loc, R.pas⟩
  · rw [upd_ne (ne_of_none e hb)]; exact R.kp b u e m
  · rw [upd_ne (ne_of_none e hb)]; exact R.nf b u e z
  · obtain ⟨u, q⟩ := R.mt a m
    exact ⟨u, same_upd h a u q⟩
  · obtain ⟨v, e1, r⟩ := R.dat i d e
    exact ⟨v, e1, r.mono sf⟩
  · obtain ⟨a, e1, r⟩ := R.scr i ns e
    exact ⟨a, e1, sf.seq r⟩
  · obtain ⟨a, e1, e2, r, m⟩ := R.own i s o' e e'
    obtain ⟨u, hu⟩ := r.there
    have na : a ≠ p := ne_of_none hu h
    exact ⟨a, e1, by rw [upd_ne na]; exact e2, r.mono sf (by rw [upd_ne na]), m⟩
end
/-! ### expressions, tests, arguments, statements -/
abbrev FE := Rho → Option (PyData × Rho)
abbrev FT := Rho → Option (Bool × Rho)
inductive AV where
  | d (x : PyData)
  | ow (i : Nat)
abbrev FA := Rho → Option (List AV × Rho)
inductive Out where
  | nx (ρ : Rho)
  | rt (d : PyData) (ρ : Rho)
  | bk (ρ : Rho)
  | ct (ρ : Rho)
abbrev FS := Rho → Option Out
structure DE (X : Cx) (e : Expr) (f : FE) : Prop where
  ex : ∃ t, PE X e t ∧ ∀ (B : Bs) (σ : St) (H Hf : Hp) (ρ : Rho) (d : PyData) (ρ' : Rho) (Q : VK), Rel X.K B σ H Hf ρ → f ρ = some (d, ρ') →
    (∀ v H' Hf', Rel X.K B σ H' Hf' ρ' → Same Hf Hf' → Rp X.K Hf' v d → Q v H') → t σ H Q
structure DT (X : Cx) (e : Expr) (f : FT) : Prop where
  ex : ∃ t, PT X e t ∧ ∀ (B : Bs) (σ : St) (H Hf : Hp) (ρ : Rho) (d : Bool) (ρ' : Rho) (Q : Bool → Hp → Prop), Rel X.K B σ H Hf ρ → f ρ = some (d, ρ') →
    (∀ H' Hf', Rel X.K B σ H' Hf' ρ' → Same Hf Hf' → Q d H') → t σ H Q
def AVok (K : PySem.W.Frag) (σ : St) (Hf : Hp) (v : V) : AV → Prop
  | .d x => Rp K Hf v x
  | .ow i => σ[i]? = some (some v)
abbrev AVs (K : PySem.W.Frag) (σ : St) (Hf : Hp) : List V → List AV → Prop := Paired (AVok K σ Hf)
theorem AVs.mono {K : PySem.W.Frag} {σ : St} {Hf Hf' : Hp} (e : Same Hf Hf') {vs : List V} {avs : List AV} (h : AVs K σ Hf vs avs) : AVs K σ Hf' vs avs :=
  Paired.mapP h fun v a r => by
    cases a with
    | d x => exact Rp.mono e r
    | ow i => exact r
structure DA (X : Cx) (es : List Expr) (f : FA) : Prop where
  ex : ∃ t, PA X es t ∧ ∀ (B : Bs) (σ : St) (H Hf : Hp) (ρ : Rho) (d : List AV) (ρ' : Rho) (Q : List V → Hp → Prop), Rel X.K B σ H Hf ρ → f ρ = some (d, ρ') →
    (∀ vs H' Hf', Rel X.K B σ H' Hf' ρ' → Same Hf Hf' → AVs X.K σ Hf' vs d → Q vs H') → t σ H Q
def Fin (K : PySem.W.Frag) (B : Bs) (Hf : Hp) (D : Ends) : Out → Prop
  | .nx ρ => ∀ σ' H' Hf', Rel K B σ' H' Hf' ρ → Same Hf Hf' → D.nx σ' H'
  | .rt d ρ => ∀ σ' H' Hf' v, Rel K B σ' H' Hf' ρ → Same Hf Hf' → Rp K Hf' v d → D.rt v H'
  | .bk ρ => ∀ σ' H' Hf', Rel K B σ' H' Hf' ρ → Same Hf Hf' → D.bk σ' H'
  | .ct ρ => ∀ σ' H' Hf', Rel K B σ' H' Hf' ρ → Same Hf Hf' → D.ct σ' H'
structure DS (X : Cx) (st : Stmt) (f : FS) : Prop where
  ex : ∃ t, PS X st t ∧ ∀ (B : Bs), B.lf = true → ∀ (σ : St) (H Hf : Hp) (ρ : Rho) (o : Out) (D : Ends), Rel X.K B σ H Hf ρ → f ρ = some o → Fin X.K B Hf D o → t D σ H
structure DSs (X : Cx) (st : List Stmt) (f : FS) : Prop where
  ex : ∃ t, PSs X st t ∧ ∀ (B : Bs), B.lf = true → ∀ (σ : St) (H Hf : Hp) (ρ : Rho) (o : Out) (D : Ends), Rel X.K B σ H Hf ρ → f ρ = some o → Fin X.K B Hf D o → t D σ H
theorem Fin.mono {K : PySem.W.Frag} {B : Bs} {Hf Hf' : Hp} {D : Ends} {o : Out} (e : Same Hf Hf') (h : Fin K B Hf D o) : Fin K B Hf' D o := by
  cases o with
  | nx ρ => exact fun σ' H' Hf2 R s => h σ' H' Hf2 R (e.trans s)
  | rt d ρ => exact fun σ' H' Hf2 v R s r => h σ' H' Hf2 v R (e.trans s) r
  | bk ρ => exact fun σ' H' Hf2 R s => h σ' H' Hf2 R (e.trans s)
  | ct ρ => exact fun σ' H' Hf2 R s => h σ' H' Hf2 R (e.trans s)
section
variable {X : Cx}
/-! ### blocks -/
def fNil : FS := fun ρ => some (.nx ρ)
def fSeq (f g : FS) : FS := fun ρ => (f ρ).bind fun o => match o with
  | .nx ρ' => g ρ'
  | o => some o
theorem dss_nil : DSs X [] fNil := ⟨_, pss_nil, fun B lf σ H Hf ρ o D R e k => by
  cases e
  exact k σ H Hf R (Same.refl _)⟩
theorem dss_cons {st : Stmt} {sts : List Stmt} {f g : FS} (h1 : DS X st f) (h2 : DSs X sts g) : DSs X (st :: sts) (fSeq f g) := by
  obtain ⟨t, p, q⟩ := h1.ex
  obtain ⟨t2, p2, q2⟩ := h2.ex
  refine ⟨_, pss_cons p p2, fun B lf σ H Hf ρ o D R e k => ?_⟩
  unfold fSeq at e
  cases e1 : f ρ with
  | none => rw [e1] at e; cases e
  | some o1 =>
    rw [e1] at e
    refine q B lf σ H Hf ρ o1 _ R e1 ?_
    cases o1 with
    | nx ρ1 => exact fun σ' H' Hf' R' s => q2 B lf σ' H' Hf' ρ1 o D R' e (k.mono s)
    | rt d ρ1 => cases e; exact k
    | bk ρ1 => cases e; exact k
    | ct ρ1 => cases e; exact k
theorem dss_one {st : Stmt} {f : FS} (h1 : DS X st f) : DSs X [st] f := by
  obtain ⟨t, p, q⟩ := h1.ex
  exact ⟨t, pss_one p, q⟩
end
end Y
set_option Elab.async false
set_option linter.all false
set_option maxRecDepth 100000
set_option maxHeartbeats 4000000
set_option autoImplicit false
namespace Y
open PySem PySem.Spec L2
/-! ### operands: data, or an object of one's own by its slot -/
def mD : MO → PyData
  | .lst xs => .list xs
  | .dct kvs => .dict (kvs.map fun p => (keyD p.1, p.2))
def AV.get (ρ : Rho) : AV → Option PyData
  | .d x => some x
  | .ow i => match ρ[i]? with
    | some (.m o) => some (mD o)
    | some (.p o) => some (mD o)
    | _ => none
/-- at the top an object of one's own, within data -/
inductive RpO (K : PySem.W.Frag) (Hf H : Hp) : V → PyData → Prop
  | d {v : V} {x : PyData} : Rp K Hf v x → RpO K Hf H v x
  | o {a : Addr} {o : MO} : ObjR K Hf H a o → RpO K Hf H (.ref a) (mD o)
abbrev FO := Rho → Option (AV × Rho)
structure DO (X : Cx) (e : Expr) (f : FO) : Prop where
  ex : ∃ t, PE X e t ∧ ∀ (B : Bs) (σ : L2.St) (H Hf : Hp) (ρ : Rho) (d : AV) (ρ' : Rho) (Q : VK), Rel X.K B σ H Hf ρ → f ρ = some (d, ρ') →
    (∀ v H' Hf', Rel X.K B σ H' Hf' ρ' → Same Hf Hf' → AVok X.K σ Hf' v d → Q v H') → t σ H Q
theorem rp_kv {K : PySem.W.Frag} {H : Hp} : ∀ {vs : List (Key × V)} {ds : List (Key × PyData)}, RpK K H vs ds → RpKv K H vs (ds.map fun p => (keyD p.1, p.2))
  | _, _, .nil => .nil
  | _, _, .cons h t => .cons h (rp_kv t)
section
variable {K : PySem.W.Frag} {B : Bs} {σ σ' : L2.St} {H H' Hf Hf' : Hp} {ρ ρ' : Rho}
theorem av_get (R : Rel K B σ H Hf ρ) {v : V} {a : AV} {x : PyData} (h : AVok K σ Hf v a) (e : a.get ρ = some x) : RpO K Hf H v x := by
  cases a with
  | d y => cases e; exact .d h
  | ow i =>
    unfold AV.get at e
    dsimp only at e
    have go : ∀ s o, ρ[i]? = some s → s.obj? = some o → x = mD o → RpO K Hf H v x := fun s o e1 e2 e3 => by
      obtain ⟨a, h1, _, h3, _⟩ := R.own i s o e1 e2
      have h' : σ[i]? = some (some v) := h
      rw [h1] at h'
      cases h'
      rw [e3]
      exact .o h3
    cases e1 : ρ[i]? with
    | none => rw [e1] at e; cases e
    | some s =>
      rw [e1] at e
      cases s with
      | un => cases e
      | d y => cases e
      | m o => cases e; exact go _ o e1 rfl rfl
      | p o => cases e; exact go _ o e1 rfl rfl
      | scr ns => cases e
theorem RpO.rp (s : Same Hf H) {v : V} {x : PyData} (h : RpO K Hf H v x) : Rp K H v x := by
  cases h with
  | d r => exact r.mono s
  | @o a o r =>
    cases o with
    | lst xs => obtain ⟨vs, h1, h2⟩ := r; exact .lst h1 (h2.mono s)
    | dct kvs => obtain ⟨vs, h1, h2⟩ := r; exact .dct h1 (rp_kv (h2.mono s))
theorem RpO.list (s : Same Hf H) {v : V} {xs : List PyData} (h : RpO K Hf H v (.list xs)) : ∃ a vs, v = .ref a ∧ H a = some (.lst vs) ∧ RpAll K Hf vs xs := by
  generalize e : PyData.list xs = x at h
  cases h with
  | d r =>
    subst e
    cases r with
    | lst h1 h2 => exact ⟨_, _, rfl, s _ _ h1, h2⟩
  | @o a o r =>
    cases o with
    | lst ys =>
      obtain ⟨vs, h1, h2⟩ := r
      have e' : PyData.list xs = .list ys := e
      injection e' with e'
      subst e'
      exact ⟨_, _, rfl, h1, h2⟩
    | dct kvs => cases (show PyData.list xs = .dict _ from e)
theorem RpO.tup (s : Same Hf H) {v : V} {xs : List PyData} (h : RpO K Hf H v (.tuple xs)) : ∃ a vs, v = .ref a ∧ SqT K H a vs ∧ RpAll K Hf vs xs ∧ Rp K Hf v (.tuple xs) := by
  generalize e : PyData.tuple xs = x at h
  cases h with
  | d r =>
    subst e
    have r' := r
    cases r with
    | tup h1 h2 => exact ⟨_, _, rfl, sqT_mono s h1, h2, r'⟩
  | @o a o r =>
    cases o with
    | lst ys => cases (show PyData.tuple xs = .list _ from e)
    | dct kvs => cases (show PyData.tuple xs = .dict _ from e)
theorem RpO.flat {v : V} {x : PyData} (h : RpO K Hf H v x) (hx : (∀ xs, x ≠ .list xs) ∧ ∀ k, x ≠ .dict k) : Rp K Hf v x := by
  cases h with
  | d r => exact r
  | @o a o r =>
    cases o with
    | lst ys => exact absurd rfl (hx.1 ys)
    | dct kvs => exact absurd rfl (hx.2 _)
theorem RpO.int {v : V} {i : Int} (h : RpO K Hf H v (.int i)) : v = .int i := by
  cases h.flat ⟨(fun _ z => nomatch z), (fun _ z => nomatch z)⟩; rfl
theorem RpO.str {v : V} {i : Str} (h : RpO K Hf H v (.str i)) : v = .str i := by
  cases h.flat ⟨(fun _ z => nomatch z), (fun _ z => nomatch z)⟩; rfl
theorem RpO.bl {v : V} {i : Bool} (h : RpO K Hf H v (.bool i)) : v = .bl i := by
  cases h.flat ⟨(fun _ z => nomatch z), (fun _ z => nomatch z)⟩; rfl
theorem RpO.non {v : V} (h : RpO K Hf H v .none) : v = .non := by
  cases h.flat ⟨(fun _ z => nomatch z), (fun _ z => nomatch z)⟩; rfl
end
section
variable {X : Cx} {e a b c : Expr}
def oE (f : FE) : FO := fun ρ => (f ρ).map fun p => (.d p.1, p.2)
theorem do_of {f : FE} (h : DE X e f) : DO X e (oE f) := by
  obtain ⟨t, p, q⟩ := h.ex
  refine ⟨t, p, fun B σ H Hf ρ d ρ' Q R e k => ?_⟩
  unfold oE at e
  cases e1 : f ρ with
  | none => rw [e1] at e; cases e
  | some z =>
    rw [e1] at e
    cases e
    exact q B σ H Hf ρ z.1 z.2 Q R e1 k
/-- data of an operand: not of an object of one's own -/
def eO (f : FO) : FE := fun ρ => (f ρ).bind fun p => match p.1 with
  | .d x => some (x, p.2)
  | .ow _ => none
theorem de_of {f : FO} (h : DO X e f) : DE X e (eO f) := by
  obtain ⟨t, p, q⟩ := h.ex
  refine ⟨t, p, fun B σ H Hf ρ d ρ' Q R e k => ?_⟩
  unfold eO at e
  cases e1 : f ρ with
  | none => rw [e1] at e; cases e
  | some z =>
    rw [e1] at e
    obtain ⟨z1, z2⟩ := z
    cases z1 with
    | d x => cases e; exact q B σ H Hf ρ _ _ Q R e1 k
    | ow i => cases e
/-! ### names, constants -/
def fVar (i : Nat) : FO := fun ρ => match ρ[i]? with
  | some (.d x) => some (.d x, ρ)
  | some (.m _) => some (.ow i, ρ)
  | some (.p _) => some (.ow i, ρ)
  | some (.scr _) => some (.ow i, ρ)
  | _ => none
theorem do_var (i : Nat) {x : Str} {pos : Pos} (h : PE X (.Name x pos) (tVar i)) : DO X (.Name x pos) (fVar i) := by
  refine ⟨tVar i, h, fun B σ H Hf ρ d ρ' Q R e k => ?_⟩
  unfold fVar at e
  cases e1 : ρ[i]? with
  | none => rw [e1] at e; cases e
  | some s =>
    rw [e1] at e
    cases s with
    | un => cases e
    | scr ns =>
      cases e
      obtain ⟨a, h1, h2⟩ := R.scr i _ e1
      exact ⟨_, h1, k _ H Hf R (Same.refl _) h1⟩
    | d y =>
      cases e
      obtain ⟨v, h1, h2⟩ := R.dat i _ e1
      exact ⟨v, h1, k v H Hf R (Same.refl _) h2⟩
    | m o =>
      cases e
      obtain ⟨a, h1, h2⟩ := R.own i _ o e1 rfl
      exact ⟨_, h1, k _ H Hf R (Same.refl _) h1⟩
    | p o =>
      cases e
      obtain ⟨a, h1, h2⟩ := R.own i _ o e1 rfl
      exact ⟨_, h1, k _ H Hf R (Same.refl _) h1⟩
theorem ov (i : Nat) {x : Str} {pos : Pos} (hN : X.N[i]? = some x := by rfl) (hv : Vis X.env.scope x := by first | exact Or.inl rfl | exact Or.inr (Or.inl rfl) | exact Or.inr (Or.inr rfl)) (hd : (x == ("__debug__" : Str)) = false := by decide)
    (hcd : (x == ("__classdict__" : Str)) = false := by decide) : DO X (.Name x pos) (fVar i) := do_var i (pe_var hN hv hd hcd)
def fC (d : PyData) : FE := fun ρ => some (d, ρ)
theorem de_tc {v : V} {d : PyData} (h : PE X e (tC v)) (r : ∀ H, Rp X.K H v d) : DE X e (fC d) := ⟨_, h, fun B σ H Hf ρ d' ρ' Q R e k => by
  cases e
  exact k v H Hf R (Same.refl _) (r Hf)⟩
theorem de_int {i : Int} {j pos} : DE X (.Constant (.int i) j pos) (fC (.int i)) := de_tc pe_int fun _ => .int i
theorem de_bl {i : Bool} {j pos} : DE X (.Constant (.bool i) j pos) (fC (.bool i)) := de_tc pe_bl fun _ => .bl i
theorem de_non {j pos} : DE X (.Constant .none j pos) (fC .none) := de_tc pe_non fun _ => .non
theorem de_str {x : Str} {j pos} : DE X (.Constant (.str x) j pos) (fC (.str x)) := de_tc pe_str fun _ => .str x
/-! ### two operands -/
structure OpD (X : Cx) (f : Value → Value → Sem Value) (g : PyData → PyData → Option PyData) : Prop where
  ex : ∃ r : R2, OpR X f r ∧ ∀ (B : Bs) (σ : L2.St) (H Hf : Hp) (ρ : Rho) (x y : V) (dx dy z : PyData) (Q : VK), Rel X.K B σ H Hf ρ → RpO X.K Hf H x dx → RpO X.K Hf H y dy → g dx dy = some z →
    (∀ v H' Hf', Rel X.K B σ H' Hf' ρ → Same Hf Hf' → Rp X.K Hf' v z → Q v H') → r x y H Q
def f2 (g : PyData → PyData → Option PyData) (fa fb : FO) : FE := fun ρ => (fa ρ).bind fun p => (fb p.2).bind fun q => (p.1.get q.2).bind fun x => (q.1.get q.2).bind fun y => (g x y).map fun z => (z, q.2)
theorem f2_some {g : PyData → PyData → Option PyData} {fa fb : FO} {ρ ρ' : Rho} {z : PyData} (e : f2 g fa fb ρ = some (z, ρ')) :
    ∃ a ρ1 b x y, fa ρ = some (a, ρ1) ∧ fb ρ1 = some (b, ρ') ∧ a.get ρ' = some x ∧ b.get ρ' = some y ∧ g x y = some z := by
  unfold f2 at e
  cases e1 : fa ρ with
  | none => rw [e1] at e; cases e
  | some p =>
    rw [e1] at e
    obtain ⟨a, ρ1⟩ := p
    cases e2 : fb ρ1 with
    | none => simp [e2] at e
    | some q =>
      obtain ⟨b, ρ2⟩ := q
      cases e3 : a.get ρ2 with
      | none => simp [e2, e3] at e
      | some x =>
        cases e4 : b.get ρ2 with
        | none => simp [e2, e3, e4] at e
        | some y =>
          cases e5 : g x y with
          | none => simp [e2, e3, e4, e5] at e
          | some z' =>
            simp [e2, e3, e4, e5] at e
            obtain ⟨rfl, rfl⟩ := e
            exact ⟨a, ρ1, b, x, y, rfl, e2, e3, e4, e5⟩
theorem AVok.mono {K : PySem.W.Frag} {σ : L2.St} {Hf Hf' : Hp} (s : Same Hf Hf') {v : V} {a : AV} (h : AVok K σ Hf v a) : AVok K σ Hf' v a := by
  cases a with
  | d x => exact Rp.mono s h
  | ow i => exact h
theorem two {ta tb : TE} {fa fb : FO} (qa : ∀ (B : Bs) (σ : L2.St) (H Hf : Hp) (ρ : Rho) (d : AV) (ρ' : Rho) (Q : VK), Rel X.K B σ H Hf ρ → fa ρ = some (d, ρ') → (∀ v H' Hf', Rel X.K B σ H' Hf' ρ' → Same Hf Hf' → AVok X.K σ Hf' v d → Q v H') → ta σ H Q)
    (qb : ∀ (B : Bs) (σ : L2.St) (H Hf : Hp) (ρ : Rho) (d : AV) (ρ' : Rho) (Q : VK), Rel X.K B σ H Hf ρ → fb ρ = some (d, ρ') → (∀ v H' Hf', Rel X.K B σ H' Hf' ρ' → Same Hf Hf' → AVok X.K σ Hf' v d → Q v H') → tb σ H Q)
    {B : Bs} {σ : L2.St} {H Hf : Hp} {ρ ρ1 ρ2 : Rho} {p q : AV} {R : V → V → Hp → Prop} (r : Rel X.K B σ H Hf ρ) (e1 : fa ρ = some (p, ρ1)) (e2 : fb ρ1 = some (q, ρ2))
    (k : ∀ x y H' Hf', Rel X.K B σ H' Hf' ρ2 → Same Hf Hf' → AVok X.K σ Hf' x p → AVok X.K σ Hf' y q → R x y H') : ta σ H fun x H1 => tb σ H1 fun y H2 => R x y H2 :=
  qa B σ H Hf ρ p ρ1 _ r e1 fun x H1 Hf1 r1 s1 o1 => qb B σ H1 Hf1 ρ1 q ρ2 _ r1 e2 fun y H2 Hf2 r2 s2 o2 => k x y H2 Hf2 r2 (s1.trans s2) (o1.mono s2) o2
theorem de_op {op : Operator} {g : PyData → PyData → Option PyData} {fa fb : FO} {pos : Pos} (ho : OpD X (binaryOp op) g) (ha : DO X a fa) (hb : DO X b fb) : DE X (.BinOp a op b pos) (f2 g fa fb) := by
  obtain ⟨r, pr, qr⟩ := ho.ex
  obtain ⟨ta, pa, qa⟩ := ha.ex
  obtain ⟨tb, pb, qb⟩ := hb.ex
  refine ⟨_, pe_op pr pa pb, fun B σ H Hf ρ d ρ' Q R e k => ?_⟩
  obtain ⟨p, ρ1, q, x, y, e1, e2, e3, e4, e5⟩ := f2_some e
  exact two qa qb (R := fun x y H2 => r x y H2 Q) R e1 e2 fun vx vy H2 Hf2 R2 s o1 o2 => qr B σ H2 Hf2 ρ' vx vy x y d Q R2 (av_get R2 o1 e3) (av_get R2 o2 e4) e5 fun v H3 Hf3 R3 s3 r3 => k v H3 Hf3 R3 (s.trans s3) r3
theorem de_cmp {op : CmpOp} {g : PyData → PyData → Option PyData} {fa fb : FO} {pos : Pos} (ho : OpD X (compareOp op) g) (ha : DO X a fa) (hb : DO X b fb) (hm : behindInMarks op b = false) : DE X (.Compare a [op] [b] pos) (f2 g fa fb) := by
  obtain ⟨r, pr, qr⟩ := ho.ex
  obtain ⟨ta, pa, qa⟩ := ha.ex
  obtain ⟨tb, pb, qb⟩ := hb.ex
  refine ⟨_, pe_cmpR pr pa pb hm, fun B σ H Hf ρ d ρ' Q R e k => ?_⟩
  obtain ⟨p, ρ1, q, x, y, e1, e2, e3, e4, e5⟩ := f2_some e
  exact two qa qb (R := fun x y H2 => r x y H2 Q) R e1 e2 fun vx vy H2 Hf2 R2 s o1 o2 => qr B σ H2 Hf2 ρ' vx vy x y d Q R2 (av_get R2 o1 e3) (av_get R2 o2 e4) e5 fun v H3 Hf3 R3 s3 r3 => k v H3 Hf3 R3 (s.trans s3) r3
/-- a bool of data -/
def tB : PyData → Option Bool
  | .bool b => some b
  | _ => none
def fT2 (f : FE) : FT := fun ρ => (f ρ).bind fun p => (tB p.1).map fun b => (b, p.2)
theorem fT2_some {f : FE} {ρ ρ' : Rho} {k : Bool} (e : fT2 f ρ = some (k, ρ')) : f ρ = some (.bool k, ρ') := by
  unfold fT2 at e
  cases e1 : f ρ with
  | none => rw [e1] at e; cases e
  | some p =>
    obtain ⟨x, ρ1⟩ := p
    cases x <;> simp [e1, tB] at e
    obtain ⟨rfl, rfl⟩ := e
    rfl
theorem dt_cmp {op : CmpOp} {g : PyData → PyData → Option PyData} {fa fb : FO} {pos : Pos} (ho : OpD X (compareOp op) g) (ha : DO X a fa) (hb : DO X b fb) (hm : behindInMarks op b = false) : DT X (.Compare a [op] [b] pos) (fT2 (f2 g fa fb)) := by
  obtain ⟨r, pr, qr⟩ := ho.ex
  obtain ⟨ta, pa, qa⟩ := ha.ex
  obtain ⟨tb, pb, qb⟩ := hb.ex
  refine ⟨_, pt_cmpR pr pa pb hm, fun B σ H Hf ρ d ρ' Q R e k => ?_⟩
  obtain ⟨p, ρ1, q, x, y, e1, e2, e3, e4, e5⟩ := f2_some (fT2_some e)
  exact two qa qb (R := fun x y H2 => r x y H2 fun x H' => ∃ k, x = .bl k ∧ Q k H') R e1 e2 fun vx vy H2 Hf2 R2 s o1 o2 => qr B σ H2 Hf2 ρ' vx vy x y _ _ R2 (av_get R2 o1 e3) (av_get R2 o2 e4) e5 fun v H3 Hf3 R3 s3 r3 => by
    cases r3
    exact ⟨_, rfl, k H3 Hf3 R3 (s.trans s3)⟩
theorem dt_val {f : FE} (h : DE X e f) (he : ∀ whole, isTrue e X.env whole = (do let v ← whole; standAt e.pos; holding [v] (truthy v)) := by intro _; rfl) : DT X e (fT2 f) := by
  obtain ⟨t, p, q⟩ := h.ex
  refine ⟨_, pt_val p he, fun B σ H Hf ρ d ρ' Q R e k => ?_⟩
  exact q B σ H Hf ρ _ ρ' _ R (fT2_some e) fun v H' Hf' R' s r => by
    cases r
    exact ⟨_, rfl, k H' Hf' R' s⟩
end
end Y
set_option Elab.async false
set_option linter.all false
set_option maxRecDepth 100000
set_option maxHeartbeats 4000000
set_option autoImplicit false
namespace Y
open PySem PySem.Spec L2
/-! ### operators -/
def gAdd : PyData → PyData → Option PyData
  | .int a, .int b => some (.int (a + b))
  | .str a, .str b => if a.length + b.length ≤ sizeLine then some (.str (a ++ b)) else none
  | .tuple a, .tuple b => if a.length + b.length ≤ sizeLine then some (.tuple (a ++ b)) else none
  | .list a, .list b => if a.length + b.length ≤ sizeLine then some (.list (a ++ b)) else none
  | _, _ => none
def gSub : PyData → PyData → Option PyData
  | .int a, .int b => some (.int (a - b))
  | _, _ => none
def gMul : PyData → PyData → Option PyData
  | .int a, .int b => if (-(2 ^ 64) < a ∧ a < 2 ^ 64) ∨ (-(2 ^ 64) < b ∧ b < 2 ^ 64) then some (.int (a * b)) else none
  | _, _ => none
def gMod : PyData → PyData → Option PyData
  | .int a, .int b => if 0 < b then some (.int (a % b)) else none
  | _, _ => none
def gFdiv : PyData → PyData → Option PyData
  | .int a, .int b => if 0 < b ∧ b < 1073741824 then some (.int (a / b)) else none
  | _, _ => none
def gPow : PyData → PyData → Option PyData
  | .int a, .int b => if 0 ≤ b ∧ b ≤ 1000000 ∧ a.natAbs < 2 ^ 64 then some (.int (a ^ b.toNat)) else none
  | _, _ => none
section
variable {X : Cx}
theorem opd_int0 {f : Value → Value → Sem Value} {g : PyData → PyData → Option PyData} {h : Int → Int → V} (o : OpR X f (rI0 h)) (hg : ∀ x y z, g x y = some z → ∃ i j, x = .int i ∧ y = .int j ∧ ∀ H, Rp X.K H (h i j) z) : OpD X f g :=
  ⟨_, o, fun B σ H Hf ρ x y dx dy z Q R rx ry e k => by
    obtain ⟨i, j, rfl, rfl, r⟩ := hg _ _ _ e
    exact ⟨i, j, rx.int, ry.int, k _ H Hf R (Same.refl _) (r Hf)⟩⟩
theorem opd_int {f : Value → Value → Sem Value} {g : PyData → PyData → Option PyData} {C : Int → Int → Prop} {h : Int → Int → V} (o : OpR X f (rI C h)) (hg : ∀ x y z, g x y = some z → ∃ i j, x = .int i ∧ y = .int j ∧ C i j ∧ ∀ H, Rp X.K H (h i j) z) : OpD X f g :=
  ⟨_, o, fun B σ H Hf ρ x y dx dy z Q R rx ry e k => by
    obtain ⟨i, j, rfl, rfl, c, r⟩ := hg _ _ _ e
    exact ⟨i, j, rx.int, ry.int, c, k _ H Hf R (Same.refl _) (r Hf)⟩⟩
theorem od_sub : OpD X (binaryOp .Sub) gSub := opd_int0 op_sub fun x y z e => by
  unfold gSub at e
  split at e
  · cases e; exact ⟨_, _, rfl, rfl, fun _ => .int _⟩
  · cases e
theorem od_mul : OpD X (binaryOp .Mult) gMul := opd_int op_mul fun x y z e => by
  unfold gMul at e
  split at e
  · split at e
    · cases e; exact ⟨_, _, rfl, rfl, by assumption, fun _ => .int _⟩
    · cases e
  · cases e
theorem od_mod : OpD X (binaryOp .Mod) gMod := opd_int op_mod fun x y z e => by
  unfold gMod at e
  split at e
  · split at e
    · cases e; exact ⟨_, _, rfl, rfl, by assumption, fun _ => .int _⟩
    · cases e
  · cases e
theorem od_fdiv : OpD X (binaryOp .FloorDiv) gFdiv := opd_int op_fdiv fun x y z e => by
  unfold gFdiv at e
  split at e
  · split at e
    · cases e; exact ⟨_, _, rfl, rfl, by assumption, fun _ => .int _⟩
    · cases e
  · cases e
theorem od_pow : OpD X (binaryOp .Pow) gPow := opd_int op_pow fun x y z e => by
  unfold gPow at e
  split at e
  · split at e
    · cases e; exact ⟨_, _, rfl, rfl, by assumption, fun _ => .int _⟩
    · cases e
  · cases e
theorem od_add : OpD X (binaryOp .Add) gAdd := by
  refine ⟨_, op_add.or (op_add_str.or (op_catA.or op_cat)), fun B σ H Hf ρ x y dx dy z Q R rx ry e k => ?_⟩
  unfold gAdd at e
  split at e
  · cases e
    exact .inl ⟨_, _, rx.int, ry.int, k _ H Hf R (Same.refl _) (.int _)⟩
  · split at e
    · cases e
      exact .inr (.inl ⟨_, _, rx.str, ry.str, by assumption, k _ H Hf R (Same.refl _) (.str _)⟩)
    · cases e
  · split at e
    · rename_i a b hz
      cases e
      obtain ⟨p, vs, rfl, h1, h2, h3⟩ := rx.tup R.fz
      obtain ⟨q, ws, rfl, h4, h5, h6⟩ := ry.tup R.fz
      refine .inr (.inr (.inl ⟨p, q, vs, ws, rfl, rfl, h1, h4, by rw [h2.length, h5.length]; exact hz, fun n => ?_, fun n m => ?_, fun n m t ht => ?_⟩))
      · subst n
        cases h2
        exact k _ H Hf R (Same.refl _) h6
      · subst m
        cases h5
        rw [List.append_nil] at k
        exact k _ H Hf R (Same.refl _) h3
      · have sf : Same Hf (upd Hf t (.tup (vs ++ ws))) := same_upd (R.newF ht)
        exact k _ _ _ (R.froze ht _) sf (.tup (.inl (.inl upd_same)) ((h2.append h5).mono sf))
    · cases e
  · split at e
    · rename_i a b hz
      cases e
      obtain ⟨p, vs, rfl, h1, h2⟩ := rx.list R.fz
      obtain ⟨q, ws, rfl, h4, h5⟩ := ry.list R.fz
      refine .inr (.inr (.inr ⟨p, q, vs, ws, rfl, rfl, h1, h4, by rw [h2.length, h5.length]; exact hz, fun t ht => ?_⟩))
      have sf : Same Hf (upd Hf t (.lst (vs ++ ws))) := same_upd (R.newF ht)
      exact k _ _ _ (R.froze ht _) sf (.lst upd_same ((h2.append h5).mono sf))
    · cases e
  · cases e
/-! ### comparisons -/
def scalD : PyData → Bool
  | .none => true
  | .bool _ => true
  | .int _ => true
  | .str _ => true
  | _ => false
/-- == : scalars of one sort, or shaped data -/
def gEq (x y : PyData) : Option PyData := if SeqAt.shaped x = true ∧ SeqAt.shaped y = true then some (.bool (PyData.eqv x y)) else none
def gNe (x y : PyData) : Option PyData := if SeqAt.shaped x = true ∧ SeqAt.shaped y = true then some (.bool (!PyData.eqv x y)) else none
mutual
theorem rp_dp {K : PySem.W.Frag} {H : Hp} : ∀ {d : PyData} {v : V}, d.canLay0 = true → Rp K H v d → Dp K H v d
  | .none, _, _, .non => .non
  | .bool _, _, _, .bl b => .bl b
  | .int _, _, _, .int i => .int i
  | .str _, _, _, .str x => .str x
  | .list ds, _, c, .lst h a => .lst (SqL.of h) (rp_dps (by simpa [PyData.canLay0] using c) a)
  | .tuple ds, _, c, .tup h a => .tup h (rp_dps (by simpa [PyData.canLay0] using c) a)
  | .dict _, _, c, .dct h a => by simp [PyData.canLay0] at c
theorem rp_dps {K : PySem.W.Frag} {H : Hp} : ∀ {ds : List PyData} {vs : List V}, PyData.canLayAll0 ds = true → RpAll K H vs ds → DpAll K H vs ds
  | [], _, _, .nil => .nil
  | _ :: _, _, c, .cons h t => by
    simp only [PyData.canLayAll0, Bool.and_eq_true] at c
    exact .cons (rp_dp c.1 h) (rp_dps c.2 t)
end
theorem od_eq (hu : X.A.units + 64 < cLine) : OpD X (compareOp .Eq) gEq := by
  refine ⟨_, op_eqD hu, fun B σ H Hf ρ x y dx dy z Q R rx ry e k => ?_⟩
  unfold gEq at e
  split at e
  · rename_i hs
    cases e
    exact ⟨dx, dy, rp_dp (SeqAt.canLay_of_shaped hs.1) (rx.rp R.fz), rp_dp (SeqAt.canLay_of_shaped hs.2) (ry.rp R.fz), hs.1, hs.2, k _ H Hf R (Same.refl _) (.bl _)⟩
  · cases e
theorem od_ne (hu : X.A.units + 64 < cLine) : OpD X (compareOp .NotEq) gNe := by
  refine ⟨_, op_neD hu, fun B σ H Hf ρ x y dx dy z Q R rx ry e k => ?_⟩
  unfold gNe at e
  split at e
  · rename_i hs
    cases e
    exact ⟨dx, dy, rp_dp (SeqAt.canLay_of_shaped hs.1) (rx.rp R.fz), rp_dp (SeqAt.canLay_of_shaped hs.2) (ry.rp R.fz), hs.1, hs.2, k _ H Hf R (Same.refl _) (.bl _)⟩
  · cases e
def strLt (a b : Str) : Bool := decide (a.cps.toList < b.cps.toList)
def gLt : PyData → PyData → Option PyData
  | .int a, .int b => some (.bool (decide (a < b)))
  | .str a, .str b => some (.bool (strLt a b))
  | _, _ => none
def gLe : PyData → PyData → Option PyData
  | .int a, .int b => some (.bool (decide (a ≤ b)))
  | .str a, .str b => some (.bool (!strLt b a))
  | _, _ => none
def gGt : PyData → PyData → Option PyData
  | .int a, .int b => some (.bool (decide (b < a)))
  | .str a, .str b => some (.bool (strLt b a))
  | _, _ => none
def gGe : PyData → PyData → Option PyData
  | .int a, .int b => some (.bool (decide (b ≤ a)))
  | .str a, .str b => some (.bool (!strLt a b))
  | _, _ => none
theorem od_lt : OpD X (compareOp .Lt) gLt := by
  refine ⟨_, op_lt.or op_lt_str, fun B σ H Hf ρ x y dx dy z Q R rx ry e k => ?_⟩
  unfold gLt at e
  split at e
  · cases e; exact .inl ⟨_, _, rx.int, ry.int, k _ H Hf R (Same.refl _) (.bl _)⟩
  · cases e; exact .inr ⟨_, _, rx.str, ry.str, k _ H Hf R (Same.refl _) (.bl _)⟩
  · cases e
theorem od_le : OpD X (compareOp .LtE) gLe := by
  refine ⟨_, op_le.or op_le_str, fun B σ H Hf ρ x y dx dy z Q R rx ry e k => ?_⟩
  unfold gLe at e
  split at e
  · cases e; exact .inl ⟨_, _, rx.int, ry.int, k _ H Hf R (Same.refl _) (.bl _)⟩
  · cases e; exact .inr ⟨_, _, rx.str, ry.str, k _ H Hf R (Same.refl _) (.bl _)⟩
  · cases e
theorem od_gt : OpD X (compareOp .Gt) gGt := by
  refine ⟨_, op_gt.or op_gt_str, fun B σ H Hf ρ x y dx dy z Q R rx ry e k => ?_⟩
  unfold gGt at e
  split at e
  · cases e; exact .inl ⟨_, _, rx.int, ry.int, k _ H Hf R (Same.refl _) (.bl _)⟩
  · cases e; exact .inr ⟨_, _, rx.str, ry.str, k _ H Hf R (Same.refl _) (.bl _)⟩
  · cases e
theorem od_ge : OpD X (compareOp .GtE) gGe := by
  refine ⟨_, op_ge.or op_ge_str, fun B σ H Hf ρ x y dx dy z Q R rx ry e k => ?_⟩
  unfold gGe at e
  split at e
  · cases e; exact .inl ⟨_, _, rx.int, ry.int, k _ H Hf R (Same.refl _) (.bl _)⟩
  · cases e; exact .inr ⟨_, _, rx.str, ry.str, k _ H Hf R (Same.refl _) (.bl _)⟩
  · cases e
def isN : PyData → Bool
  | .none => true
  | _ => false
def gIs (x y : PyData) : Option PyData := match y with
  | .none => some (.bool (isN x))
  | _ => none
def gIsNot (x y : PyData) : Option PyData := match y with
  | .none => some (.bool (!isN x))
  | _ => none
theorem rpo_non {K : PySem.W.Frag} {Hf H : Hp} {v : V} {x : PyData} (h : RpO K Hf H v x) : decide (v = .non) = isN x := by
  cases h with
  | d r => cases r <;> rfl
  | @o a o r => cases o <;> rfl
theorem od_is : OpD X (compareOp .Is) gIs := by
  refine ⟨_, op_isN, fun B σ H Hf ρ x y dx dy z Q R rx ry e k => ?_⟩
  unfold gIs at e
  split at e
  · cases e
    refine ⟨ry.non, ?_⟩
    rw [rpo_non rx]
    exact k _ H Hf R (Same.refl _) (.bl _)
  · cases e
theorem od_isnot : OpD X (compareOp .IsNot) gIsNot := by
  refine ⟨_, op_notN, fun B σ H Hf ρ x y dx dy z Q R rx ry e k => ?_⟩
  unfold gIsNot at e
  split at e
  · cases e
    refine ⟨ry.non, ?_⟩
    rw [rpo_non rx]
    exact k _ H Hf R (Same.refl _) (.bl _)
  · cases e
/-! in, not in -/
def keyOf : PyData → Option Key
  | .int i => some (.inl i)
  | .str s => some (.inr s)
  | _ => none
def flatD : PyData → Bool
  | .none => true
  | .bool _ => true
  | .int _ => true
  | .str _ => true
  | _ => false
def gInB (x y : PyData) : Option Bool := match y with
  | .list ys => if flatD x = true ∧ ys.all flatD = true then some (ys.any fun z => PyData.eqv z x) else if SeqAt.shaped x = true ∧ SeqAt.shaped (.list ys) = true then some (ys.any fun z => PyData.eqv z x) else none
  | .tuple ys => if flatD x = true ∧ ys.all flatD = true then some (ys.any fun z => PyData.eqv z x) else none
  | .dict kvs => if dOk kvs = true then match x with
    | .int i => some (kvs.any fun p => PyData.eqv p.1 (.int i))
    | .str s => some (kvs.any fun p => PyData.eqv p.1 (.str s))
    | _ => none
    else none
  | .str t => match x with
    | .str s => match s.cps.toList with
      | [c] => some (decide (c ∈ t.cps.toList))
      | _ => none
    | _ => none
  | _ => none
def gIn (x y : PyData) : Option PyData := (gInB x y).map .bool
def gNotIn (x y : PyData) : Option PyData := (gInB x y).map fun b => .bool (!b)
theorem flat_rp {K : PySem.W.Frag} {H : Hp} {v : V} {d : PyData} (h : Rp K H v d) (f : flatD d = true) : flatV v = true := by
  cases h <;> first | rfl | cases f
theorem flat_rps {K : PySem.W.Frag} {H : Hp} : ∀ {vs : List V} {ds : List PyData}, RpAll K H vs ds → ds.all flatD = true → vs.all flatV = true
  | _, _, .nil, _ => rfl
  | _, _, .cons h t, f => by
    rw [List.all_cons, Bool.and_eq_true] at f
    rw [List.all_cons, Bool.and_eq_true]
    exact ⟨flat_rp h f.1, flat_rps t f.2⟩
theorem eqv_flat {K : PySem.W.Frag} {H : Hp} {v w : V} {d e : PyData} (h : Rp K H v d) (h' : Rp K H w e) (f : flatD d = true) (f' : flatD e = true) : eqV v w = PyData.eqv d e := by
  cases h <;> cases h' <;> first | rfl | (simp [eqV, PyData.eqv]; done) | (exact absurd f (by simp [flatD])) | (exact absurd f' (by simp [flatD]))
theorem any_flat {K : PySem.W.Frag} {H : Hp} {w : V} {e : PyData} (h' : Rp K H w e) (f' : flatD e = true) : ∀ {vs : List V} {ds : List PyData}, RpAll K H vs ds → ds.all flatD = true → inV w vs = ds.any fun z => PyData.eqv z e
  | _, _, .nil, _ => rfl
  | _, _, .cons h t, f => by
    rw [List.all_cons, Bool.and_eq_true] at f
    unfold inV
    rw [List.any_cons, List.any_cons, eqv_flat h h' f.1 f']
    exact congrArg _ (any_flat h' f' t f.2)
theorem key_kv {K : PySem.W.Frag} {H : Hp} (k : Key) : ∀ {vs : List (Key × V)} {ds : List (PyData × PyData)}, RpKv K H vs ds → (valV vs k).isSome = ds.any fun p => PyData.eqv p.1 (keyD k)
  | _, _, .nil => rfl
  | _, _, .cons (k := j) h t => by
    rw [List.any_cons, ← key_kv k t]
    by_cases e : j = k
    · rw [valV_pos e]
      subst e
      cases j <;> simp [keyD, PyData.eqv]
    · rw [valV_neg e]
      have : PyData.eqv (keyD j) (keyD k) = false := by
        cases j <;> cases k <;> simp [keyD, PyData.eqv] <;> (try intro z; subst z; exact e rfl)
      rw [this]
      rfl
end
end Y
set_option Elab.async false
set_option linter.all false
set_option maxRecDepth 100000
set_option maxHeartbeats 4000000
set_option autoImplicit false
namespace Y
open PySem PySem.Spec L2
section
variable {X : Cx} {e a b c : Expr}
theorem str_one {s : Str} {c : Nat} (h : s.cps.toList = [c]) : s = ⟨#[c]⟩ := by
  obtain ⟨a⟩ := s
  have : a = #[c] := by
    apply Array.ext'
    simpa using h
  rw [this]
theorem od_in0 (hu : X.A.units + 65 < cLine) : ∃ r : R2, OpR X (compareOp .In) r ∧ ∀ (B : Bs) (σ : L2.St) (H Hf : Hp) (ρ : Rho) (x y : V) (dx dy : PyData) (z : Bool) (Q : VK), Rel X.K B σ H Hf ρ → RpO X.K Hf H x dx → RpO X.K Hf H y dy → gInB dx dy = some z → Q (.bl z) H → r x y H Q := by
  have o4 : OpR X (compareOp .In) (fun y x H Q => ∃ a o, x = .ref a ∧ DGet H a y o ∧ Q (.bl o.isSome) H) := by
    intro pins s σ H x y v u Q I rx ry h
    obtain ⟨a, o, rfl, g, q⟩ := h
    cases ry
    exact d_in (by omega) I g rx fun s3 I3 => ⟨.bl o.isSome, H, I3, rfl, q⟩
  refine ⟨_, op_in_seq.or ((op_inD hu).or (o4.or op_in_sign)), fun B σ H Hf ρ x y dx dy z Q R rx ry e k => ?_⟩
  unfold gInB at e
  split at e
  · rename_i ys
    split at e
    · rename_i hf
      cases e
      obtain ⟨p, vs, rfl, h1, h2⟩ := ry.list R.fz
      have rx' := rx.rp R.fz
      refine .inl ⟨p, vs, rfl, .inl (SqL.of h1), flat_rp rx' hf.1, flat_rps h2 hf.2, ?_⟩
      rw [if_neg Bool.false_ne_true, any_flat rx' hf.1 (h2.mono R.fz) hf.2]
      exact k
    · split at e
      · rename_i hs
        cases e
        exact .inr (.inl ⟨dx, ys, rp_dp (SeqAt.canLay_of_shaped hs.1) (rx.rp R.fz), rp_dp (SeqAt.canLay_of_shaped hs.2) (ry.rp R.fz), hs.1, hs.2, k⟩)
      · cases e
  · rename_i ys
    split at e
    · rename_i hf
      cases e
      obtain ⟨p, vs, rfl, h1, h2, _⟩ := ry.tup R.fz
      have rx' := rx.rp R.fz
      refine .inl ⟨p, vs, rfl, .inr h1, flat_rp rx' hf.1, flat_rps h2 hf.2, ?_⟩
      rw [if_neg Bool.false_ne_true, any_flat rx' hf.1 (h2.mono R.fz) hf.2]
      exact k
    · cases e
  · rename_i kvs
    have ry' := ry.rp R.fz
    split at e
    case isFalse => cases e
    rename_i hk
    generalize ek : PyData.dict kvs = dd at ry'
    cases ry' with
    | ex0 _ => injection ek with ek; subst ek; cases hk
    | exc _ _ _ => injection ek with ek; subst ek; cases hk
    | dct h1 h2 =>
      injection ek with ek
      subst ek
      split at e
      · cases e
        cases rx.int
        refine .inr (.inr (.inl ⟨_, _, rfl, DGet.k (k := Sum.inl _) h1, ?_⟩))
        rw [key_kv _ h2]
        exact k
      · cases e
        cases rx.str
        refine .inr (.inr (.inl ⟨_, _, rfl, DGet.k (k := Sum.inr _) h1, ?_⟩))
        rw [key_kv _ h2]
        exact k
      · cases e
    | _ => cases ek
  · rename_i t
    split at e
    · rename_i s
      split at e
      · rename_i c hc
        cases e
        cases ry.str
        cases rx.str
        exact .inr (.inr (.inr ⟨c, t, by rw [str_one hc], rfl, k⟩))
      · cases e
    · cases e
  · cases e
theorem od_in (hu : X.A.units + 65 < cLine) : OpD X (compareOp .In) gIn := by
  obtain ⟨r, h1, h2⟩ := od_in0 (X := X) hu
  refine ⟨r, h1, fun B σ H Hf ρ x y dx dy z Q R rx ry e k => ?_⟩
  unfold gIn at e
  cases e1 : gInB dx dy with
  | none => rw [e1] at e; cases e
  | some q =>
    rw [e1] at e
    cases e
    exact h2 B σ H Hf ρ x y dx dy q Q R rx ry e1 (k _ H Hf R (Same.refl _) (.bl _))
theorem od_nin0 (hu : X.A.units + 65 < cLine) : ∃ r : R2, OpR X (compareOp .NotIn) r ∧ ∀ (B : Bs) (σ : L2.St) (H Hf : Hp) (ρ : Rho) (x y : V) (dx dy : PyData) (z : Bool) (Q : VK), Rel X.K B σ H Hf ρ → RpO X.K Hf H x dx → RpO X.K Hf H y dy → gInB dx dy = some z → Q (.bl (!z)) H → r x y H Q := by
  have o4 : OpR X (compareOp .NotIn) (fun y x H Q => ∃ a o, x = .ref a ∧ DGet H a y o ∧ Q (.bl (!o.isSome)) H) := by
    intro pins s σ H x y v u Q I rx ry h
    obtain ⟨a, o, rfl, g, q⟩ := h
    cases ry
    exact d_notIn (by omega) I g rx fun s3 I3 => ⟨.bl (!o.isSome), H, I3, rfl, q⟩
  refine ⟨_, op_notIn_seq.or ((op_notInD hu).or (o4.or op_notIn_sign)), fun B σ H Hf ρ x y dx dy z Q R rx ry e k => ?_⟩
  unfold gInB at e
  split at e
  · rename_i ys
    split at e
    · rename_i hf
      cases e
      obtain ⟨p, vs, rfl, h1, h2⟩ := ry.list R.fz
      have rx' := rx.rp R.fz
      refine .inl ⟨p, vs, rfl, .inl (SqL.of h1), flat_rp rx' hf.1, flat_rps h2 hf.2, ?_⟩
      rw [if_pos rfl, any_flat rx' hf.1 (h2.mono R.fz) hf.2]
      exact k
    · split at e
      · rename_i hs
        cases e
        exact .inr (.inl ⟨dx, ys, rp_dp (SeqAt.canLay_of_shaped hs.1) (rx.rp R.fz), rp_dp (SeqAt.canLay_of_shaped hs.2) (ry.rp R.fz), hs.1, hs.2, k⟩)
      · cases e
  · rename_i ys
    split at e
    · rename_i hf
      cases e
      obtain ⟨p, vs, rfl, h1, h2, _⟩ := ry.tup R.fz
      have rx' := rx.rp R.fz
      refine .inl ⟨p, vs, rfl, .inr h1, flat_rp rx' hf.1, flat_rps h2 hf.2, ?_⟩
      rw [if_pos rfl, any_flat rx' hf.1 (h2.mono R.fz) hf.2]
      exact k
    · cases e
  · rename_i kvs
    have ry' := ry.rp R.fz
    split at e
    case isFalse => cases e
    rename_i hk
    generalize ek : PyData.dict kvs = dd at ry'
    cases ry' with
    | ex0 _ => injection ek with ek; subst ek; cases hk
    | exc _ _ _ => injection ek with ek; subst ek; cases hk
    | dct h1 h2 =>
      injection ek with ek
      subst ek
      split at e
      · cases e
        cases rx.int
        refine .inr (.inr (.inl ⟨_, _, rfl, DGet.k (k := Sum.inl _) h1, ?_⟩))
        rw [key_kv _ h2]
        exact k
      · cases e
        cases rx.str
        refine .inr (.inr (.inl ⟨_, _, rfl, DGet.k (k := Sum.inr _) h1, ?_⟩))
        rw [key_kv _ h2]
        exact k
      · cases e
    | _ => cases ek
  · rename_i t
    split at e
    · rename_i s
      split at e
      · rename_i c hc
        cases e
        cases ry.str
        cases rx.str
        exact .inr (.inr (.inr ⟨c, t, by rw [str_one hc], rfl, k⟩))
      · cases e
    · cases e
  · cases e
theorem od_nin (hu : X.A.units + 65 < cLine) : OpD X (compareOp .NotIn) gNotIn := by
  obtain ⟨r, h1, h2⟩ := od_nin0 (X := X) hu
  refine ⟨r, h1, fun B σ H Hf ρ x y dx dy z Q R rx ry e k => ?_⟩
  unfold gNotIn at e
  cases e1 : gInB dx dy with
  | none => rw [e1] at e; cases e
  | some q =>
    rw [e1] at e
    cases e
    exact h2 B σ H Hf ρ x y dx dy q Q R rx ry e1 (k _ H Hf R (Same.refl _) (.bl _))
/-! ### tests -/
def fTNot (f : FT) : FT := fun ρ => (f ρ).map fun p => (!p.1, p.2)
def fTAnd (f g : FT) : FT := fun ρ => (f ρ).bind fun p => if p.1 = true then g p.2 else some (false, p.2)
def fTOr (f g : FT) : FT := fun ρ => (f ρ).bind fun p => if p.1 = true then some (true, p.2) else g p.2
theorem dt_not {f : FT} {pos : Pos} (h : DT X a f) : DT X (.UnaryOp .Not a pos) (fTNot f) := by
  obtain ⟨t, p, q⟩ := h.ex
  refine ⟨_, pt_not p, fun B σ H Hf ρ d ρ' Q R e k => ?_⟩
  unfold fTNot at e
  cases e1 : f ρ with
  | none => rw [e1] at e; cases e
  | some z =>
    rw [e1] at e
    cases e
    exact q B σ H Hf ρ z.1 z.2 _ R e1 fun H' Hf' R' s => k H' Hf' R' s
/-- a test whatever its whole is -/
structure DW (X : Cx) (e : Expr) (f : FT) : Prop where
  ex : ∃ t, PW X e t ∧ ∀ (B : Bs) (σ : L2.St) (H Hf : Hp) (ρ : Rho) (d : Bool) (ρ' : Rho) (Q : Bool → Hp → Prop), Rel X.K B σ H Hf ρ → f ρ = some (d, ρ') →
    (∀ H' Hf', Rel X.K B σ H' Hf' ρ' → Same Hf Hf' → Q d H') → t σ H Q
theorem dt_w {f : FT} (h : DW X e f) : DT X e f := by
  obtain ⟨t, p, q⟩ := h.ex
  exact ⟨t, p.pt, q⟩
theorem dw_and1 {f : FT} {pos : Pos} (h : DT X a f) : DW X (.BoolOp .And [a] pos) f := by
  obtain ⟨t, p, q⟩ := h.ex
  exact ⟨t, pw_and1 p, q⟩
theorem dw_or1 {f : FT} {pos : Pos} (h : DT X a f) : DW X (.BoolOp .Or [a] pos) f := by
  obtain ⟨t, p, q⟩ := h.ex
  exact ⟨t, pw_or1 p, q⟩
theorem dw_and {f g : FT} {rest : List Expr} {pos : Pos} (h : DT X a f) (h2 : DW X (.BoolOp .And (b :: rest) pos) g) : DW X (.BoolOp .And (a :: b :: rest) pos) (fTAnd f g) := by
  obtain ⟨t, p, q⟩ := h.ex
  obtain ⟨t2, p2, q2⟩ := h2.ex
  refine ⟨_, pw_and p p2, fun B σ H Hf ρ d ρ' Q R e k => ?_⟩
  unfold fTAnd at e
  cases e1 : f ρ with
  | none => rw [e1] at e; cases e
  | some z =>
    rw [e1] at e
    obtain ⟨zb, ρ1⟩ := z
    refine q B σ H Hf ρ zb ρ1 _ R e1 fun H' Hf' R' s => ?_
    cases zb with
    | true => exact iteT (q2 B σ H' Hf' ρ1 d ρ' Q R' e fun H2 Hf2 R2 s2 => k H2 Hf2 R2 (s.trans s2))
    | false => cases e; exact iteF (k H' Hf' R' s)
theorem dw_or {f g : FT} {rest : List Expr} {pos : Pos} (h : DT X a f) (h2 : DW X (.BoolOp .Or (b :: rest) pos) g) : DW X (.BoolOp .Or (a :: b :: rest) pos) (fTOr f g) := by
  obtain ⟨t, p, q⟩ := h.ex
  obtain ⟨t2, p2, q2⟩ := h2.ex
  refine ⟨_, pw_or p p2, fun B σ H Hf ρ d ρ' Q R e k => ?_⟩
  unfold fTOr at e
  cases e1 : f ρ with
  | none => rw [e1] at e; cases e
  | some z =>
    rw [e1] at e
    obtain ⟨zb, ρ1⟩ := z
    refine q B σ H Hf ρ zb ρ1 _ R e1 fun H' Hf' R' s => ?_
    cases zb with
    | true => cases e; exact iteT (k H' Hf' R' s)
    | false => exact iteF (q2 B σ H' Hf' ρ1 d ρ' Q R' e fun H2 Hf2 R2 s2 => k H2 Hf2 R2 (s.trans s2))
/-! and, or, not as values; if-expressions -/
def fAndV (f g : FE) : FE := fun ρ => (f ρ).bind fun p => (tB p.1).bind fun k => if k = true then g p.2 else some (.bool false, p.2)
def fOrV (f g : FE) : FE := fun ρ => (f ρ).bind fun p => (tB p.1).bind fun k => if k = true then some (.bool true, p.2) else g p.2
def fNotV (f : FE) : FE := fun ρ => (f ρ).bind fun p => (tB p.1).map fun k => (.bool (!k), p.2)
theorem tB_some {d : PyData} {k : Bool} (h : tB d = some k) : d = .bool k := by
  cases d <;> simp [tB] at h
  rw [h]
theorem de_one {op} {f : FE} {pos : Pos} (h : DE X a f) : DE X (.BoolOp op [a] pos) f := by
  obtain ⟨t, p, q⟩ := h.ex
  exact ⟨t, pe_one p, q⟩
theorem de_and {f g : FE} {rest : List Expr} {pos : Pos} (h : DE X a f) (h2 : DE X (.BoolOp .And (b :: rest) pos) g) : DE X (.BoolOp .And (a :: b :: rest) pos) (fAndV f g) := by
  obtain ⟨t, p, q⟩ := h.ex
  obtain ⟨t2, p2, q2⟩ := h2.ex
  refine ⟨_, pe_and p p2, fun B σ H Hf ρ d ρ' Q R e k => ?_⟩
  unfold fAndV at e
  cases e1 : f ρ with
  | none => rw [e1] at e; cases e
  | some z =>
    rw [e1] at e
    obtain ⟨zb, ρ1⟩ := z
    cases e2 : tB zb with
    | none => simp [e2] at e
    | some kb =>
      simp [e2] at e
      cases tB_some e2
      refine q B σ H Hf ρ _ ρ1 _ R e1 fun v H' Hf' R' s r => ?_
      cases r
      refine ⟨kb, rfl, ?_⟩
      cases kb with
      | true => exact iteT (q2 B σ H' Hf' ρ1 d ρ' Q R' e fun v2 H2 Hf2 R2 s2 r2 => k v2 H2 Hf2 R2 (s.trans s2) r2)
      | false => cases e; exact iteF (k _ H' Hf' R' s (.bl _))
theorem de_or {f g : FE} {rest : List Expr} {pos : Pos} (h : DE X a f) (h2 : DE X (.BoolOp .Or (b :: rest) pos) g) : DE X (.BoolOp .Or (a :: b :: rest) pos) (fOrV f g) := by
  obtain ⟨t, p, q⟩ := h.ex
  obtain ⟨t2, p2, q2⟩ := h2.ex
  refine ⟨_, pe_or p p2, fun B σ H Hf ρ d ρ' Q R e k => ?_⟩
  unfold fOrV at e
  cases e1 : f ρ with
  | none => rw [e1] at e; cases e
  | some z =>
    rw [e1] at e
    obtain ⟨zb, ρ1⟩ := z
    cases e2 : tB zb with
    | none => simp [e2] at e
    | some kb =>
      simp [e2] at e
      cases tB_some e2
      refine q B σ H Hf ρ _ ρ1 _ R e1 fun v H' Hf' R' s r => ?_
      cases r
      refine ⟨kb, rfl, ?_⟩
      cases kb with
      | true => cases e; exact iteT (k _ H' Hf' R' s (.bl _))
      | false => exact iteF (q2 B σ H' Hf' ρ1 d ρ' Q R' e fun v2 H2 Hf2 R2 s2 r2 => k v2 H2 Hf2 R2 (s.trans s2) r2)
theorem de_not {f : FE} {pos : Pos} (h : DE X a f) : DE X (.UnaryOp .Not a pos) (fNotV f) := by
  obtain ⟨t, p, q⟩ := h.ex
  refine ⟨_, pe_not p, fun B σ H Hf ρ d ρ' Q R e k => ?_⟩
  unfold fNotV at e
  cases e1 : f ρ with
  | none => rw [e1] at e; cases e
  | some z =>
    rw [e1] at e
    obtain ⟨zb, ρ1⟩ := z
    cases e2 : tB zb with
    | none => simp [e2] at e
    | some kb =>
      simp [e2] at e
      cases tB_some e2
      obtain ⟨rfl, rfl⟩ := e
      refine q B σ H Hf ρ _ ρ1 _ R e1 fun v H' Hf' R' s r => ?_
      cases r
      exact ⟨kb, rfl, k _ H' Hf' R' s (.bl _)⟩
def fIfE (t : FT) (f g : FE) : FE := fun ρ => (t ρ).bind fun p => if p.1 = true then f p.2 else g p.2
theorem de_if {t : FT} {f g : FE} {pos : Pos} (h : DT X c t) (ha : DE X a f) (hb : DE X b g) : DE X (.IfExp c a b pos) (fIfE t f g) := by
  obtain ⟨t, p, q⟩ := h.ex
  obtain ⟨t1, p1, q1⟩ := ha.ex
  obtain ⟨t2, p2, q2⟩ := hb.ex
  refine ⟨_, pe_ifExp p p1 p2, fun B σ H Hf ρ d ρ' Q R e k => ?_⟩
  unfold fIfE at e
  rename_i tf
  cases e1 : tf ρ with
  | none => rw [e1] at e; cases e
  | some z =>
    rw [e1] at e
    obtain ⟨zb, ρ1⟩ := z
    refine q B σ H Hf ρ zb ρ1 _ R e1 fun H' Hf' R' s => ?_
    cases zb with
    | true => exact iteT (q1 B σ H' Hf' ρ1 d ρ' Q R' e fun v H2 Hf2 R2 s2 r2 => k v H2 Hf2 R2 (s.trans s2) r2)
    | false => exact iteF (q2 B σ H' Hf' ρ1 d ρ' Q R' e fun v H2 Hf2 R2 s2 r2 => k v H2 Hf2 R2 (s.trans s2) r2)
/-! ### arguments; tuples and lists that are written -/
def fANil : FA := fun ρ => some ([], ρ)
def fACons (f : FO) (g : FA) : FA := fun ρ => (f ρ).bind fun p => (g p.2).map fun q => (p.1 :: q.1, q.2)
theorem da_nil : DA X [] fANil := ⟨_, pa_nil, fun B σ H Hf ρ d ρ' Q R e k => by
  cases e
  exact k [] H Hf R (Same.refl _) .nil⟩
theorem fACons_some {f : FO} {g : FA} {ρ ρ' : Rho} {d : List AV} (e : fACons f g ρ = some (d, ρ')) : ∃ a ρ1 r, f ρ = some (a, ρ1) ∧ g ρ1 = some (r, ρ') ∧ d = a :: r := by
  unfold fACons at e
  cases e1 : f ρ with
  | none => rw [e1] at e; cases e
  | some z =>
    obtain ⟨a, ρ1⟩ := z
    cases e2 : g ρ1 with
    | none => simp [e1, e2] at e
    | some y =>
      obtain ⟨r, ρ2⟩ := y
      simp [e1, e2] at e
      obtain ⟨rfl, rfl⟩ := e
      exact ⟨a, ρ1, r, rfl, e2, rfl⟩
theorem da_cons {es : List Expr} {f : FO} {g : FA} (h : DO X e f) (hr : DA X es g) (hs : starEach (e :: es) X.env = (false, eval e X.env) :: starEach es X.env := by rfl) : DA X (e :: es) (fACons f g) := by
  obtain ⟨t, p, q⟩ := h.ex
  obtain ⟨t2, p2, q2⟩ := hr.ex
  refine ⟨_, pa_cons p p2 hs, fun B σ H Hf ρ d ρ' Q R e k => ?_⟩
  obtain ⟨a, ρ1, r, e1, e2, rfl⟩ := fACons_some e
  exact q B σ H Hf ρ a ρ1 _ R e1 fun v H1 Hf1 R1 s1 o1 => q2 B σ H1 Hf1 ρ1 r ρ' _ R1 e2 fun vs H2 Hf2 R2 s2 o2 => k (v :: vs) H2 Hf2 R2 (s1.trans s2) (.cons (o1.mono s2) o2)
/-- data of all -/
def datas : List AV → Option (List PyData)
  | [] => some []
  | .d x :: r => (datas r).map (x :: ·)
  | .ow _ :: _ => none
theorem datas_rp {K : PySem.W.Frag} {σ : L2.St} {Hf : Hp} : ∀ {vs : List V} {avs : List AV} {ds : List PyData}, AVs K σ Hf vs avs → datas avs = some ds → RpAll K Hf vs ds
  | _, _, _, .nil, e => by cases e; exact .nil
  | _, .d x :: r, ds, .cons h t, e => by
    unfold datas at e
    cases e1 : datas r with
    | none => rw [e1] at e; cases e
    | some z => rw [e1] at e; cases e; exact .cons h (datas_rp t e1)
  | _, .ow i :: r, ds, .cons h t, e => by cases e
def fTup (f : FA) : FE := fun ρ => (f ρ).bind fun p => (datas p.1).bind fun xs => if xs.length ≤ sizeLine then some (.tuple xs, p.2) else none
def fLst (f : FA) : FE := fun ρ => (f ρ).bind fun p => (datas p.1).bind fun xs => if xs.length ≤ sizeLine then some (.list xs, p.2) else none
theorem de_tup {es : List Expr} {f : FA} {x1} {pos : Pos} (h : DA X es f) : DE X (.Tuple es x1 pos) (fTup f) := by
  obtain ⟨t, p, q⟩ := h.ex
  refine ⟨_, pe_tup p, fun B σ H Hf ρ d ρ' Q R e k => ?_⟩
  unfold fTup at e
  cases e1 : f ρ with
  | none => rw [e1] at e; cases e
  | some z =>
    obtain ⟨avs, ρ1⟩ := z
    cases e2 : datas avs with
    | none => simp [e1, e2] at e
    | some xs =>
      simp [e1, e2] at e
      obtain ⟨hz, rfl, rfl⟩ := e
      refine q B σ H Hf ρ avs ρ1 _ R e1 fun vs H' Hf' R' s o => ?_
      have rp := datas_rp o e2
      refine ⟨by rw [rp.length]; exact hz, fun t ht => ?_⟩
      have sf : Same Hf' (upd Hf' t (.tup vs)) := same_upd (R'.newF ht)
      exact k _ _ _ (R'.froze ht _) (s.trans sf) (.tup (.inl (.inl upd_same)) (rp.mono sf))
theorem de_lst {es : List Expr} {f : FA} {pos : Pos} (h : DA X es f) : DE X (.List es pos) (fLst f) := by
  obtain ⟨t, p, q⟩ := h.ex
  refine ⟨_, pe_lst p, fun B σ H Hf ρ d ρ' Q R e k => ?_⟩
  unfold fLst at e
  cases e1 : f ρ with
  | none => rw [e1] at e; cases e
  | some z =>
    obtain ⟨avs, ρ1⟩ := z
    cases e2 : datas avs with
    | none => simp [e1, e2] at e
    | some xs =>
      simp [e1, e2] at e
      obtain ⟨hz, rfl, rfl⟩ := e
      refine q B σ H Hf ρ avs ρ1 _ R e1 fun vs H' Hf' R' s o => ?_
      have rp := datas_rp o e2
      refine ⟨by rw [rp.length]; exact hz, fun t ht => ?_⟩
      have sf : Same Hf' (upd Hf' t (.lst vs)) := same_upd (R'.newF ht)
      exact k _ _ _ (R'.froze ht _) (s.trans sf) (.lst upd_same (rp.mono sf))
end
end Y
set_option Elab.async false
set_option linter.all false
set_option maxRecDepth 100000
set_option maxHeartbeats 4000000
set_option autoImplicit false
namespace Y
open PySem PySem.Spec L2
section
variable {X : Cx} {e a b c : Expr}
/-! ### subscripts -/
def gIx : PyData → PyData → Option PyData
  | .list xs, .int i => atI xs i
  | .tuple xs, .int i => atI xs i
  | .str z, .int i => if z.length ≤ sizeLine then (atI z.cps.toList i).map fun c => .str ⟨#[c]⟩ else none
  | .dict kvs, y => if dOk kvs = true then match keyOf y with
    | some k => (kvs.find? fun p => PyData.eqv p.1 (keyD k)).map (·.2)
    | none => none
    else none
  | _, _ => none
theorem atI_rp {K : PySem.W.Frag} {H : Hp} {vs : List V} {ds : List PyData} {i : Int} {d : PyData} (h : RpAll K H vs ds) (e : atI ds i = some d) : ∃ v, atI vs i = some v ∧ Rp K H v d := by
  unfold atI at e ⊢
  rw [h.length]
  cases e1 : ixN ds.length i with
  | none => rw [e1] at e; cases e
  | some j =>
    rw [e1] at e
    obtain ⟨v, h1, h2⟩ := h.get (i := j) e
    exact ⟨v, h1, h2⟩
theorem ix_dct : IxR X (fun x y H Q => ∃ a kvs k v, x = .ref a ∧ y = kV k ∧ H a = some (.dK kvs) ∧ valV kvs k = some v ∧ Q v H) := by
  intro value slice pins s σ H x y v u Q I rx ry h hs
  obtain ⟨a, kvs, k, z, rfl, rfl, e, l, q⟩ := h
  cases rx
  obtain ⟨zz, hd, vs, rel, dd⟩ := dk_rd I.hok (.inl e)
  obtain ⟨w', hw, rw'⟩ := RelO.some_of (v := z) (o := valueAt vs k) (by rw [← l]; exact rel.val k)
  exact PyProof.Rows.subscriptTail_builtinR (x := w') dd.typeIs PySem.F.slot_dict_getitem.lookup
    (wpAny_getItem_of (Q := fun r s' => r = w' ∧ EP X pins σ Q r s') (kV_is ry) dd.mapOf hw ⟨rfl, ⟨z, H, I.tok _, rw', q⟩⟩) hs
theorem rpkv_find {K : PySem.W.Frag} {H : Hp} (k : Key) : ∀ {vs : List (Key × V)} {ds : List (PyData × PyData)} {d : PyData}, RpKv K H vs ds → (ds.find? fun p => PyData.eqv p.1 (keyD k)).map (·.2) = some d → ∃ v, valV vs k = some v ∧ Rp K H v d
  | _, _, _, .nil, e => by cases e
  | _, _, d, .cons (k := j) h t, e => by
    rw [List.find?_cons] at e
    by_cases ej : j = k
    · have : PyData.eqv (keyD j) (keyD k) = true := by
        subst ej
        cases j <;> simp [keyD, PyData.eqv]
      rw [this] at e
      cases e
      exact ⟨_, valV_pos ej, h⟩
    · have : PyData.eqv (keyD j) (keyD k) = false := by
        cases j <;> cases k <;> simp [keyD, PyData.eqv] <;> (try intro z; subst z; exact ej rfl)
      rw [this] at e
      obtain ⟨v, h1, h2⟩ := rpkv_find k t e
      exact ⟨v, by rw [valV_neg ej]; exact h1, h2⟩
theorem rpk_kv {K : PySem.W.Frag} {H : Hp} : ∀ {vs : List (Key × V)} {ds : List (Key × PyData)}, RpK K H vs ds → RpKv K H vs (mD (.dct ds) |> fun | .dict x => x | _ => [])
  | _, _, h => rp_kv h
theorem RpO.dict {K : PySem.W.Frag} {Hf H : Hp} (s : Same Hf H) {v : V} {xs : List (PyData × PyData)} (h : RpO K Hf H v (.dict xs)) (hk : dOk xs = true) : ∃ a vs, v = .ref a ∧ H a = some (.dK vs) ∧ RpKv K Hf vs xs := by
  generalize e : PyData.dict xs = x at h
  cases h with
  | d r =>
    subst e
    cases r with
    | dct h1 h2 => exact ⟨_, _, rfl, s _ _ h1, h2⟩
    | ex0 _ => cases hk
    | exc _ _ _ => cases hk
  | @o a o r =>
    cases o with
    | lst ys => cases (show PyData.dict xs = .list _ from e)
    | dct kvs =>
      obtain ⟨vs, h1, h2⟩ := r
      have e' : PyData.dict xs = .dict _ := e
      injection e' with e'
      subst e'
      exact ⟨_, _, rfl, h1, rp_kv h2⟩
theorem key_rpo {K : PySem.W.Frag} {Hf H : Hp} {v : V} {d : PyData} {k : Key} (h : RpO K Hf H v d) (e : keyOf d = some k) : v = kV k := by
  cases d <;> simp [keyOf] at e
  · subst e; exact h.int
  · subst e; exact h.str
theorem de_ix {fa fb : FO} {pos : Pos} (ha : DO X a fa) (hb : DO X b fb) (hs : PlainIx b := by intro _ _; rfl) : DE X (.Subscript a b pos) (f2 gIx fa fb) := by
  obtain ⟨ta, pa, qa⟩ := ha.ex
  obtain ⟨tb, pb, qb⟩ := hb.ex
  refine ⟨_, pe_ix (ix_list.or (ix_tup.or (ix_str.or ix_dct))) pa pb hs, fun B σ H Hf ρ d ρ' Q R e k => ?_⟩
  obtain ⟨p, ρ1, q, x, y, e1, e2, e3, e4, e5⟩ := f2_some e
  refine two qa qb (R := fun x y H2 => _) R e1 e2 fun vx vy H2 Hf2 R2 s o1 o2 => ?_
  have rx := av_get R2 o1 e3
  have ry := av_get R2 o2 e4
  unfold gIx at e5
  split at e5
  · obtain ⟨p, vs, rfl, h1, h2⟩ := rx.list R2.fz
    obtain ⟨v, h3, h4⟩ := atI_rp h2 e5
    exact .inl ⟨p, vs, _, v, rfl, ry.int, SqL.of h1, h3, k v H2 Hf2 R2 s h4⟩
  · obtain ⟨p, vs, rfl, h1, h2, _⟩ := rx.tup R2.fz
    obtain ⟨v, h3, h4⟩ := atI_rp h2 e5
    exact .inr (.inl ⟨p, vs, _, v, rfl, ry.int, h1, h3, k v H2 Hf2 R2 s h4⟩)
  · rename_i z i
    split at e5
    · rename_i hz
      cases e6 : atI z.cps.toList i with
      | none => rw [e6] at e5; cases e5
      | some c =>
        rw [e6] at e5
        cases e5
        exact .inr (.inr (.inl ⟨z, i, c, rx.str, ry.int, hz, e6, k _ H2 Hf2 R2 s (.str _)⟩))
    · cases e5
  · rename_i kvs y'
    split at e5
    case isFalse => cases e5
    rename_i hk
    split at e5
    · rename_i kk ek
      obtain ⟨a', vs, rfl, h1, h2⟩ := rx.dict R2.fz hk
      obtain ⟨v, h3, h4⟩ := rpkv_find kk h2 e5
      exact .inr (.inr (.inr ⟨a', vs, kk, v, rfl, key_rpo ry ek, h1, h3, k v H2 Hf2 R2 s h4⟩))
    · cases e5
  · cases e5
/-! ### slices -/
abbrev FP := Rho → Option (Option Int × Rho)
structure DP (X : Cx) (e : Option Expr) (f : FP) : Prop where
  ex : ∃ t, PO X e t ∧ ∀ (B : Bs) (σ : L2.St) (H Hf : Hp) (ρ : Rho) (d : Option Int) (ρ' : Rho) (Q : Option Int → Hp → Prop), Rel X.K B σ H Hf ρ → f ρ = some (d, ρ') →
    (∀ H' Hf', Rel X.K B σ H' Hf' ρ' → Same Hf Hf' → Q d H') → t σ H Q
def fPno : FP := fun ρ => some (none, ρ)
def toI : PyData → Option Int
  | .int i => some i
  | _ => none
def fPart (f : FE) : FP := fun ρ => (f ρ).bind fun p => (toI p.1).map fun i => (some i, p.2)
theorem dp_no : DP X none fPno := ⟨_, po_none, fun B σ H Hf ρ d ρ' Q R e k => by
  cases e
  exact k H Hf R (Same.refl _)⟩
theorem toI_some {d : PyData} {i : Int} (h : toI d = some i) : d = .int i := by
  cases d <;> simp [toI] at h
  rw [h]
theorem dp_some {f : FE} (h : DE X e f) : DP X (some e) (fPart f) := by
  obtain ⟨t, p, q⟩ := h.ex
  refine ⟨_, po_some p, fun B σ H Hf ρ d ρ' Q R e k => ?_⟩
  unfold fPart at e
  cases e1 : f ρ with
  | none => rw [e1] at e; cases e
  | some z =>
    obtain ⟨x, ρ1⟩ := z
    cases e2 : toI x with
    | none => simp [e1, e2] at e
    | some i =>
      simp [e1, e2] at e
      obtain ⟨rfl, rfl⟩ := e
      cases toI_some e2
      exact q B σ H Hf ρ _ _ _ R e1 fun v H' Hf' R' s r => by
        cases r
        exact ⟨i, rfl, k H' Hf' R' s⟩
/-- the items of a slice -/
def cutD {α : Type} (xs : List α) (lo hi : Option Int) : List α := (xs.drop (HT.sIx xs.length 0 lo)).take (HT.sIx xs.length xs.length hi - HT.sIx xs.length 0 lo)
theorem cut_rp {K : PySem.W.Frag} {H : Hp} {vs : List V} {ds : List PyData} (lo hi : Option Int) (h : RpAll K H vs ds) : RpAll K H (cutV vs lo hi) (cutD ds lo hi) := by
  unfold cutV cutD
  rw [h.length]
  exact (h.drop _).take _
def gSl (x : PyData) (lo hi : Option Int) : Option PyData := match x with
  | .list xs => some (.list (cutD xs lo hi))
  | .tuple xs => some (.tuple (cutD xs lo hi))
  | .str z => if z.length ≤ sizeLine then some (.str ⟨(cutD z.cps.toList lo hi).toArray⟩) else none
  | _ => none
def fSl (f : FO) (g h : FP) : FE := fun ρ => (f ρ).bind fun p => (g p.2).bind fun q => (h q.2).bind fun r => (p.1.get r.2).bind fun x => (gSl x q.1 r.1).map fun z => (z, r.2)
theorem cut_whole {α : Type} {xs : List α} {lo hi : Option Int} (h : HT.sIx xs.length 0 lo = 0 ∧ HT.sIx xs.length xs.length hi = xs.length) : cutD xs lo hi = xs := by
  unfold cutD
  rw [h.1, h.2]
  simp
theorem de_sl {f : FO} {lo hi : Option Expr} {g h : FP} {pos p2 : Pos} (ha : DO X a f) (hl : DP X lo g) (hh : DP X hi h) : DE X (.Subscript a (.Slice lo hi none p2) pos) (fSl f g h) := by
  obtain ⟨ta, pa, qa⟩ := ha.ex
  obtain ⟨tl, pl, ql⟩ := hl.ex
  obtain ⟨th, ph, qh⟩ := hh.ex
  refine ⟨_, pe_slice (sl_list.or (sl_tupA.or sl_str)) pa pl ph, fun B σ H Hf ρ d ρ' Q R e k => ?_⟩
  unfold fSl at e
  cases e1 : f ρ with
  | none => rw [e1] at e; cases e
  | some z =>
    obtain ⟨av, ρ1⟩ := z
    cases e2 : g ρ1 with
    | none => simp [e1, e2] at e
    | some y =>
      obtain ⟨l, ρ2⟩ := y
      cases e3 : h ρ2 with
      | none => simp [e1, e2, e3] at e
      | some w =>
        obtain ⟨u, ρ3⟩ := w
        cases e4 : av.get ρ3 with
        | none => simp [e1, e2, e3, e4] at e
        | some x =>
          cases e5 : gSl x l u with
          | none => simp [e1, e2, e3, e4, e5] at e
          | some zz =>
            simp [e1, e2, e3, e4, e5] at e
            obtain ⟨rfl, rfl⟩ := e
            refine qa B σ H Hf ρ av ρ1 _ R e1 fun v H1 Hf1 R1 s1 o1 => ql B σ H1 Hf1 ρ1 l ρ2 _ R1 e2 fun H2 Hf2 R2 s2 => qh B σ H2 Hf2 ρ2 u ρ3 _ R2 e3 fun H3 Hf3 R3 s3 => ?_
            have rx := av_get R3 (o1.mono (s2.trans s3)) e4
            have ss := s1.trans (s2.trans s3)
            unfold gSl at e5
            split at e5
            · cases e5
              obtain ⟨p, vs, rfl, h1, h2⟩ := rx.list R3.fz
              refine .inl ⟨p, vs, rfl, SqL.of h1, fun t ht => ?_⟩
              have sf : Same Hf3 (upd Hf3 t (.lst (cutV vs l u))) := same_upd (R3.newF ht)
              exact k _ _ _ (R3.froze ht _) (ss.trans sf) (.lst upd_same ((cut_rp l u h2).mono sf))
            · cases e5
              rename_i xs
              obtain ⟨p, vs, rfl, h1, h2, h3⟩ := rx.tup R3.fz
              refine .inr (.inl ⟨p, vs, rfl, h1, fun hw => ?_, fun hw t ht => ?_⟩)
              · rw [h2.length] at hw
                rw [cut_whole hw] at k
                exact k _ _ _ R3 ss h3
              · have sf : Same Hf3 (upd Hf3 t (.tup (cutV vs l u))) := same_upd (R3.newF ht)
                exact k _ _ _ (R3.froze ht _) (ss.trans sf) (.tup (.inl (.inl upd_same)) ((cut_rp l u h2).mono sf))
            · split at e5
              · cases e5
                rename_i z hz
                exact .inr (.inr ⟨z, rx.str, hz, k _ _ _ R3 ss (.str _)⟩)
              · cases e5
            · cases e5
/-! ### one operand: -a, and calls of built-ins -/
def f1 (g : PyData → Option PyData) (f : FO) : FE := fun ρ => (f ρ).bind fun p => (p.1.get p.2).bind fun x => (g x).map fun z => (z, p.2)
theorem f1_some {g : PyData → Option PyData} {fa : FO} {ρ ρ' : Rho} {z : PyData} (e : f1 g fa ρ = some (z, ρ')) :
    ∃ a x, fa ρ = some (a, ρ') ∧ a.get ρ' = some x ∧ g x = some z := by
  unfold f1 at e
  cases e1 : fa ρ with
  | none => rw [e1] at e; cases e
  | some p =>
    obtain ⟨a, ρ1⟩ := p
    cases e3 : a.get ρ1 with
    | none => simp [e1, e3] at e
    | some x =>
      cases e5 : g x with
      | none => simp [e1, e3, e5] at e
      | some z' =>
        simp [e1, e3, e5] at e
        obtain ⟨rfl, rfl⟩ := e
        exact ⟨a, x, rfl, e3, e5⟩
def gNeg : PyData → Option PyData
  | .int i => some (.int (-i))
  | _ => none
theorem de_neg {f : FO} {pos : Pos} (h : DO X a f) : DE X (.UnaryOp .USub a pos) (f1 gNeg f) := by
  obtain ⟨t, p, q⟩ := h.ex
  refine ⟨_, pe_un un_neg p, fun B σ H Hf ρ d ρ' Q R e k => ?_⟩
  obtain ⟨av, x, e1, e2, e3⟩ := f1_some e
  refine q B σ H Hf ρ av ρ' _ R e1 fun v H' Hf' R' s o => ?_
  have rx := av_get R' o e2
  cases x <;> simp [gNeg] at e3
  subst e3
  exact ⟨_, rx.int, k _ H' Hf' R' s (.int _)⟩
/-- a built-in of one argument, by values -/
structure Cd1 (X : Cx) (f : Value) (g : PyData → Option PyData) : Prop where
  ex : ∃ r : List V → Hp → VK → Prop, CallR X f r ∧ ∀ (B : Bs) (σ : L2.St) (H Hf : Hp) (ρ : Rho) (x : V) (dx z : PyData) (Q : VK), Rel X.K B σ H Hf ρ → RpO X.K Hf H x dx → g dx = some z →
    (∀ v H' Hf', Rel X.K B σ H' Hf' ρ → Same Hf Hf' → Rp X.K Hf' v z → Q v H') → r [x] H Q
theorem de_b1 {x : Str} {id : String} {g : PyData → Option PyData} {f : FO} {p pos : Pos} (hc : Cd1 X (.builtin id) g) (hg : Gl X x) (hm : X.mg x = none) (hv : bootBuiltins x = some (.builtin id)) (h : DO X a f) (hn : x ≠ "__name__" := by decide) (hdb : (x == ("__debug__" : Str)) = false := by decide)
    (he : starEach [a] X.env = (false, eval a X.env) :: starEach [] X.env := by rfl) : DE X (.Call (.Name x p) [a] [] pos) (f1 g f) := by
  obtain ⟨r, pr, qr⟩ := hc.ex
  obtain ⟨t, pa, q⟩ := h.ex
  refine ⟨_, pe_callB pr hg hm hv (pa_cons pa pa_nil he) hn hdb he, fun B σ H Hf ρ d ρ' Q R e k => ?_⟩
  obtain ⟨av, x, e1, e2, e3⟩ := f1_some e
  refine q B σ H Hf ρ av ρ' _ R e1 fun v H' Hf' R' s o => ?_
  exact qr B σ H' Hf' ρ' v x d Q R' (av_get R' o e2) e3 fun v2 H2 Hf2 R2 s2 r2 => k v2 H2 Hf2 R2 (s.trans s2) r2
theorem de_t1 {x : Str} {T : String} {g : PyData → Option PyData} {f : FO} {p pos : Pos} (hc : Cd1 X (.type T) g) (hg : Gl X x) (hm : X.mg x = none) (hv : bootBuiltins x = some (.type T)) (h : DO X a f) (hn : x ≠ "__name__" := by decide) (hdb : (x == ("__debug__" : Str)) = false := by decide)
    (he : starEach [a] X.env = (false, eval a X.env) :: starEach [] X.env := by rfl) : DE X (.Call (.Name x p) [a] [] pos) (f1 g f) := by
  obtain ⟨r, pr, qr⟩ := hc.ex
  obtain ⟨t, pa, q⟩ := h.ex
  refine ⟨_, pe_callTy pr hg hm hv (pa_cons pa pa_nil he) hn hdb he, fun B σ H Hf ρ d ρ' Q R e k => ?_⟩
  obtain ⟨av, x, e1, e2, e3⟩ := f1_some e
  refine q B σ H Hf ρ av ρ' _ R e1 fun v H' Hf' R' s o => ?_
  exact qr B σ H' Hf' ρ' v x d Q R' (av_get R' o e2) e3 fun v2 H2 Hf2 R2 s2 r2 => k v2 H2 Hf2 R2 (s.trans s2) r2
def gLen : PyData → Option PyData
  | .list xs => some (.int xs.length)
  | .tuple xs => some (.int xs.length)
  | .str z => if z.length ≤ sizeLine then some (.int z.length) else none
  | _ => none
theorem cd_len : Cd1 X (.builtin "len") gLen := by
  refine ⟨_, call_len, fun B σ H Hf ρ x dx z Q R rx e k => ?_⟩
  unfold gLen at e
  split at e
  · cases e
    obtain ⟨p, vs, rfl, h1, h2⟩ := rx.list R.fz
    refine ⟨.ref p, vs.length, rfl, .inl ⟨vs, SqL.of h1, rfl⟩, ?_⟩
    rw [h2.length]
    exact k _ _ _ R (Same.refl _) (.int _)
  · cases e
    obtain ⟨p, vs, rfl, h1, h2, _⟩ := rx.tup R.fz
    refine ⟨.ref p, vs.length, rfl, .inr ⟨vs, h1, rfl⟩, ?_⟩
    rw [h2.length]
    exact k _ _ _ R (Same.refl _) (.int _)
  · split at e
    · cases e
      rename_i z hz
      exact ⟨_, z.length, rfl, by rw [rx.str]; exact ⟨hz, rfl⟩, k _ _ _ R (Same.refl _) (.int _)⟩
    · cases e
  · cases e
def gAbs : PyData → Option PyData
  | .int i => some (.int (if i < 0 then -i else i))
  | _ => none
theorem cd_abs : Cd1 X (.builtin "abs") gAbs := by
  refine ⟨_, call_abs, fun B σ H Hf ρ x dx z Q R rx e k => ?_⟩
  cases dx <;> simp [gAbs] at e
  subst e
  exact ⟨_, by rw [rx.int], k _ _ _ R (Same.refl _) (.int _)⟩
def gInt : PyData → Option PyData
  | .int i => some (.int i)
  | .bool b => some (.int (if b then 1 else 0))
  | _ => none
theorem cd_int : Cd1 X (.type "int") gInt := by
  refine ⟨_, call_int1, fun B σ H Hf ρ x dx z Q R rx e k => ?_⟩
  cases dx <;> simp [gInt] at e
  · subst e
    exact .inr ⟨_, by rw [rx.bl], k _ _ _ R (Same.refl _) (.int _)⟩
  · subst e
    exact .inl ⟨_, by rw [rx.int], k _ _ _ R (Same.refl _) (.int _)⟩
def gList : PyData → Option PyData
  | .list xs => some (.list xs)
  | .tuple xs => some (.list xs)
  | _ => none
theorem cd_list : Cd1 X (.type "list") gList := by
  refine ⟨_, call_list_of, fun B σ H Hf ρ x dx z Q R rx e k => ?_⟩
  have go : ∀ p vs xs, RpAll X.K Hf vs xs → (SqL X.K H p vs ∨ SqT X.K H p vs) → z = .list xs → x = .ref p → ∃ p ys, [x] = [V.ref p] ∧ (SqL X.K H p ys ∨ SqT X.K H p ys) ∧ ∀ l, H l = none → Q (.ref l) (upd H l (.lst ys)) := fun p vs xs h2 h1 ez ex => by
    subst ez ex
    refine ⟨p, vs, rfl, h1, fun t ht => ?_⟩
    have sf : Same Hf (upd Hf t (.lst vs)) := same_upd (R.newF ht)
    exact k _ _ _ (R.froze ht _) sf (.lst upd_same (h2.mono sf))
  unfold gList at e
  split at e
  · cases e
    obtain ⟨p, vs, rfl, h1, h2⟩ := rx.list R.fz
    exact go p vs _ h2 (.inl (SqL.of h1)) rfl rfl
  · cases e
    obtain ⟨p, vs, rfl, h1, h2, _⟩ := rx.tup R.fz
    exact go p vs _ h2 (.inr h1) rfl rfl
  · cases e
def gTuple : PyData → Option PyData
  | .list xs => some (.tuple xs)
  | .tuple xs => some (.tuple xs)
  | _ => none
theorem cd_tuple : Cd1 X (.type "tuple") gTuple := by
  refine ⟨_, call_tuple_of, fun B σ H Hf ρ x dx z Q R rx e k => ?_⟩
  unfold gTuple at e
  split at e
  · cases e
    obtain ⟨p, vs, rfl, h1, h2⟩ := rx.list R.fz
    refine ⟨p, vs, rfl, .inl ⟨SqL.of h1, fun t ht => ?_⟩⟩
    have sf : Same Hf (upd Hf t (.tup vs)) := same_upd (R.newF ht)
    exact k _ _ _ (R.froze ht _) sf (.tup (.inl (.inl upd_same)) (h2.mono sf))
  · cases e
    obtain ⟨p, vs, rfl, h1, h2, h3⟩ := rx.tup R.fz
    exact ⟨p, vs, rfl, .inr ⟨h1, k _ _ _ R (Same.refl _) h3⟩⟩
  · cases e
/-! isinstance(x, T), T a built-in type -/
def tyD : PyData → String
  | .none => "NoneType"
  | .bool _ => "bool"
  | .int _ => "int"
  | .str _ => "str"
  | .list _ => "list"
  | .tuple _ => "tuple"
  | .dict _ => "dict"
def isT (T : String) : PyData → Bool
  | .none => T == "NoneType"
  | .bool _ => T == "bool" || T == "int"
  | .int _ => T == "int"
  | .str _ => T == "str"
  | .list _ => T == "list"
  | .tuple _ => T == "tuple"
  | .dict _ => T == "dict"
theorem rp_ty {K : PySem.W.Frag} {H : Hp} {v : V} {d : PyData} (h : Rp K H v d) (hk : dOkD d = true) : TyX K H v (.type (tyD d)) := by
  cases h with
  | non => exact .base .non
  | bl b => exact .base (.bl b)
  | int i => exact .base (.int i)
  | str x => exact .base (.str x)
  | lst h a => exact .base (.lst h)
  | tup h a =>
    rcases h with (h | ⟨o, h⟩) | ⟨o, its, n, h1, h2, _⟩
    · exact .base (.tup h)
    · exact .fTuple h
    · exact .kTuple h1 h2
  | dct h a => exact .base (.dK h)
  | ex0 _ => cases hk
  | exc _ _ _ => cases hk
def isTd (T : String) (d : PyData) : Option PyData := if dOkD d = true then some (.bool (isT T d)) else none
theorem de_isi {T : String} {x : Str} {f : FO} {p p2 pos : Pos} (hk : ∀ d : PyData, kitB (tyD d) T = some (isT T d)) (hg : Gl X "isinstance") (hm : X.mg "isinstance" = none) (hg2 : Gl X x) (hm2 : X.mg x = none) (hv : bootBuiltins x = some (.type T)) (h : DO X a f)
    (hn : x ≠ "__name__" := by decide) (hdb : (x == ("__debug__" : Str)) = false := by decide) (he : starEach (a :: [.Name x p2]) X.env = (false, eval a X.env) :: starEach [.Name x p2] X.env := by rfl) :
    DE X (.Call (.Name "isinstance" p) [a, .Name x p2] [] pos) (f1 (isTd T) f) := by
  obtain ⟨t, pa, q⟩ := h.ex
  refine ⟨_, pe_callB call_isi hg hm (by decide +kernel) (pa_cons pa (pa_cons (pe_bltn (v := .ty T) hg2 hm2 hv rfl hn hdb) pa_nil) he) (by decide) (by decide) he, fun B σ H Hf ρ d ρ' Q R e k => ?_⟩
  obtain ⟨av, x, e1, e2, e3⟩ := f1_some e
  unfold isTd at e3
  split at e3
  case isFalse => cases e3
  rename_i hok
  cases e3
  refine q B σ H Hf ρ av ρ' _ R e1 fun v H' Hf' R' s o => ?_
  exact ⟨v, .ty T, _, _, _, rfl, .ty T, rp_ty ((av_get R' o e2).rp R'.fz) hok, kit_ty (hk x), k _ H' Hf' R' s (.bl _)⟩
/-- what isinstance says of two built-in types -/
theorem kit_str : ∀ d : PyData, kitB (tyD d) "str" = some (isT "str" d)
  | .none => (by decide +kernel : kitB "NoneType" "str" = some false)
  | .bool _ => (by decide +kernel : kitB "bool" "str" = some false)
  | .int _ => (by decide +kernel : kitB "int" "str" = some false)
  | .str _ => (by decide +kernel : kitB "str" "str" = some true)
  | .list _ => (by decide +kernel : kitB "list" "str" = some false)
  | .tuple _ => (by decide +kernel : kitB "tuple" "str" = some false)
  | .dict _ => (by decide +kernel : kitB "dict" "str" = some false)
theorem kit_int : ∀ d : PyData, kitB (tyD d) "int" = some (isT "int" d)
  | .none => (by decide +kernel : kitB "NoneType" "int" = some false)
  | .bool _ => (by decide +kernel : kitB "bool" "int" = some true)
  | .int _ => (by decide +kernel : kitB "int" "int" = some true)
  | .str _ => (by decide +kernel : kitB "str" "int" = some false)
  | .list _ => (by decide +kernel : kitB "list" "int" = some false)
  | .tuple _ => (by decide +kernel : kitB "tuple" "int" = some false)
  | .dict _ => (by decide +kernel : kitB "dict" "int" = some false)
theorem kit_bool : ∀ d : PyData, kitB (tyD d) "bool" = some (isT "bool" d)
  | .none => (by decide +kernel : kitB "NoneType" "bool" = some false)
  | .bool _ => (by decide +kernel : kitB "bool" "bool" = some true)
  | .int _ => (by decide +kernel : kitB "int" "bool" = some false)
  | .str _ => (by decide +kernel : kitB "str" "bool" = some false)
  | .list _ => (by decide +kernel : kitB "list" "bool" = some false)
  | .tuple _ => (by decide +kernel : kitB "tuple" "bool" = some false)
  | .dict _ => (by decide +kernel : kitB "dict" "bool" = some false)
theorem kit_tuple : ∀ d : PyData, kitB (tyD d) "tuple" = some (isT "tuple" d)
  | .none => (by decide +kernel : kitB "NoneType" "tuple" = some false)
  | .bool _ => (by decide +kernel : kitB "bool" "tuple" = some false)
  | .int _ => (by decide +kernel : kitB "int" "tuple" = some false)
  | .str _ => (by decide +kernel : kitB "str" "tuple" = some false)
  | .list _ => (by decide +kernel : kitB "list" "tuple" = some false)
  | .tuple _ => (by decide +kernel : kitB "tuple" "tuple" = some true)
  | .dict _ => (by decide +kernel : kitB "dict" "tuple" = some false)
theorem kit_list : ∀ d : PyData, kitB (tyD d) "list" = some (isT "list" d)
  | .none => (by decide +kernel : kitB "NoneType" "list" = some false)
  | .bool _ => (by decide +kernel : kitB "bool" "list" = some false)
  | .int _ => (by decide +kernel : kitB "int" "list" = some false)
  | .str _ => (by decide +kernel : kitB "str" "list" = some false)
  | .list _ => (by decide +kernel : kitB "list" "list" = some true)
  | .tuple _ => (by decide +kernel : kitB "tuple" "list" = some false)
  | .dict _ => (by decide +kernel : kitB "dict" "list" = some false)
theorem kit_dict : ∀ d : PyData, kitB (tyD d) "dict" = some (isT "dict" d)
  | .none => (by decide +kernel : kitB "NoneType" "dict" = some false)
  | .bool _ => (by decide +kernel : kitB "bool" "dict" = some false)
  | .int _ => (by decide +kernel : kitB "int" "dict" = some false)
  | .str _ => (by decide +kernel : kitB "str" "dict" = some false)
  | .list _ => (by decide +kernel : kitB "list" "dict" = some false)
  | .tuple _ => (by decide +kernel : kitB "tuple" "dict" = some false)
  | .dict _ => (by decide +kernel : kitB "dict" "dict" = some true)
end
end Y
set_option Elab.async false
set_option linter.all false
set_option maxRecDepth 100000
set_option maxHeartbeats 4000000
set_option autoImplicit false
namespace Y
open PySem PySem.Spec L2
/-! ### another base: what is kept -/
def ownA (σ : L2.St) (ρ : Rho) : List Addr := (List.range ρ.length).filterMap fun i => match ρ[i]?, σ[i]? with
  | some s, some (some (V.ref a)) => if s.obj?.isSome = true then some a else none
  | _, _ => none
theorem mem_ownA {σ : L2.St} {ρ : Rho} {a : Addr} : a ∈ ownA σ ρ ↔ ∃ (i : Nat) (s : Slot) (o : MO), ρ[i]? = some s ∧ s.obj? = some o ∧ σ[i]? = some (some (V.ref a)) := by
  unfold ownA
  rw [List.mem_filterMap]
  constructor
  · rintro ⟨i, hi, h⟩
    cases e1 : ρ[i]? with
    | none => rw [e1] at h; cases h
    | some s =>
      cases e2 : σ[i]? with
      | none => rw [e1, e2] at h; cases h
      | some ov =>
        rw [e1, e2] at h
        cases ov with
        | none => cases h
        | some v =>
          cases v with
          | ref b =>
            dsimp only at h
            cases e3 : s.obj? with
            | none => rw [e3] at h; cases h
            | some o =>
              rw [e3] at h
              cases h
              exact ⟨i, s, o, e1, e3, e2⟩
          | _ => cases h
  · rintro ⟨i, s, o, e1, e2, e3⟩
    refine ⟨i, List.mem_range.mpr (List.getElem?_eq_some_iff.mp e1).1, ?_⟩
    rw [e1, e3]
    dsimp only
    rw [e2]
    rfl
def reB (B : Bs) (σ : L2.St) (H Hf : Hp) (ρ : Rho) : Bs := ⟨H, Hf, ownA σ ρ, B.pa, false⟩
section
variable {K : PySem.W.Frag} {B : Bs} {σ σ' : L2.St} {H H' Hf Hf' : Hp} {ρ ρ' : Rho}
theorem Rel.ownB (R : Rel K B σ H Hf ρ) {a : Addr} (h : a ∈ ownA σ ρ) : Hf a = none ∧ (∃ o, H a = some o) ∧ (a ∈ B.ms ∨ B.Hb a = none) := by
  obtain ⟨i, s, o, e1, e2, e3⟩ := mem_ownA.mp h
  obtain ⟨a', h1, h2, h3, h4⟩ := R.own i s o e1 e2
  rw [e3] at h1
  cases h1
  exact ⟨h2, h3.there, h4⟩
theorem Rel.rebase (R : Rel K B σ H Hf ρ) : Rel K (reB B σ H Hf ρ) σ H Hf ρ := by
  refine ⟨R.fz, Same.refl _, fun b o e _ => e, fun b o _ e => e, fun a h => (R.ownB h).2.1, R.len, R.dat, R.scr, fun i s o e1 e2 => ?_, R.dis, R.par, (fun z => nomatch z), R.pas⟩
  obtain ⟨a, h1, h2, h3, _⟩ := R.own i s o e1 e2
  exact ⟨a, h1, h2, h3, .inl (mem_ownA.mpr ⟨i, s, o, e1, e2, h1⟩)⟩
theorem Rel.unbase (R : Rel K B σ H Hf ρ) (R' : Rel K (reB B σ H Hf ρ) σ' H' Hf' ρ') : Rel K B σ' H' Hf' ρ' := by
  have s : Same Hf Hf' := R'.zf
  have nown : ∀ b o, B.Hb b = some o → b ∉ B.ms → b ∉ ownA σ ρ := fun b o e m h => by
    rcases (R.ownB h).2.2 with z | z
    · exact m z
    · rw [e] at z; cases z
  refine ⟨R'.fz, R.zf.trans s, fun b o e m => R'.kp b o (R.kp b o e m) (nown b o e m), fun b o e z => ?_, fun a h => ?_, R'.len, R'.dat, R'.scr, fun i s o e1 e2 => ?_, R'.dis, R'.par, fun lf i o e1 a e2 => ?_, R'.pas⟩
  · have h1 := R.nf b o e z
    by_cases hm : b ∈ B.ms
    · obtain ⟨u, hu⟩ := R.mt b hm
      exact R'.nf b u hu h1
    · exact R'.nf b o (R.kp b o e hm) h1
  · obtain ⟨u, hu⟩ := R.mt a h
    by_cases ho : a ∈ ownA σ ρ
    · exact R'.mt a ho
    · exact ⟨u, R'.kp a u hu ho⟩
  · obtain ⟨a, h1, h2, h3, h4⟩ := R'.own i s o e1 e2
    refine ⟨a, h1, h2, h3, ?_⟩
    rcases h4 with z | z
    · exact (R.ownB z).2.2
    · exact .inr (R.newB z)
  · obtain ⟨a', h1, h2, h3, h4⟩ := R'.own i _ o e1 rfl
    rw [e2] at h1
    cases h1
    rcases h4 with z | z
    · obtain ⟨j, s', o', g1, g2, g3⟩ := mem_ownA.mp z
      cases s' with
      | m q => exact R.loc lf j q g1 a g3
      | p q =>
        obtain ⟨b, g4, g5⟩ := R.par j q g1
        rw [g3] at g4
        cases g4
        obtain ⟨g6, q', g7⟩ := R'.pas (j, a) g5
        have e := R'.dis i j _ _ o q' a e1 rfl g7 rfl e2 g6
        subst e
        rw [e1] at g7
        cases g7
      | _ => cases g2
    · exact R.newB z
/-- what a step keeps -/
structure Kp (σ : L2.St) (ρ : Rho) (H Hf : Hp) (σ' : L2.St) (ρ' : Rho) (H' Hf' : Hp) : Prop where
  same : Same Hf Hf'
  kp : ∀ b o, H b = some o → b ∉ ownA σ ρ → H' b = some o
  nf : ∀ b o, H b = some o → Hf b = none → Hf' b = none
  ow : ∀ a, a ∈ ownA σ' ρ' → a ∈ ownA σ ρ ∨ H a = none
  th : ∀ b o, H b = some o → ∃ o', H' b = some o'
theorem Rel.kept (R' : Rel K (reB B σ H Hf ρ) σ' H' Hf' ρ') : Kp σ ρ H Hf σ' ρ' H' Hf' := by
  refine ⟨R'.zf, R'.kp, R'.nf, fun a h => (R'.ownB h).2.2, fun b o e => ?_⟩
  by_cases h : b ∈ ownA σ ρ
  · exact R'.mt b h
  · exact ⟨o, R'.kp b o e h⟩
theorem Kp.refl (σ : L2.St) (ρ : Rho) (H Hf : Hp) : Kp σ ρ H Hf σ ρ H Hf := ⟨Same.refl _, fun _ _ e _ => e, fun _ _ _ e => e, fun _ h => .inl h, fun _ o e => ⟨o, e⟩⟩
theorem Kp.trans {σ2 : L2.St} {ρ2 : Rho} {H2 Hf2 : Hp} (a : Kp σ ρ H Hf σ' ρ' H' Hf') (b : Kp σ' ρ' H' Hf' σ2 ρ2 H2 Hf2) : Kp σ ρ H Hf σ2 ρ2 H2 Hf2 := by
  have nn : ∀ c o, H c = some o → c ∉ ownA σ ρ → c ∉ ownA σ' ρ' := fun c o e n h => by
    rcases a.ow c h with z | z
    · exact n z
    · rw [e] at z; cases z
  refine ⟨a.same.trans b.same, fun c o e n => b.kp c o (a.kp c o e n) (nn c o e n), fun c o e z => ?_, fun c h => ?_, fun c o e => ?_⟩
  · obtain ⟨u, hu⟩ := a.th c o e
    exact b.nf c u hu (a.nf c o e z)
  · rcases b.ow c h with z | z
    · exact a.ow c z
    · cases e : H c with
      | none => exact .inr rfl
      | some o =>
        obtain ⟨u, hu⟩ := a.th c o e
        rw [z] at hu; cases hu
  · obtain ⟨u, hu⟩ := a.th c o e
    exact b.th c u hu
/-- an object that no slot owns is written or laid -/
theorem Rel.anon (R : Rel K B σ H Hf ρ) {p : Addr} (o : HO) (h1 : Hf p = none) (h2 : B.Hb p = none) (h3 : p ∉ ownA σ ρ) : Rel K B σ (upd H p o) Hf ρ := by
  have nf : ∀ b u, Hf b = some u → b ≠ p := fun b u e z => by rw [z, h1] at e; cases e
  refine ⟨fun b u e => by rw [upd_ne (nf b u e)]; exact R.fz b u e, R.zf, fun b u e m => ?_, R.nf, fun a m => ?_, R.len, R.dat, R.scr, fun i s o' e1 e2 => ?_, R.dis, R.par, R.loc, R.pas⟩
  · have : b ≠ p := fun z => by rw [z, h2] at e; cases e
    rw [upd_ne this]
    exact R.kp b u e m
  · by_cases z : a = p
    · subst z; exact ⟨o, upd_same⟩
    · obtain ⟨u, hu⟩ := R.mt a m
      exact ⟨u, by rw [upd_ne z]; exact hu⟩
  · obtain ⟨a, q1, q2, q3, q4⟩ := R.own i s o' e1 e2
    have : a ≠ p := fun z => h3 (mem_ownA.mpr ⟨i, s, o', e1, e2, by rw [← z]; exact q1⟩)
    exact ⟨a, q1, q2, q3.mono (Same.refl _) (by rw [upd_ne this]), q4⟩
theorem Rel.lay (R : Rel K B σ H Hf ρ) {p : Addr} (o : HO) (h : H p = none) : Rel K B σ (upd H p o) Hf ρ :=
  R.anon o (R.newF h) (R.newB h) fun z => by
    obtain ⟨u, hu⟩ := (R.ownB z).2.1
    rw [h] at hu; cases hu
/-- an object that no slot owns is frozen -/
theorem Rel.frz (R : Rel K B σ H Hf ρ) {p : Addr} {o : HO} (h : H p = some o) (h1 : Hf p = none) (h2 : B.Hb p = none) (h3 : p ∉ ownA σ ρ) : Rel K B σ H (upd Hf p o) ρ := by
  have sf : Same Hf (upd Hf p o) := same_upd h1
  refine ⟨fun b u e => ?_, R.zf.trans sf, R.kp, fun b u e z => ?_, R.mt, R.len, fun i d e => ?_, fun i ns e => ?_, fun i s o' e1 e2 => ?_, R.dis, R.par, R.loc, R.pas⟩
  · by_cases z : b = p
    · subst z; rw [upd_same] at e; cases e; exact h
    · rw [upd_ne z] at e; exact R.fz b u e
  · have : b ≠ p := fun q => by rw [q, h2] at e; cases e
    rw [upd_ne this]
    exact R.nf b u e z
  · obtain ⟨v, q1, q2⟩ := R.dat i d e
    exact ⟨v, q1, q2.mono sf⟩
  · obtain ⟨a, q1, q2⟩ := R.scr i ns e
    exact ⟨a, q1, sf.seq q2⟩
  · obtain ⟨a, q1, q2, q3, q4⟩ := R.own i s o' e1 e2
    have : a ≠ p := fun z => h3 (mem_ownA.mpr ⟨i, s, o', e1, e2, by rw [← z]; exact q1⟩)
    exact ⟨a, q1, by rw [upd_ne this]; exact q2, q3.mono sf rfl, q4⟩
/-! ### slots set -/
def notP : Option Slot → Bool
  | some (.p _) => false
  | some _ => true
  | none => false
theorem get_set {α : Type} {l : List α} {i j : Nat} {x y : α} (h : (l.set i x)[j]? = some y) : (j = i ∧ y = x) ∨ (j ≠ i ∧ l[j]? = some y) := by
  by_cases e : i = j
  · subst e
    by_cases hi : i < l.length
    · rw [List.getElem?_set_self hi] at h; cases h; exact .inl ⟨rfl, rfl⟩
    · rw [List.getElem?_eq_none (by simpa using hi)] at h; cases h
  · rw [List.getElem?_set_ne e] at h
    exact .inr ⟨fun z => e z.symm, h⟩
theorem set_get {α : Type} {l : List α} {i j : Nat} {x : α} (h : j ≠ i) : (l.set i x)[j]? = l[j]? := List.getElem?_set_ne fun e => h e.symm
/-- a slot gets a value: data, an object of its own, or nothing that is told -/
def SetOk (K : PySem.W.Frag) (B : Bs) (σ : L2.St) (H Hf : Hp) (ρ : Rho) (ov : Option V) : Slot → Prop
  | .un => True
  | .d x => ∃ v, ov = some v ∧ Rp K Hf v x
  | .m o => ∃ a, ov = some (.ref a) ∧ Hf a = none ∧ ObjR K Hf H a o ∧ B.Hb a = none ∧ a ∉ ownA σ ρ
  | _ => False
theorem Rel.set (R : Rel K B σ H Hf ρ) {i : Nat} {s : Slot} {ov : Option V} (hp : notP ρ[i]? = true) (hs : SetOk K B σ H Hf ρ ov s) : Rel K B (σ.set i ov) H Hf (ρ.set i s) := by
  have hi : i < ρ.length := by
    by_cases h : i < ρ.length
    · exact h
    · rw [List.getElem?_eq_none (by omega)] at hp; cases hp
  have hσ : i < σ.length := by rw [← R.len]; exact hi
  have hne : ∀ q ∈ B.pa, q.1 ≠ i := fun q hq z => by
    obtain ⟨_, o, ho⟩ := R.pas q hq
    rw [z] at ho
    rw [ho] at hp
    cases hp
  refine ⟨R.fz, R.zf, R.kp, R.nf, R.mt, by simp [R.len], fun j d e => ?_, fun j ns e => ?_, fun j s' o e1 e2 => ?_, fun j k s1 s2 o1 o2 a e1 e2 e3 e4 e5 e6 => ?_, fun j o e => ?_, fun lf j o e a e2 => ?_, fun q hq => ?_⟩
  · rcases get_set e with ⟨rfl, rfl⟩ | ⟨n, e⟩
    · obtain ⟨v, rfl, r⟩ := hs
      exact ⟨v, List.getElem?_set_self hσ, r⟩
    · obtain ⟨v, h1, h2⟩ := R.dat j d e
      exact ⟨v, by rw [set_get n]; exact h1, h2⟩
  · rcases get_set e with ⟨rfl, rfl⟩ | ⟨n, e⟩
    · exact hs.elim
    · obtain ⟨v, h1, h2⟩ := R.scr j ns e
      exact ⟨v, by rw [set_get n]; exact h1, h2⟩
  · rcases get_set e1 with ⟨rfl, rfl⟩ | ⟨n, e⟩
    · cases s' with
      | m o' =>
        cases e2
        obtain ⟨a, rfl, h1, h2, h3, _⟩ := hs
        exact ⟨a, List.getElem?_set_self hσ, h1, h2, .inr h3⟩
      | p o' => exact hs.elim
      | _ => cases e2
    · obtain ⟨v, h1, h2⟩ := R.own j s' o e e2
      exact ⟨v, by rw [set_get n]; exact h1, h2⟩
  · have key : ∀ (j k : Nat) (s1 s2 : Slot) (o1 o2 : MO), (ρ.set i s)[j]? = some s1 → s1.obj? = some o1 → (ρ.set i s)[k]? = some s2 → s2.obj? = some o2 → (σ.set i ov)[j]? = some (some (V.ref a)) → (σ.set i ov)[k]? = some (some (V.ref a)) → j = i → k ≠ i → False := by
      intro j k s1 s2 o1 o2 g1 g2 g3 g4 g5 g6 hj hk
      subst hj
      rw [List.getElem?_set_self hi] at g1
      cases g1
      rw [List.getElem?_set_self hσ] at g5
      rw [set_get hk] at g3 g6
      cases s with
      | m o' =>
        obtain ⟨b, rfl, h1, h2, h3, h4⟩ := hs
        cases g5
        exact h4 (mem_ownA.mpr ⟨k, s2, o2, g3, g4, g6⟩)
      | p o' => exact hs.elim
      | _ => cases g2
    by_cases hj : j = i
    · by_cases hk : k = i
      · rw [hj, hk]
      · exact (key j k s1 s2 o1 o2 e1 e2 e3 e4 e5 e6 hj hk).elim
    · by_cases hk : k = i
      · exact (key k j s2 s1 o2 o1 e3 e4 e1 e2 e6 e5 hk hj).elim
      · rw [set_get hj] at e1 e5
        rw [set_get hk] at e3 e6
        exact R.dis j k s1 s2 o1 o2 a e1 e2 e3 e4 e5 e6
  · rcases get_set e with ⟨rfl, rfl⟩ | ⟨n, e⟩
    · exact hs.elim
    · obtain ⟨v, h1, h2⟩ := R.par j o e
      exact ⟨v, by rw [set_get n]; exact h1, h2⟩
  · rcases get_set e with ⟨rfl, rfl⟩ | ⟨n, e⟩
    · obtain ⟨b, rfl, _, _, h3, _⟩ := hs
      rw [List.getElem?_set_self hσ] at e2
      cases e2
      exact h3
    · rw [set_get n] at e2
      exact R.loc lf j o e a e2
  · obtain ⟨h1, o, h2⟩ := R.pas q hq
    exact ⟨by rw [set_get (hne q hq)]; exact h1, o, by rw [set_get (hne q hq)]; exact h2⟩
/-- the object of a slot is written -/
theorem Rel.wr (R : Rel K B σ H Hf ρ) {i : Nat} {s : Slot} {o o' : MO} {a : Addr} {ho : HO} (e1 : ρ[i]? = some s) (e2 : s.obj? = some o) (e3 : σ[i]? = some (some (V.ref a))) (hr : ObjR K Hf (upd H a ho) a o') : Rel K B σ (upd H a ho) Hf (ρ.set i (s.put o')) := by
  have hi : i < ρ.length := (List.getElem?_eq_some_iff.mp e1).1
  have ha : a ∈ ownA σ ρ := mem_ownA.mpr ⟨i, s, o, e1, e2, e3⟩
  obtain ⟨h1, ⟨u, h2⟩, h3⟩ := R.ownB ha
  have pob : ∀ {z : Slot} {q q' : MO}, z.obj? = some q → (z.put q').obj? = some q' := fun {z q q'} h => by cases z <;> first | rfl | cases h
  have spo : (s.put o').obj? = some o' := pob e2
  refine ⟨fun b w e => ?_, R.zf, fun b w e m => ?_, R.nf, fun b m => ?_, by simp [R.len], fun j d e => ?_, fun j ns e => ?_, fun j s' q g1 g2 => ?_, fun j k s1 s2 o1 o2 b g1 g2 g3 g4 g5 g6 => ?_, fun j q e => ?_, fun lf j q e b e' => ?_, fun q hq => ?_⟩
  · have : b ≠ a := fun z => by rw [z, h1] at e; cases e
    rw [upd_ne this]
    exact R.fz b w e
  · have : b ≠ a := fun z => by
      subst z
      rcases h3 with z | z
      · exact m z
      · rw [e] at z; cases z
    rw [upd_ne this]
    exact R.kp b w e m
  · by_cases z : b = a
    · subst z; exact ⟨ho, upd_same⟩
    · rw [upd_ne z]; exact R.mt b m
  · rcases get_set e with ⟨rfl, z⟩ | ⟨n, e⟩
    · rw [← z] at spo; cases spo
    · exact R.dat j d e
  · rcases get_set e with ⟨rfl, z⟩ | ⟨n, e⟩
    · rw [← z] at spo; cases spo
    · exact R.scr j ns e
  · rcases get_set g1 with ⟨rfl, rfl⟩ | ⟨n, e⟩
    · rw [spo] at g2
      cases g2
      exact ⟨a, e3, h1, hr, h3⟩
    · obtain ⟨b, q1, q2, q3, q4⟩ := R.own j s' q e g2
      have : b ≠ a := fun z => n (R.dis j i s' s q o a e g2 e1 e2 (by rw [← z]; exact q1) e3)
      exact ⟨b, q1, q2, q3.mono (Same.refl _) (by rw [upd_ne this]), q4⟩
  · have back : ∀ (j : Nat) (s1 : Slot) (o1 : MO), (ρ.set i (s.put o'))[j]? = some s1 → s1.obj? = some o1 → ∃ s0 o0, ρ[j]? = some s0 ∧ s0.obj? = some o0 := fun j s1 o1 g1 g2 => by
      rcases get_set g1 with ⟨rfl, rfl⟩ | ⟨n, e⟩
      · exact ⟨s, o, e1, e2⟩
      · exact ⟨s1, o1, e, g2⟩
    obtain ⟨t1, p1, b1, c1⟩ := back j s1 o1 g1 g2
    obtain ⟨t2, p2, b2, c2⟩ := back k s2 o2 g3 g4
    exact R.dis j k t1 t2 p1 p2 b b1 c1 b2 c2 g5 g6
  · rcases get_set e with ⟨rfl, z⟩ | ⟨n, e⟩
    · cases s with
      | p q' => exact R.par j q' e1
      | m q' => cases z
      | _ => cases e2
    · exact R.par j q e
  · rcases get_set e with ⟨rfl, z⟩ | ⟨n, e⟩
    · cases s with
      | m q' => exact R.loc lf j q' e1 b e'
      | p q' => cases z
      | _ => cases e2
    · exact R.loc lf j q e b e'
  · obtain ⟨q1, o2, q2⟩ := R.pas q hq
    refine ⟨q1, ?_⟩
    by_cases z : q.1 = i
    · rw [z] at q2 ⊢
      rw [e1] at q2
      cases q2
      exact ⟨o', List.getElem?_set_self hi⟩
    · exact ⟨o2, by rw [set_get z]; exact q2⟩
end
section
variable {X : Cx} {e : Expr}
theorem DE.kept {f : FE} (h : DE X e f) : ∃ t, PE X e t ∧ ∀ (B : Bs) (σ : L2.St) (H Hf : Hp) (ρ : Rho) (d : PyData) (ρ' : Rho) (Q : VK), Rel X.K B σ H Hf ρ → f ρ = some (d, ρ') →
    (∀ v H' Hf', Rel X.K B σ H' Hf' ρ' → Kp σ ρ H Hf σ ρ' H' Hf' → Rp X.K Hf' v d → Q v H') → t σ H Q := by
  obtain ⟨t, p, q⟩ := h.ex
  exact ⟨t, p, fun B σ H Hf ρ d ρ' Q R e k => q _ σ H Hf ρ d ρ' Q R.rebase e fun v H' Hf' R' s r => k v H' Hf' (R.unbase R') R'.kept r⟩
theorem DT.kept {f : FT} (h : DT X e f) : ∃ t, PT X e t ∧ ∀ (B : Bs) (σ : L2.St) (H Hf : Hp) (ρ : Rho) (d : Bool) (ρ' : Rho) (Q : Bool → Hp → Prop), Rel X.K B σ H Hf ρ → f ρ = some (d, ρ') →
    (∀ H' Hf', Rel X.K B σ H' Hf' ρ' → Kp σ ρ H Hf σ ρ' H' Hf' → Q d H') → t σ H Q := by
  obtain ⟨t, p, q⟩ := h.ex
  exact ⟨t, p, fun B σ H Hf ρ d ρ' Q R e k => q _ σ H Hf ρ d ρ' Q R.rebase e fun H' Hf' R' s => k H' Hf' (R.unbase R') R'.kept⟩
end
end Y
set_option Elab.async false
set_option linter.all false
set_option maxRecDepth 100000
set_option maxHeartbeats 4000000
set_option autoImplicit false
namespace Y
open PySem PySem.Spec L2
/-! ### a fresh object of one's own -/
abbrev FF := Rho → Option (MO × Rho)
structure FreshAt (K : PySem.W.Frag) (B : Bs) (σ : L2.St) (ρ : Rho) (H Hf : Hp) (p : Addr) (o : MO) : Prop where
  nf : Hf p = none
  nb : B.Hb p = none
  no : p ∉ ownA σ ρ
  ob : ObjR K Hf H p o
structure DF (X : Cx) (e : Expr) (f : FF) : Prop where
  ex : ∃ t, PE X e t ∧ ∀ (B : Bs) (σ : L2.St) (H Hf : Hp) (ρ : Rho) (o : MO) (ρ' : Rho) (Q : VK), Rel X.K B σ H Hf ρ → f ρ = some (o, ρ') →
    (∀ p H' Hf', Rel X.K B σ H' Hf' ρ' → Same Hf Hf' → FreshAt X.K B σ ρ' H' Hf' p o → Q (.ref p) H') → t σ H Q
/-- a value that is stored: data or a fresh object -/
abbrev FG := Rho → Option (Slot × Rho)
def SlotV (K : PySem.W.Frag) (B : Bs) (σ : L2.St) (ρ : Rho) (H Hf : Hp) (v : V) : Slot → Prop
  | .d x => Rp K Hf v x
  | .m o => ∃ p, v = .ref p ∧ FreshAt K B σ ρ H Hf p o
  | _ => False
structure DG (X : Cx) (e : Expr) (f : FG) : Prop where
  ex : ∃ t, PE X e t ∧ ∀ (B : Bs) (σ : L2.St) (H Hf : Hp) (ρ : Rho) (s : Slot) (ρ' : Rho) (Q : VK), Rel X.K B σ H Hf ρ → f ρ = some (s, ρ') →
    (∀ v H' Hf', Rel X.K B σ H' Hf' ρ' → Same Hf Hf' → SlotV X.K B σ ρ' H' Hf' v s → Q v H') → t σ H Q
section
variable {K : PySem.W.Frag} {B : Bs} {σ σ' : L2.St} {H H' Hf Hf' : Hp} {ρ ρ' : Rho}
theorem FreshAt.keep {p : Addr} {o : MO} (F : FreshAt K B σ ρ H Hf p o) (k : Kp σ ρ H Hf σ' ρ' H' Hf') : FreshAt K B σ' ρ' H' Hf' p o := by
  obtain ⟨u, hu⟩ := F.ob.there
  refine ⟨k.nf p u hu F.nf, F.nb, fun h => ?_, F.ob.mono k.same ?_⟩
  · rcases k.ow p h with z | z
    · exact F.no z
    · rw [hu] at z; cases z
  · rw [hu]; exact k.kp p u hu F.no
theorem SlotV.keep {v : V} {s : Slot} (h : SlotV K B σ ρ H Hf v s) (k : Kp σ ρ H Hf σ' ρ' H' Hf') : SlotV K B σ' ρ' H' Hf' v s := by
  cases s with
  | d x => exact Rp.mono k.same h
  | m o => obtain ⟨p, e, F⟩ := h; exact ⟨p, e, F.keep k⟩
  | _ => exact h
theorem SlotV.rebase {v : V} {s : Slot} (R : Rel K B σ H Hf ρ) (h : SlotV K (reB B σ H Hf ρ) σ' ρ' H' Hf' v s) : SlotV K B σ' ρ' H' Hf' v s := by
  cases s with
  | d x => exact h
  | m o => obtain ⟨p, e, F⟩ := h; exact ⟨p, e, F.nf, R.newB F.nb, F.no, F.ob⟩
  | _ => exact h
end
section
variable {X : Cx} {e a b c : Expr}
def gE (f : FE) : FG := fun ρ => (f ρ).map fun p => (.d p.1, p.2)
def gF (f : FF) : FG := fun ρ => (f ρ).map fun p => (.m p.1, p.2)
theorem dg_e {f : FE} (h : DE X e f) : DG X e (gE f) := by
  obtain ⟨t, p, q⟩ := h.ex
  refine ⟨t, p, fun B σ H Hf ρ d ρ' Q R e k => ?_⟩
  unfold gE at e
  cases e1 : f ρ with
  | none => rw [e1] at e; cases e
  | some z =>
    rw [e1] at e
    cases e
    exact q B σ H Hf ρ z.1 z.2 Q R e1 fun v H' Hf' R' s r => k v H' Hf' R' s r
theorem dg_f {f : FF} (h : DF X e f) : DG X e (gF f) := by
  obtain ⟨t, p, q⟩ := h.ex
  refine ⟨t, p, fun B σ H Hf ρ d ρ' Q R e k => ?_⟩
  unfold gF at e
  cases e1 : f ρ with
  | none => rw [e1] at e; cases e
  | some z =>
    rw [e1] at e
    cases e
    exact q B σ H Hf ρ z.1 z.2 Q R e1 fun v H' Hf' R' s r => k _ H' Hf' R' s ⟨v, rfl, r⟩
/-- a fresh object that will not change any more -/
def fFz (f : FF) : FE := fun ρ => (f ρ).map fun p => (mD p.1, p.2)
theorem de_fz {f : FF} (h : DF X e f) : DE X e (fFz f) := by
  obtain ⟨t, p, q⟩ := h.ex
  refine ⟨t, p, fun B σ H Hf ρ d ρ' Q R e k => ?_⟩
  unfold fFz at e
  cases e1 : f ρ with
  | none => rw [e1] at e; cases e
  | some z =>
    rw [e1] at e
    obtain ⟨o, ρ1⟩ := z
    cases e
    refine q B σ H Hf ρ o _ Q R e1 fun p H' Hf' R' s F => ?_
    cases o with
    | lst xs =>
      obtain ⟨vs, h1, h2⟩ := F.ob
      have sf : Same Hf' (upd Hf' p (.lst vs)) := same_upd F.nf
      exact k _ H' _ (R'.frz h1 F.nf F.nb F.no) (s.trans sf) (.lst upd_same (h2.mono sf))
    | dct kvs =>
      obtain ⟨vs, h1, h2⟩ := F.ob
      have sf : Same Hf' (upd Hf' p (.dK vs)) := same_upd F.nf
      exact k _ H' _ (R'.frz h1 F.nf F.nb F.no) (s.trans sf) (.dct upd_same (rp_kv (h2.mono sf)))
theorem fresh_lay {K : PySem.W.Frag} {B : Bs} {σ : L2.St} {H Hf : Hp} {ρ : Rho} {p : Addr} {o : MO} {ho : HO} (R : Rel K B σ H Hf ρ) (h : H p = none) (hr : ObjR K Hf (upd H p ho) p o) : FreshAt K B σ ρ (upd H p ho) Hf p o := by
  refine ⟨R.newF h, R.newB h, fun z => ?_, hr⟩
  obtain ⟨u, hu⟩ := (R.ownB z).2.1
  rw [h] at hu
  cases hu
def fLstF (f : FA) : FF := fun ρ => (f ρ).bind fun p => (datas p.1).bind fun xs => if xs.length ≤ sizeLine then some (.lst xs, p.2) else none
theorem df_lst {es : List Expr} {f : FA} {pos : Pos} (h : DA X es f) : DF X (.List es pos) (fLstF f) := by
  obtain ⟨t, p, q⟩ := h.ex
  refine ⟨_, pe_lst p, fun B σ H Hf ρ d ρ' Q R e k => ?_⟩
  unfold fLstF at e
  cases e1 : f ρ with
  | none => rw [e1] at e; cases e
  | some z =>
    obtain ⟨avs, ρ1⟩ := z
    cases e2 : datas avs with
    | none => simp [e1, e2] at e
    | some xs =>
      simp [e1, e2] at e
      obtain ⟨hz, rfl, rfl⟩ := e
      refine q B σ H Hf ρ avs ρ1 _ R e1 fun vs H' Hf' R' s o => ?_
      have rp := datas_rp o e2
      exact ⟨by rw [rp.length]; exact hz, fun t ht => k t _ _ (R'.lay _ ht) s (fresh_lay R' ht ⟨vs, upd_same, rp⟩)⟩
def fNilD : FF := fun ρ => some (.dct [], ρ)
theorem df_nild {pos : Pos} : DF X (.Dict [] [] pos) fNilD := by
  refine ⟨_, pe_dnewK, fun B σ H Hf ρ d ρ' Q R e k => ?_⟩
  cases e
  exact fun p hp => k p _ _ (R.lay _ hp) (Same.refl _) (fresh_lay R hp ⟨[], upd_same, .nil⟩)
def fListF (f : FO) : FF := fun ρ => (f ρ).bind fun p => (p.1.get p.2).bind fun x => match x with
  | .list xs => some (.lst xs, p.2)
  | .tuple xs => some (.lst xs, p.2)
  | _ => none
theorem df_list {f : FO} {p pos : Pos} (hg : Gl X "list") (hm : X.mg "list" = none) (h : DO X a f) (he : starEach [a] X.env = (false, eval a X.env) :: starEach [] X.env := by rfl) : DF X (.Call (.Name "list" p) [a] [] pos) (fListF f) := by
  obtain ⟨t, pa, q⟩ := h.ex
  refine ⟨_, pe_callTy call_list_of hg hm (by decide +kernel) (pa_cons pa pa_nil he) (by decide) (by decide) he, fun B σ H Hf ρ d ρ' Q R e k => ?_⟩
  unfold fListF at e
  cases e1 : f ρ with
  | none => rw [e1] at e; cases e
  | some z =>
    obtain ⟨av, ρ1⟩ := z
    cases e2 : av.get ρ1 with
    | none => simp [e1, e2] at e
    | some x =>
      simp only [e1, e2, Option.bind_some] at e
      refine q B σ H Hf ρ av ρ1 _ R e1 fun v H' Hf' R' s o => ?_
      have rx := av_get R' o e2
      cases x with
      | list xs =>
        cases e
        obtain ⟨p, vs, rfl, h1, h2⟩ := rx.list R'.fz
        exact ⟨p, vs, rfl, .inl (SqL.of h1), fun t ht => k t _ _ (R'.lay _ ht) s (fresh_lay R' ht ⟨vs, upd_same, h2⟩)⟩
      | tuple xs =>
        cases e
        obtain ⟨p, vs, rfl, h1, h2, _⟩ := rx.tup R'.fz
        exact ⟨p, vs, rfl, .inr h1, fun t ht => k t _ _ (R'.lay _ ht) s (fresh_lay R' ht ⟨vs, upd_same, h2⟩)⟩
      | _ => cases e
/-! ### simple statements -/
def fSet (i : Nat) (f : FG) : FS := fun ρ => (f ρ).bind fun p => if notP p.2[i]? = true then some (.nx (p.2.set i p.1)) else none
theorem slotv_set {K : PySem.W.Frag} {B : Bs} {σ : L2.St} {ρ : Rho} {H Hf : Hp} {v : V} {s : Slot} (h : SlotV K B σ ρ H Hf v s) : SetOk K B σ H Hf ρ (some v) s := by
  cases s with
  | d x => exact ⟨v, rfl, h⟩
  | m o => obtain ⟨p, e, F⟩ := h; exact ⟨p, by rw [e], F.nf, F.ob, F.nb, F.no⟩
  | un => trivial
  | _ => exact h
theorem ds_set {i : Nat} {x : Str} {f : FG} {pos pos' : Pos} (hN : X.N.Nodup) (hi : X.N[i]? = some x) (hx : Loc X.env.scope x) (h : DG X e f) (hs : swapsWith e (some (.Name x pos')) pos.line X.env = pure false := by rfl)
    (hf : X.fn x = true ∨ X.env.scope.names.lookup x = some .local := by first | exact .inl rfl | exact .inr rfl | assumption) : DS X (.Assign [.Name x pos'] e pos) (fSet i f) := by
  obtain ⟨t, p, q⟩ := h.ex
  refine ⟨_, ps_set hN hi hx p hs hf, fun B lf σ H Hf ρ o D R e k => ?_⟩
  unfold fSet at e
  cases e1 : f ρ with
  | none => rw [e1] at e; cases e
  | some z =>
    obtain ⟨s, ρ1⟩ := z
    simp only [e1, Option.bind_some] at e
    split at e
    · rename_i hp
      cases e
      exact q B σ H Hf ρ s ρ1 _ R e1 fun v H' Hf' R' ss sv => k _ _ _ (R'.set hp (slotv_set sv)) ss
    · cases e
def fDrop (f : FE) : FS := fun ρ => (f ρ).map fun p => .nx p.2
theorem ds_expr {f : FE} {pos : Pos} (h : DE X e f) (hs : swapsWith e none pos.line X.env = pure false := by rfl) : DS X (.Expr e pos) (fDrop f) := by
  obtain ⟨t, p, q⟩ := h.ex
  refine ⟨_, ps_expr p hs, fun B lf σ H Hf ρ o D R e k => ?_⟩
  unfold fDrop at e
  cases e1 : f ρ with
  | none => rw [e1] at e; cases e
  | some z =>
    rw [e1] at e
    cases e
    exact q B σ H Hf ρ z.1 z.2 _ R e1 fun v H' Hf' R' s r => k σ H' Hf' R' s
def fRet (f : FE) : FS := fun ρ => (f ρ).map fun p => .rt p.1 p.2
theorem ds_ret {f : FE} {pos : Pos} (h : DE X e f) : DS X (.Return (some e) pos) (fRet f) := by
  obtain ⟨t, p, q⟩ := h.ex
  refine ⟨_, ps_ret p, fun B lf σ H Hf ρ o D R e k => ?_⟩
  unfold fRet at e
  cases e1 : f ρ with
  | none => rw [e1] at e; cases e
  | some z =>
    rw [e1] at e
    cases e
    exact q B σ H Hf ρ z.1 z.2 _ R e1 fun v H' Hf' R' s r => k σ H' Hf' v R' s r
def fRetN : FS := fun ρ => some (.rt .none ρ)
theorem ds_retN {pos : Pos} : DS X (.Return none pos) fRetN := ⟨_, ps_retN, fun B lf σ H Hf ρ o D R e k => by
  cases e
  exact k σ H Hf .non R (Same.refl _) .non⟩
def fIfS (t : FT) (f g : FS) : FS := fun ρ => (t ρ).bind fun p => if p.1 = true then f p.2 else g p.2
theorem ds_if {t : FT} {f g : FS} {sa sb : List Stmt} {pos : Pos} (h : DT X c t) (ha : DSs X sa f) (hb : DSs X sb g) : DS X (.If c sa sb pos) (fIfS t f g) := by
  obtain ⟨t0, p, q⟩ := h.ex
  obtain ⟨t1, p1, q1⟩ := ha.ex
  obtain ⟨t2, p2, q2⟩ := hb.ex
  refine ⟨_, ps_if p p1 p2, fun B lf σ H Hf ρ o D R e k => ?_⟩
  unfold fIfS at e
  cases e1 : t ρ with
  | none => rw [e1] at e; cases e
  | some z =>
    rw [e1] at e
    obtain ⟨zb, ρ1⟩ := z
    refine q B σ H Hf ρ zb ρ1 _ R e1 fun H' Hf' R' s => ?_
    cases zb with
    | true => exact iteT (q1 B lf σ H' Hf' ρ1 o D R' e (k.mono s))
    | false => exact iteF (q2 B lf σ H' Hf' ρ1 o D R' e (k.mono s))
def fBrk : FS := fun ρ => some (.bk ρ)
def fCnt : FS := fun ρ => some (.ct ρ)
theorem ds_break {pos : Pos} : DS X (.Break pos) fBrk := ⟨_, ps_break, fun B lf σ H Hf ρ o D R e k => by cases e; exact k σ H Hf R (Same.refl _)⟩
theorem ds_continue {pos : Pos} : DS X (.Continue pos) fCnt := ⟨_, ps_continue, fun B lf σ H Hf ρ o D R e k => by cases e; exact k σ H Hf R (Same.refl _)⟩
theorem ds_pass {pos : Pos} : DS X (.Pass pos) fNil := ⟨_, ps_pass, fun B lf σ H Hf ρ o D R e k => by cases e; exact k σ H Hf R (Same.refl _)⟩
/-- a slot's own object changes no more -/
def frzS (i : Nat) (ρ : Rho) : Rho := match ρ[i]? with
  | some (.m o) => ρ.set i (.d (mD o))
  | _ => ρ
theorem Rel.frzS {K : PySem.W.Frag} {B : Bs} {σ : L2.St} {H Hf : Hp} {ρ : Rho} (lf : B.lf = true) (i : Nat) (R : Rel K B σ H Hf ρ) : ∃ Hf', Rel K B σ H Hf' (frzS i ρ) ∧ Same Hf Hf' := by
  unfold Y.frzS
  split
  · rename_i o e
    obtain ⟨a, h1, h2, h3, h4⟩ := R.own i _ o e rfl
    have nb := R.loc lf i o e a h1
    have hp : notP ρ[i]? = true := by rw [e]; rfl
    -- forget the slot first
    have R1 : Rel K B (σ.set i (some (.ref a))) H Hf (ρ.set i .un) := R.set hp trivial
    have es : σ.set i (some (.ref a)) = σ := by
      apply List.ext_getElem?
      intro j
      by_cases hj : j = i
      · subst hj; rw [List.getElem?_set_self (List.getElem?_eq_some_iff.mp h1).1, h1]
      · rw [set_get hj]
    rw [es] at R1
    have no : a ∉ ownA σ (ρ.set i .un) := fun z => by
      obtain ⟨j, s, q, g1, g2, g3⟩ := mem_ownA.mp z
      rcases get_set g1 with ⟨rfl, rfl⟩ | ⟨n, g⟩
      · cases g2
      · exact n (R.dis j i s _ q o a g g2 e rfl g3 h1)
    have fin : ∀ ho : HO, H a = some ho → Rp K (upd Hf a ho) (.ref a) (mD o) → ∃ Hf', Rel K B σ H Hf' (ρ.set i (.d (mD o))) ∧ Same Hf Hf' := fun ho eh r => by
      have R2 := R1.frz eh h2 nb no
      have hp2 : notP (ρ.set i Slot.un)[i]? = true := by
        rw [List.getElem?_set_self (List.getElem?_eq_some_iff.mp e).1]; rfl
      have R3 := R2.set (s := .d (mD o)) (ov := some (.ref a)) hp2 ⟨_, rfl, r⟩
      rw [es, List.set_set] at R3
      exact ⟨_, R3, same_upd h2⟩
    have sf : ∀ ho : HO, Same Hf (upd Hf a ho) := fun ho => same_upd h2
    cases o with
    | lst xs =>
      obtain ⟨vs, g1, g2⟩ := h3
      exact fin _ g1 (.lst upd_same (g2.mono (sf _)))
    | dct kvs =>
      obtain ⟨vs, g1, g2⟩ := h3
      exact fin _ g1 (.dct upd_same (rp_kv (g2.mono (sf _))))
  · exact ⟨Hf, R, Same.refl _⟩
/-- ahead of a block: slot i's object changes no more -/
theorem dss_frz (i : Nat) {st : List Stmt} {f : FS} (h : DSs X st f) : DSs X st (fun ρ => f (frzS i ρ)) := by
  obtain ⟨t, p, q⟩ := h.ex
  refine ⟨t, p, fun B lf σ H Hf ρ o D R e k => ?_⟩
  obtain ⟨Hf', R', s⟩ := R.frzS lf i
  exact q B lf σ H Hf' _ o D R' e (k.mono s)
end
end Y
set_option Elab.async false
set_option linter.all false
set_option maxRecDepth 100000
set_option maxHeartbeats 4000000
set_option autoImplicit false
namespace Y
open PySem PySem.Spec L2
/-! ### targets -/
abbrev FB := PyData → Rho → Option Rho
/-- the slots outside of js are as they were -/
def Agree (js : List Nat) (σ σ' : L2.St) : Prop := σ'.length = σ.length ∧ ∀ j, j ∉ js → σ'[j]? = σ[j]?
structure DB (X : Cx) (tg : Expr) (js : List Nat) (f : FB) : Prop where
  ex : ∃ g, PG X tg g ∧ ∀ (B : Bs) (σ : L2.St) (H Hf : Hp) (ρ : Rho) (v : V) (d : PyData) (ρ' : Rho) (Q : L2.St → Hp → Prop), Rel X.K B σ H Hf ρ → Rp X.K Hf v d → f d ρ = some ρ' →
    (∀ σ', Rel X.K B σ' H Hf ρ' → Agree js σ σ' → Q σ' H) → g v σ H Q
abbrev FBs := List PyData → Rho → Option Rho
structure DBs (X : Cx) (tgs : List Expr) (js : List Nat) (f : FBs) : Prop where
  ex : ∃ g, PGs X tgs g ∧ ∀ (B : Bs) (σ : L2.St) (H Hf : Hp) (ρ : Rho) (vs : List V) (ds : List PyData) (ρ' : Rho) (Q : L2.St → Hp → Prop), Rel X.K B σ H Hf ρ → RpAll X.K Hf vs ds → f ds ρ = some ρ' →
    (∀ σ', Rel X.K B σ' H Hf ρ' → Agree js σ σ' → Q σ' H) → g vs σ H Q
theorem Agree.refl (js : List Nat) (σ : L2.St) : Agree js σ σ := ⟨rfl, fun _ _ => rfl⟩
theorem Agree.set (i : Nat) (v : Option V) (σ : L2.St) : Agree [i] σ (σ.set i v) := ⟨by simp, fun j h => set_get (by simpa using h)⟩
theorem Agree.trans {a b : List Nat} {σ σ' σ2 : L2.St} (h : Agree a σ σ') (h2 : Agree b σ' σ2) : Agree (a ++ b) σ σ2 :=
  ⟨h2.1.trans h.1, fun j n => (h2.2 j fun z => n (List.mem_append_right _ z)).trans (h.2 j fun z => n (List.mem_append_left _ z))⟩
section
variable {X : Cx} {e a b c : Expr}
def bName (i : Nat) : FB := fun d ρ => if notP ρ[i]? = true then some (ρ.set i (.d d)) else none
theorem db_name {i : Nat} {x : Str} {pos : Pos} (hN : X.N.Nodup) (hi : X.N[i]? = some x) (hx : Loc X.env.scope x) (hf : X.fn x = true ∨ X.env.scope.names.lookup x = some .local := by first | exact .inl rfl | exact .inr rfl | assumption) : DB X (.Name x pos) [i] (bName i) := by
  refine ⟨_, pg_name hN hi hx hf, fun B σ H Hf ρ v d ρ' Q R r e k => ?_⟩
  unfold bName at e
  split at e
  · rename_i hp
    cases e
    exact k _ (R.set (s := .d d) hp ⟨v, rfl, r⟩) (Agree.set _ _ _)
  · cases e
def bNil : FBs := fun ds ρ => match ds with
  | [] => some ρ
  | _ => none
def bCons (f : FB) (g : FBs) : FBs := fun ds ρ => match ds with
  | d :: r => (f d ρ).bind fun ρ1 => g r ρ1
  | _ => none
theorem dbs_nil : DBs X [] [] bNil := by
  refine ⟨_, pgs_nil, fun B σ H Hf ρ vs ds ρ' Q R r e k => ?_⟩
  cases r with
  | nil => cases e; exact ⟨rfl, k σ R (Agree.refl _ _)⟩
  | cons h t => cases e
theorem dbs_cons {es : List Expr} {js ks : List Nat} {f : FB} {g : FBs} (h1 : DB X e js f) (h2 : DBs X es ks g)
    (hs : (assignEach (e :: es) X.env).map (·.2) = assign e X.env :: (assignEach es X.env).map (·.2) := by rfl) : DBs X (e :: es) (js ++ ks) (bCons f g) := by
  obtain ⟨t, p, q⟩ := h1.ex
  obtain ⟨t2, p2, q2⟩ := h2.ex
  refine ⟨_, pgs_cons p p2 hs, fun B σ H Hf ρ vs ds ρ' Q R r e k => ?_⟩
  cases r with
  | nil => cases e
  | @cons v vs d ds h t =>
    unfold bCons at e
    dsimp only at e
    cases e1 : f d ρ with
    | none => rw [e1] at e; cases e
    | some ρ1 =>
      rw [e1] at e
      exact ⟨v, vs, rfl, q B σ H Hf ρ v d ρ1 _ R h e1 fun σ1 R1 a1 => q2 B σ1 H Hf ρ1 vs ds ρ' Q R1 t e fun σ2 R2 a2 => k σ2 R2 (a1.trans a2)⟩
def bTup (n : Nat) (f : FBs) : FB := fun d ρ => match d with
  | .tuple xs => if xs.length = n then f xs ρ else none
  | _ => none
theorem db_tup {es : List Expr} {kk : Nat} {pos : Pos} {js : List Nat} {f : FBs} {n : Nat} (hc : X.calm = true) (h : DBs X es js f) (hn : (assignEach es X.env).length = n := by rfl) (hst : (assignEach es X.env).findIdx? (·.1) = none := by rfl) : DB X (.Tuple es kk pos) js (bTup n f) := by
  obtain ⟨t, p, q⟩ := h.ex
  refine ⟨_, pg_tup hc p hn hst, fun B σ H Hf ρ v d ρ' Q R r e k => ?_⟩
  unfold bTup at e
  split at e
  · split at e
    · rename_i xs hl
      cases r with
      | tup h1 h2 => exact ⟨_, _, rfl, sqT_mono R.fz h1, by rw [h2.length]; exact hl, q B σ H Hf ρ _ _ ρ' Q R h2 e k⟩
    · cases e
  · cases e
/-- target = e, a tuple taken apart -/
def fAsg (f : FE) (g : FB) : FS := fun ρ => (f ρ).bind fun p => (g p.1 p.2).map fun ρ' => .nx ρ'
theorem ds_asg {tg e : Expr} {f : FE} {js : List Nat} {g : FB} {pos : Pos} (h : DE X e f) (hg : DB X tg js g) (hs : swapsWithSole [tg] e pos.line X.env = pure false := by rfl) (hw : swappedStores [tg] e X.env = pure none := by rfl)
    (ha : (assignEach [tg] X.env).map (·.2) = [assign tg X.env] := by rfl) : DS X (.Assign [tg] e pos) (fAsg f g) := by
  obtain ⟨t, p, q⟩ := h.ex
  obtain ⟨t2, p2, q2⟩ := hg.ex
  refine ⟨_, ps_asg p p2 hs hw ha, fun B lf σ H Hf ρ o D R e k => ?_⟩
  unfold fAsg at e
  cases e1 : f ρ with
  | none => rw [e1] at e; cases e
  | some z =>
    obtain ⟨d, ρ1⟩ := z
    cases e2 : g d ρ1 with
    | none => simp [e1, e2] at e
    | some ρ2 =>
      simp [e1, e2] at e
      subst e
      exact q B σ H Hf ρ d ρ1 _ R e1 fun v H' Hf' R' s r => q2 B σ H' Hf' ρ1 v d ρ2 _ R' r e2 fun σ' R2 _ => k σ' H' Hf' R2 s
/-! ### what a loop walks -/
def ItOk (K : PySem.W.Frag) (Hf : Hp) (J : It) (ds : List PyData) : Prop :=
  (∀ i H, Same Hf H → i < ds.length → J.go i H) ∧ (∀ i H, Same Hf H → ds.length ≤ i → J.stop i H) ∧
  ∀ i H x H', Same Hf H → i < ds.length → J.yld i H x H' → ∃ d, ds[i]? = some d ∧ ((H' = H ∧ Rp K Hf x d) ∨ ∃ T vs es, x = .ref T ∧ H T = none ∧ H' = upd H T (.tup vs) ∧ RpAll K Hf vs es ∧ d = .tuple es)
abbrev FI := Rho → Option (List PyData × Rho)
structure DI (X : Cx) (tg iter : Expr) (f : FI) : Prop where
  ex : ∃ wi, PI X tg iter wi ∧ ∀ (B : Bs) (σ : L2.St) (H Hf : Hp) (ρ : Rho) (ds : List PyData) (ρ' : Rho) (Q : It → Hp → Prop), Rel X.K B σ H Hf ρ → f ρ = some (ds, ρ') →
    (∀ J H' Hf', Rel X.K B σ H' Hf' ρ' → Same Hf Hf' → ItOk X.K Hf' J ds → Q J H') → wi σ H Q
theorem itl_ok {K : PySem.W.Frag} {Hf : Hp} {a : Addr} {vs : List V} {ds : List PyData} (h : Hf a = some (.lst vs)) (r : RpAll K Hf vs ds) : ItOk K Hf (Itl K a) ds := by
  refine ⟨fun i H s hi => ⟨vs, vs[i]'(by rw [r.length]; exact hi), SqL.of (s _ _ h), by simp [r.length, hi]⟩, fun i H s hi => ⟨vs, SqL.of (s _ _ h), by rw [r.length]; exact hi⟩, fun i H x H' s hi y => ?_⟩
  obtain ⟨rfl, y⟩ := y
  have e := y vs (SqL.of (s _ _ h))
  obtain ⟨d, h1, h2⟩ := r.getV e
  exact ⟨d, h1, .inl ⟨rfl, h2⟩⟩
theorem itt_ok {K : PySem.W.Frag} {Hf : Hp} {a : Addr} {vs : List V} {ds : List PyData} (h : SqT K Hf a vs) (r : RpAll K Hf vs ds) : ItOk K Hf (Itt K a) ds := by
  refine ⟨fun i H s hi => ⟨vs, vs[i]'(by rw [r.length]; exact hi), sqT_mono s h, by simp [r.length, hi]⟩, fun i H s hi => ⟨vs, sqT_mono s h, by rw [r.length]; exact hi⟩, fun i H x H' s hi y => ?_⟩
  obtain ⟨rfl, y⟩ := y
  have e := y vs (sqT_mono s h)
  obtain ⟨d, h1, h2⟩ := r.getV e
  exact ⟨d, h1, .inl ⟨rfl, h2⟩⟩
def iL (f : FE) : FI := fun ρ => (f ρ).bind fun p => match p.1 with
  | .list xs => some (xs, p.2)
  | _ => none
def iT (f : FE) : FI := fun ρ => (f ρ).bind fun p => match p.1 with
  | .tuple xs => some (xs, p.2)
  | _ => none
theorem di_list {tg : Expr} {f : FE} (h : DE X e f) : DI X tg e (iL f) := by
  obtain ⟨t, p, q⟩ := h.ex
  refine ⟨_, pi_list p, fun B σ H Hf ρ ds ρ' Q R e k => ?_⟩
  unfold iL at e
  cases e1 : f ρ with
  | none => rw [e1] at e; cases e
  | some z =>
    obtain ⟨d, ρ1⟩ := z
    cases d <;> simp [e1] at e
    obtain ⟨rfl, rfl⟩ := e
    refine q B σ H Hf ρ _ ρ1 _ R e1 fun v H' Hf' R' s r => ?_
    cases r with
    | lst h1 h2 => exact ⟨_, rfl, ⟨_, SqL.of (R'.fz _ _ h1)⟩, k _ H' Hf' R' s (itl_ok h1 h2)⟩
theorem di_tup {tg : Expr} {f : FE} (h : DE X e f) : DI X tg e (iT f) := by
  obtain ⟨t, p, q⟩ := h.ex
  refine ⟨_, pi_tup p, fun B σ H Hf ρ ds ρ' Q R e k => ?_⟩
  unfold iT at e
  cases e1 : f ρ with
  | none => rw [e1] at e; cases e
  | some z =>
    obtain ⟨d, ρ1⟩ := z
    cases d <;> simp [e1] at e
    obtain ⟨rfl, rfl⟩ := e
    refine q B σ H Hf ρ _ ρ1 _ R e1 fun v H' Hf' R' s r => ?_
    cases r with
    | tup h1 h2 => exact ⟨_, rfl, ⟨_, sqT_mono R'.fz h1⟩, k _ H' Hf' R' s (itt_ok h1 h2)⟩
/-- 0, 1, .. (n of them) -/
def rngD (n : Nat) : List PyData := (List.range n).map fun i => .int (i : Nat)
theorem rngD_len (n : Nat) : (rngD n).length = n := by simp [rngD]
theorem itr_ok {K : PySem.W.Frag} {Hf : Hp} (n : Nat) : ItOk K Hf (Itr 0 n) (rngD n) := by
  refine ⟨fun i H s hi => by rw [rngD_len] at hi; exact hi, fun i H s hi => by rw [rngD_len] at hi; exact hi, fun i H x H' s hi y => ?_⟩
  obtain ⟨rfl, rfl⟩ := y
  rw [rngD_len] at hi
  refine ⟨.int (i : Nat), by simp [rngD, hi], .inl ⟨rfl, ?_⟩⟩
  rw [Int.zero_add]
  exact .int _
def iR (f : FO) : FI := fun ρ => (f ρ).bind fun p => match p.1 with
  | .d (.int j) => if -(2 ^ 62) ≤ j ∧ j < 2 ^ 62 then some (rngD j.toNat, p.2) else none
  | _ => none
theorem di_range {tg : Expr} {f : FO} {p pos : Pos} (hg : Gl X "range") (hm : X.mg "range" = none) (h : DO X a f) (he : starEach [a] X.env = [(false, eval a X.env)] := by rfl) : DI X tg (.Call (.Name "range" p) [a] [] pos) (iR f) := by
  obtain ⟨t, pa, q⟩ := h.ex
  refine ⟨_, pi_range1 hg hm (pa_cons pa pa_nil he) he, fun B σ H Hf ρ ds ρ' Q R e k => ?_⟩
  unfold iR at e
  cases e1 : f ρ with
  | none => rw [e1] at e; cases e
  | some z =>
    obtain ⟨d, ρ1⟩ := z
    simp only [e1, Option.bind_some] at e
    split at e
    · split at e
      · rename_i j hj
        cases e
        refine q B σ H Hf ρ _ _ _ R e1 fun v H' Hf' R' s r => ?_
        cases (show Rp X.K Hf' v (.int _) from r)
        exact ⟨_, rfl, hj.1, hj.2, k _ H' Hf' R' s (itr_ok _)⟩
      · cases e
    · cases e
/-- a text's signs -/
def sgnD (z : Str) : List PyData := z.cps.toList.map fun c => .str ⟨#[c]⟩
def iS (f : FE) : FI := fun ρ => (f ρ).bind fun p => match p.1 with
  | .str z => some (sgnD z, p.2)
  | _ => none
theorem di_str {tg : Expr} {f : FE} (h : DE X e f) : DI X tg e (iS f) := by
  obtain ⟨t, p, q⟩ := h.ex
  refine ⟨_, pi_str p, fun B σ H Hf ρ ds ρ' Q R e k => ?_⟩
  unfold iS at e
  cases e1 : f ρ with
  | none => rw [e1] at e; cases e
  | some z =>
    obtain ⟨d, ρ1⟩ := z
    cases d <;> simp [e1] at e
    obtain ⟨rfl, rfl⟩ := e
    rename_i z
    have hl : (sgnD z).length = z.cps.size := by simp [sgnD]
    refine q B σ H Hf ρ _ ρ1 _ R e1 fun v H' Hf' R' s r => ?_
    cases r
    refine ⟨_, rfl, k _ H' Hf' R' s ⟨fun i H _ hi => by rw [hl] at hi; exact hi, fun i H _ hi => by rw [hl] at hi; exact hi, fun i H x H2 _ hi y => ?_⟩⟩
    obtain ⟨rfl, c, hc, rfl⟩ := y
    exact ⟨.str ⟨#[c]⟩, by simp [sgnD, hc], .inl ⟨rfl, .str _⟩⟩
/-! ### for -/
def forL (g : FB) (body : FS) : List PyData → Rho → Option Out
  | [], ρ => some (.nx ρ)
  | d :: ds, ρ => (g d ρ).bind fun ρ1 => (body ρ1).bind fun o => match o with
    | .nx ρ2 => forL g body ds ρ2
    | .ct ρ2 => forL g body ds ρ2
    | .bk ρ2 => some (.nx ρ2)
    | .rt r ρ2 => some (.rt r ρ2)
def fFor (f : FI) (g : FB) (body : FS) : FS := fun ρ => (f ρ).bind fun p => forL g body p.1 p.2
theorem item_in {K : PySem.W.Frag} {B : Bs} {σ : L2.St} {H H' Hf : Hp} {ρ : Rho} {x : V} {d : PyData} (R : Rel K B σ H Hf ρ)
    (h : (H' = H ∧ Rp K Hf x d) ∨ ∃ T vs es, x = .ref T ∧ H T = none ∧ H' = upd H T (.tup vs) ∧ RpAll K Hf vs es ∧ d = .tuple es) : ∃ Hf', Rel K B σ H' Hf' ρ ∧ Same Hf Hf' ∧ Rp K Hf' x d := by
  rcases h with ⟨rfl, r⟩ | ⟨T, vs, es, rfl, hT, rfl, r, rfl⟩
  · exact ⟨Hf, R, Same.refl _, r⟩
  · have sf : Same Hf (upd Hf T (.tup vs)) := same_upd (R.newF hT)
    exact ⟨_, R.froze hT _, sf, .tup (.inl (.inl upd_same)) (r.mono sf)⟩
theorem ItOk.mono {K : PySem.W.Frag} {Hf Hf' : Hp} {J : It} {ds : List PyData} (s : Same Hf Hf') (h : ItOk K Hf J ds) : ItOk K Hf' J ds :=
  ⟨fun i H z => h.1 i H (s.trans z), fun i H z => h.2.1 i H (s.trans z), fun i H x H' z hi y => by
    obtain ⟨d, h1, h2⟩ := h.2.2 i H x H' (s.trans z) hi y
    refine ⟨d, h1, ?_⟩
    rcases h2 with ⟨e, r⟩ | ⟨T, vs, es, e1, e2, e3, r, e4⟩
    · exact .inl ⟨e, r.mono s⟩
    · exact .inr ⟨T, vs, es, e1, e2, e3, r.mono s, e4⟩⟩
theorem ds_for {tg iter : Expr} {body : List Stmt} {f : FI} {js : List Nat} {g : FB} {fb : FS} {pos : Pos} (hp : PassesOwn (model X.prog X.w) X.A X.env X.xe) (hc : X.calm = true) (hi : DI X tg iter f) (hg : DB X tg js g) (hb : DSs X body fb)
    (hs : ∀ x, foldedSetIterable iter X.env x = pure x := by intro _; rfl) : DS X (.For tg iter body [] pos) (fFor f g fb) := by
  obtain ⟨wi, p, q⟩ := hi.ex
  obtain ⟨t2, p2, q2⟩ := hg.ex
  obtain ⟨t3, p3, q3⟩ := hb.ex
  refine ⟨_, ps_for hp hc p p2 p3 hs, fun B lf σ H Hf ρ o D R e k => ?_⟩
  unfold fFor at e
  cases e1 : f ρ with
  | none => rw [e1] at e; cases e
  | some z =>
    obtain ⟨ds, ρ1⟩ := z
    rw [e1] at e
    have e : forL g fb ds ρ1 = some o := e
    refine q B σ H Hf ρ ds ρ1 _ R e1 fun J H1 Hf1 R1 s1 ok => ?_
    refine ⟨fun i m σ H => m = ds.length - i ∧ i ≤ ds.length ∧ ∃ Hf' ρ', Rel X.K B σ H Hf' ρ' ∧ Same Hf1 Hf' ∧ forL g fb (ds.drop i) ρ' = some o, ⟨ds.length, by simp, Nat.zero_le _, Hf1, ρ1, R1, Same.refl _, by simpa using e⟩, ?_⟩
    rintro i m σ2 H2 ⟨rfl, hi, Hf2, ρ2, R2, s2, e2⟩
    have sH : Same Hf1 H2 := s2.trans R2.fz
    by_cases hlt : i < ds.length
    · refine .inr ⟨ok.1 i H2 sH hlt, fun σ' H' => ∃ Hf' ρ', Rel X.K B σ' H' Hf' ρ' ∧ Same Hf1 Hf' ∧ forL g fb (ds.drop (i + 1)) ρ' = some o, fun σ' H' ⟨Hf', ρ', R', s', e'⟩ => ⟨ds.length - (i + 1), by omega, rfl, hlt, Hf', ρ', R', s', e'⟩, fun x H3 y => ?_⟩
      obtain ⟨d, hd, hx⟩ := (ok.mono s2).2.2 i H2 x H3 R2.fz hlt y
      obtain ⟨Hf3, R3, s3, rx⟩ := item_in R2 hx
      rw [List.drop_eq_getElem_cons hlt] at e2
      have ed : ds[i] = d := by
        rw [List.getElem?_eq_getElem hlt] at hd
        exact Option.some.inj hd
      rw [ed] at e2
      unfold forL at e2
      cases e3 : g d ρ2 with
      | none => rw [e3] at e2; cases e2
      | some ρ3 =>
        rw [e3] at e2
        refine q2 B σ2 H3 Hf3 ρ2 x d ρ3 _ R3 rx e3 fun σ3 R4 _ => ?_
        simp only [Option.bind_some] at e2
        cases e4 : fb ρ3 with
        | none => rw [e4] at e2; cases e2
        | some o4 =>
          rw [e4] at e2
          simp only [Option.bind_some] at e2
          refine q3 B lf σ3 H3 Hf3 ρ3 o4 _ R4 e4 ?_
          have s13 : Same Hf1 Hf3 := s2.trans s3
          cases o4 with
          | nx ρ4 => exact fun σ' H' Hf' R' s' => ⟨Hf', ρ4, R', s13.trans s', e2⟩
          | ct ρ4 => exact fun σ' H' Hf' R' s' => ⟨Hf', ρ4, R', s13.trans s', e2⟩
          | bk ρ4 =>
            cases e2
            exact fun σ' H' Hf' R' s' => k σ' H' Hf' R' (s1.trans (s13.trans s'))
          | rt r ρ4 =>
            cases e2
            exact fun σ' H' Hf' v R' s' r' => k σ' H' Hf' v R' (s1.trans (s13.trans s')) r'
    · have ei : i = ds.length := by omega
      subst ei
      rw [List.drop_length] at e2
      unfold forL at e2
      cases e2
      exact .inl ⟨ok.2.1 _ H2 sH (Nat.le_refl _), k σ2 H2 Hf2 R2 (s1.trans s2)⟩
/-! ### while, at most n turns -/
def whL (t : FT) (body : FS) : Nat → Rho → Option Out
  | 0, _ => none
  | n + 1, ρ => (t ρ).bind fun p => if p.1 = true then (body p.2).bind fun o => match o with
      | .nx ρ2 => whL t body n ρ2
      | .ct ρ2 => whL t body n ρ2
      | .bk ρ2 => some (.nx ρ2)
      | .rt r ρ2 => some (.rt r ρ2)
    else some (.nx p.2)
theorem ds_while (n : Nat) {body : List Stmt} {t : FT} {fb : FS} {pos : Pos} (hp : PassesOwn (model X.prog X.w) X.A X.env X.xe) (hc : DT X c t) (hb : DSs X body fb) : DS X (.While c body [] pos) (whL t fb n) := by
  obtain ⟨t1, p, q⟩ := hc.ex
  obtain ⟨t3, p3, q3⟩ := hb.ex
  refine ⟨_, ps_while hp p p3, fun B lf σ H Hf ρ o D R e k => ?_⟩
  refine ⟨fun m σ H => ∃ Hf' ρ', Rel X.K B σ H Hf' ρ' ∧ Same Hf Hf' ∧ whL t fb m ρ' = some o, ⟨n, Hf, ρ, R, Same.refl _, e⟩, ?_⟩
  rintro m σ2 H2 ⟨Hf2, ρ2, R2, s2, e2⟩
  cases m with
  | zero => cases e2
  | succ m =>
    unfold whL at e2
    cases e3 : t ρ2 with
    | none => rw [e3] at e2; cases e2
    | some z =>
      obtain ⟨b, ρ3⟩ := z
      rw [e3] at e2
      simp only [Option.bind_some] at e2
      refine q B σ2 H2 Hf2 ρ2 b ρ3 _ R2 e3 fun H3 Hf3 R3 s3 => ?_
      have s13 := s2.trans s3
      cases b with
      | true =>
        rw [if_pos rfl] at e2
        refine iteT ⟨fun σ' H' => ∃ Hf' ρ', Rel X.K B σ' H' Hf' ρ' ∧ Same Hf Hf' ∧ whL t fb m ρ' = some o, fun σ' H' h => ⟨m, Nat.lt_succ_self _, h⟩, ?_⟩
        cases e4 : fb ρ3 with
        | none => rw [e4] at e2; cases e2
        | some o4 =>
          rw [e4] at e2
          simp only [Option.bind_some] at e2
          refine q3 B lf σ2 H3 Hf3 ρ3 o4 _ R3 e4 ?_
          cases o4 with
          | nx ρ4 => exact fun σ' H' Hf' R' s' => ⟨Hf', ρ4, R', s13.trans s', e2⟩
          | ct ρ4 => exact fun σ' H' Hf' R' s' => ⟨Hf', ρ4, R', s13.trans s', e2⟩
          | bk ρ4 =>
            cases e2
            exact fun σ' H' Hf' R' s' => k σ' H' Hf' R' (s13.trans s')
          | rt r ρ4 =>
            cases e2
            exact fun σ' H' Hf' v R' s' r' => k σ' H' Hf' v R' (s13.trans s') r'
      | false =>
        rw [if_neg Bool.false_ne_true] at e2
        cases e2
        exact iteF (k σ2 H3 Hf3 R3 s13)
end
end Y
set_option Elab.async false
set_option linter.all false
set_option maxRecDepth 100000
set_option maxHeartbeats 4000000
set_option autoImplicit false
namespace Y
open PySem PySem.Spec L2
/-! ### comprehensions -/
def wipeR (ρ : Rho) : List Nat → Rho
  | [] => ρ
  | v :: vs => (wipeR ρ vs).set v .un
/-- the slots may be forgotten -/
def wipeOk (ρ : Rho) (vs : List Nat) : Bool := vs.all fun v => notP ρ[v]?
section
variable {K : PySem.W.Frag} {B : Bs} {σ σ' : L2.St} {H H' Hf Hf' : Hp} {ρ ρ' : Rho}
theorem wipeR_len : ∀ (vs : List Nat) (ρ : Rho), (wipeR ρ vs).length = ρ.length
  | [], _ => rfl
  | v :: vs, ρ => by unfold wipeR; rw [List.length_set, wipeR_len vs ρ]
theorem wipeR_in : ∀ {vs : List Nat} {ρ : Rho} {j : Nat}, j ∈ vs → j < ρ.length → (wipeR ρ vs)[j]? = some .un
  | v :: vs, ρ, j, h, hl => by
    unfold wipeR
    by_cases e : j = v
    · subst e; exact List.getElem?_set_self (by rw [wipeR_len]; exact hl)
    · rw [set_get e]
      rcases List.mem_cons.mp h with z | z
      · exact (e z).elim
      · exact wipeR_in z hl
theorem wipeR_out : ∀ {vs : List Nat} {ρ : Rho} {j : Nat}, j ∉ vs → (wipeR ρ vs)[j]? = ρ[j]?
  | [], _, _, _ => rfl
  | v :: vs, ρ, j, h => by
    unfold wipeR
    have h1 : j ≠ v := fun z => h (by simp [z])
    rw [set_get h1]
    exact wipeR_out fun z => h (by simp [z])
theorem wipe_out' : ∀ {vs : List Nat} {σ : L2.St} {j : Nat}, j ∉ vs → (wipe σ vs)[j]? = σ[j]?
  | [], _, _, _ => rfl
  | v :: vs, ρ, j, h => by
    unfold wipe
    have h1 : j ≠ v := fun z => h (by simp [z])
    rw [set_get h1]
    exact wipe_out' fun z => h (by simp [z])
theorem wipe_in : ∀ {vs : List Nat} {σ : L2.St} {j : Nat}, j ∈ vs → j < σ.length → (wipe σ vs)[j]? = some none
  | v :: vs, σ, j, h, hl => by
    unfold wipe
    by_cases e : j = v
    · subst e; exact List.getElem?_set_self (by rw [wipe_length]; exact hl)
    · rw [set_get e]
      rcases List.mem_cons.mp h with z | z
      · exact (e z).elim
      · exact wipe_in z hl
theorem wipe_agree {vs js : List Nat} {σ2 : L2.St} (a : Agree js (wipe σ vs) σ2) (hj : ∀ j ∈ js, j ∈ vs) : wipe σ2 vs = wipe σ vs := by
  apply List.ext_getElem?
  intro j
  by_cases h : j ∈ vs
  · by_cases hl : j < σ.length
    · rw [wipe_in h (by rw [a.1, wipe_length]; exact hl), wipe_in h hl]
    · rw [List.getElem?_eq_none (by rw [wipe_length, a.1, wipe_length]; omega), List.getElem?_eq_none (by rw [wipe_length]; omega)]
  · rw [wipe_out' h, a.2 j fun z => h (hj j z)]
/-- slots that hold nothing told may be otherwise -/
theorem Rel.agree (R : Rel K B σ H Hf ρ) {vs : List Nat} (hw : wipeOk ρ vs = true) (hl : σ'.length = σ.length) (ha : ∀ j, j ∉ vs → σ'[j]? = σ[j]?) : Rel K B σ' H Hf (wipeR ρ vs) := by
  have out : ∀ {j : Nat} {s : Slot}, (wipeR ρ vs)[j]? = some s → s ≠ .un → j ∉ vs ∧ ρ[j]? = some s := fun {j s} e n => by
    have hjl : j < ρ.length := by
      have := (List.getElem?_eq_some_iff.mp e).1
      rw [wipeR_len] at this
      exact this
    by_cases h : j ∈ vs
    · rw [wipeR_in h hjl] at e
      exact (n (Option.some.inj e).symm).elim
    · rw [wipeR_out h] at e
      exact ⟨h, e⟩
  have npa : ∀ q ∈ B.pa, q.1 ∉ vs := fun q hq z => by
    obtain ⟨_, o, ho⟩ := R.pas q hq
    have := List.all_eq_true.mp hw q.1 z
    rw [ho] at this
    cases this
  have nu : ∀ {s : Slot} {o : MO}, s.obj? = some o → s ≠ .un := fun h z => by rw [z] at h; cases h
  refine ⟨R.fz, R.zf, R.kp, R.nf, R.mt, by rw [wipeR_len, hl, R.len], fun i d e => ?_, fun i ns e => ?_, fun i s o e1 e2 => ?_, fun i j s s' o o' a e1 e2 e3 e4 e5 e6 => ?_, fun i o e => ?_, fun lf i o e a e' => ?_, fun q hq => ?_⟩
  · obtain ⟨h, e⟩ := out e (fun z => nomatch z)
    rw [ha i h]
    exact R.dat i d e
  · obtain ⟨h, e⟩ := out e (fun z => nomatch z)
    rw [ha i h]
    exact R.scr i ns e
  · obtain ⟨h, e⟩ := out e1 (nu e2)
    rw [ha i h]
    exact R.own i s o e e2
  · obtain ⟨h, g1⟩ := out e1 (nu e2)
    obtain ⟨h', g2⟩ := out e3 (nu e4)
    rw [ha i h] at e5
    rw [ha j h'] at e6
    exact R.dis i j s s' o o' a g1 e2 g2 e4 e5 e6
  · obtain ⟨h, e⟩ := out e (fun z => nomatch z)
    rw [ha i h]
    exact R.par i o e
  · obtain ⟨h, e⟩ := out e (fun z => nomatch z)
    rw [ha i h] at e'
    exact R.loc lf i o e a e'
  · obtain ⟨h1, o, h2⟩ := R.pas q hq
    rw [ha _ (npa q hq), wipeR_out (npa q hq)]
    exact ⟨h1, o, h2⟩
theorem ownA_agree {vs : List Nat} (hw : ∀ j, j ∉ vs → σ'[j]? = σ[j]?) {a : Addr} (h : a ∈ ownA σ' (wipeR ρ vs)) : a ∈ ownA σ ρ := by
  obtain ⟨i, s, o, e1, e2, e3⟩ := mem_ownA.mp h
  have hjl : i < ρ.length := by
    have := (List.getElem?_eq_some_iff.mp e1).1
    rw [wipeR_len] at this
    exact this
  by_cases hi : i ∈ vs
  · rw [wipeR_in hi hjl] at e1
    cases e1
    cases e2
  · rw [wipeR_out hi] at e1
    rw [hw i hi] at e3
    exact mem_ownA.mpr ⟨i, s, o, e1, e2, e3⟩
end
/-- one clause, its test, its element -/
def compL (g : FB) (t : FT) (f : FE) (vs : List Nat) : List PyData → Rho → Option (List PyData × Rho)
  | [], ρ => some ([], ρ)
  | d :: ds, ρ => (g d (wipeR ρ vs)).bind fun ρ1 => (t ρ1).bind fun p => if p.1 = true then
      (f p.2).bind fun q => if wipeOk q.2 vs = true then (compL g t f vs ds (wipeR q.2 vs)).map fun r => (q.1 :: r.1, r.2) else none
    else if wipeOk p.2 vs = true then compL g t f vs ds (wipeR p.2 vs) else none
def fLc (fi : FI) (g : FB) (t : FT) (f : FE) (vs : List Nat) : FF := fun ρ => (fi ρ).bind fun p => if p.1.length ≤ sizeLine ∧ wipeOk p.2 vs = true then (compL g t f vs p.1 (wipeR p.2 vs)).map fun r => (.lst r.1, r.2) else none
structure DTs (X : Cx) (ifs : List Expr) (f : FT) : Prop where
  ex : ∃ t, PTs X ifs t ∧ ∀ (B : Bs) (σ : L2.St) (H Hf : Hp) (ρ : Rho) (d : Bool) (ρ' : Rho) (Q : Bool → Hp → Prop), Rel X.K B σ H Hf ρ → f ρ = some (d, ρ') →
    (∀ H' Hf', Rel X.K B σ H' Hf' ρ' → Same Hf Hf' → Q d H') → t σ H Q
def fYes : FT := fun ρ => some (true, ρ)
theorem dts_nil {X : Cx} : DTs X [] fYes := ⟨_, pts_nil, fun B σ H Hf ρ d ρ' Q R e k => by
  cases e
  exact k H Hf R (Same.refl _)⟩
theorem dts_one {X : Cx} {c : Expr} {f : FT} (h : DT X c f) : DTs X [c] f := by
  obtain ⟨t, p, q⟩ := h.ex
  exact ⟨t, pts_one p, q⟩
/-! the readings, by the functions alone -/
def tF (K : PySem.W.Frag) (f : FE) : TE := fun σ H Q => ∃ (B : Bs) (Hf : Hp) (ρ : Rho) (d : PyData) (ρ' : Rho), Rel K B σ H Hf ρ ∧ f ρ = some (d, ρ') ∧ ∀ v H' Hf', Rel K B σ H' Hf' ρ' → Same Hf Hf' → Rp K Hf' v d → Q v H'
def tTF (K : PySem.W.Frag) (f : FT) : TT := fun σ H Q => ∃ (B : Bs) (Hf : Hp) (ρ : Rho) (d : Bool) (ρ' : Rho), Rel K B σ H Hf ρ ∧ f ρ = some (d, ρ') ∧ ∀ H' Hf', Rel K B σ H' Hf' ρ' → Same Hf Hf' → Q d H'
def tBF (K : PySem.W.Frag) (js : List Nat) (f : FB) : TG := fun v σ H Q => ∃ (B : Bs) (Hf : Hp) (ρ : Rho) (d : PyData) (ρ' : Rho), Rel K B σ H Hf ρ ∧ Rp K Hf v d ∧ f d ρ = some ρ' ∧ ∀ σ', Rel K B σ' H Hf ρ' → Agree js σ σ' → Q σ' H
section
variable {X : Cx} {e : Expr}
theorem DE.pe {f : FE} (h : DE X e f) : PE X e (tF X.K f) := by
  obtain ⟨t, p, q⟩ := h.ex
  refine ⟨fun pins s σ H Q I hw => p.run pins s σ H Q I ?_⟩
  obtain ⟨B, Hf, ρ, d, ρ', R, e1, k⟩ := hw
  exact q B σ H Hf ρ d ρ' Q R e1 k
theorem DTs.pe {ifs : List Expr} {f : FT} (h : DTs X ifs f) : PTs X ifs (tTF X.K f) := by
  obtain ⟨t, p, q⟩ := h.ex
  refine ⟨fun pins s σ H Q I hw => p.run pins s σ H Q I ?_⟩
  obtain ⟨B, Hf, ρ, d, ρ', R, e1, k⟩ := hw
  exact q B σ H Hf ρ d ρ' Q R e1 k
theorem DB.pg {js : List Nat} {f : FB} (h : DB X e js f) : PG X e (tBF X.K js f) := by
  obtain ⟨t, p, q⟩ := h.ex
  refine ⟨fun pins s σ H v u Q I r hw => p.run pins s σ H v u Q I r ?_⟩
  obtain ⟨B, Hf, ρ, d, ρ', R, r', e1, k⟩ := hw
  exact q B σ H Hf ρ v d ρ' Q R r' e1 k
/-- the loop of a comprehension -/
theorem lc_data {K : PySem.W.Frag} {fi : FI} {g : FB} {js : List Nat} {t : FT} {f : FE} {vs : List Nat} (hj : ∀ j ∈ js, j ∈ vs) {B : Bs} {σ : L2.St} {H Hf : Hp} {ρ ρ' : Rho} {ds ys : List PyData} {J : It} {Qd : V → Hp → Prop} (R : Rel K B σ H Hf ρ) (ok : ItOk K Hf J ds) (hz : ds.length ≤ sizeLine) (hw : wipeOk ρ vs = true)
    (e : compL g t f vs ds (wipeR ρ vs) = some (ys, ρ')) (k : ∀ p H' Hf', Rel K B σ H' Hf' ρ' → Same Hf Hf' → FreshAt K B σ ρ' H' Hf' p (.lst ys) → Qd (.ref p) H') :
    ∀ D, H D = none → ∃ W : Nat → Nat → Hp → Prop, (∃ m, W 0 m (upd H D (.lst []))) ∧ ∀ i m H, W i m H →
      (J.stop i H ∧ Qd (.ref D) H) ∨ (J.go i H ∧ ∃ Nx : Hp → Prop, (∀ H', Nx H' → ∃ m', m' < m ∧ W (i + 1) m' H') ∧ ∀ x H', J.yld i H x H' → tBF K js g x (wipe σ vs) H' fun σ2 H2 => wipe σ2 vs = wipe σ vs ∧ tTF K t σ2 H2 fun b H3 =>
        if b = true then tF K f σ2 H3 fun y H4 => ∃ acc, H4 D = some (.lst acc) ∧ acc.length < sizeLine ∧ Nx (upd H4 D (.lst (acc ++ [y]))) else Nx H3) := by
  intro D hD
  -- the state at turn i: the slots wiped, the list so far at D, what is left
  let S : Nat → Hp → Prop := fun i H' => ∃ Hf' ρi vacc acc rest, Rel K B σ H' Hf' ρi ∧ Same Hf Hf' ∧ (∀ j ∈ vs, j < ρi.length → ρi[j]? = some Slot.un) ∧ H' D = some (.lst vacc) ∧ RpAll K Hf' vacc acc ∧ acc.length ≤ i ∧ Hf' D = none ∧ D ∉ ownA σ ρi ∧
    compL g t f vs (ds.drop i) ρi = some (rest, ρ') ∧ ys = acc ++ rest
  have R0 : Rel K B σ H Hf (wipeR ρ vs) := R.agree hw rfl fun _ _ => rfl
  have nbD : B.Hb D = none := R.newB hD
  refine ⟨fun i m H' => m = ds.length - i ∧ i ≤ ds.length ∧ S i H', ⟨ds.length, by simp, Nat.zero_le _, Hf, wipeR ρ vs, [], [], ys, R0.lay _ hD, Same.refl _, fun j hj hl => wipeR_in hj (by rw [wipeR_len] at hl; exact hl), upd_same, .nil, Nat.le_refl _, R.newF hD, fun z => ?_, by simpa using e, rfl⟩, ?_⟩
  · obtain ⟨u, hu⟩ := (R0.ownB z).2.1
    rw [hD] at hu; cases hu
  rintro i m H1 ⟨rfl, hi, Hf1, ρ1, vacc, acc, rest, R1, s1, hun, hDl, racc, hacc, hDf, hDo, e1, ey⟩
  have sH : Same Hf H1 := s1.trans R1.fz
  by_cases hlt : i < ds.length
  · refine .inr ⟨ok.1 i H1 sH hlt, S (i + 1), fun H' h => ⟨ds.length - (i + 1), by omega, rfl, hlt, h⟩, fun x H2 y => ?_⟩
    obtain ⟨d, hd, hx⟩ := (ok.mono s1).2.2 i H1 x H2 R1.fz hlt y
    rw [List.drop_eq_getElem_cons hlt] at e1
    have ed : ds[i] = d := by
      rw [List.getElem?_eq_getElem hlt] at hd
      exact Option.some.inj hd
    rw [ed] at e1
    unfold compL at e1
    have wok : wipeOk ρ1 vs = true := by
      apply List.all_eq_true.mpr
      intro v hv
      by_cases hl : v < ρ1.length
      · rw [hun v hv hl]; rfl
      · exfalso
        have h0 := List.all_eq_true.mp hw v hv
        have hl2 : ¬ v < ρ.length := by
          have q1 := R1.len
          have q2 := R.len
          omega
        rw [List.getElem?_eq_none (by omega)] at h0
        cases h0
    -- the item
    have K2 : ∃ Hf2, Rel K B σ H2 Hf2 ρ1 ∧ Same Hf1 Hf2 ∧ Rp K Hf2 x d ∧ H2 D = some (.lst vacc) ∧ Hf2 D = none := by
      rcases hx with ⟨rfl, r⟩ | ⟨T, ws, es, rfl, hT, rfl, r, rfl⟩
      · exact ⟨Hf1, R1, Same.refl _, r, hDl, hDf⟩
      · have sf : Same Hf1 (upd Hf1 T (.tup ws)) := same_upd (R1.newF hT)
        have nDT : D ≠ T := ne_of_none hDl hT
        exact ⟨_, R1.froze hT _, sf, .tup (.inl (.inl upd_same)) (r.mono sf), by rw [upd_ne nDT]; exact hDl, by rw [upd_ne nDT]; exact hDf⟩
    obtain ⟨Hf2, R2, s2, rx, hD2, hDf2⟩ := K2
    have Rw : Rel K B (wipe σ vs) H2 Hf2 (wipeR ρ1 vs) := R2.agree wok (wipe_length _ _) fun j h => wipe_out' h
    have hDo2 : D ∉ ownA (wipe σ vs) (wipeR ρ1 vs) := fun z => hDo (ownA_agree (fun j h => wipe_out' h) z)
    -- kept: the list so far
    have keepD : ∀ {σ1 σ2 : L2.St} {ρ2 ρ3 : Rho} {H3 H4 Hf3 Hf4 : Hp}, Kp σ1 ρ2 H3 Hf3 σ2 ρ3 H4 Hf4 → H3 D = some (.lst vacc) → Hf3 D = none → D ∉ ownA σ1 ρ2 → H4 D = some (.lst vacc) ∧ Hf4 D = none ∧ D ∉ ownA σ2 ρ3 := fun {σ1 σ2 ρ2 ρ3 H3 H4 Hf3 Hf4} kp a1 a2 a3 => by
      refine ⟨kp.kp D _ a1 a3, kp.nf D _ a1 a2, fun z => ?_⟩
      rcases kp.ow D z with q | q
      · exact a3 q
      · rw [a1] at q; cases q
    cases eg : g d (wipeR ρ1 vs) with
    | none => rw [eg] at e1; cases e1
    | some ρ2 =>
      rw [eg] at e1
      simp only [Option.bind_some] at e1
      refine ⟨_, Hf2, wipeR ρ1 vs, d, ρ2, Rw.rebase, rx, eg, fun σ2 Rb ag => ⟨wipe_agree ag hj, ?_⟩⟩
      obtain ⟨_, hDf3, hDo3⟩ := keepD Rb.kept hD2 hDf2 hDo2
      have R3 := Rw.unbase Rb
      have hback : ∀ j, j ∉ vs → σ[j]? = σ2[j]? := fun j h => by
        rw [ag.2 j fun z => h (hj j z), wipe_out' h]
      have hlen : σ.length = σ2.length := by rw [ag.1, wipe_length]
      cases et : t ρ2 with
      | none => rw [et] at e1; cases e1
      | some z =>
        obtain ⟨b, ρ3⟩ := z
        rw [et] at e1
        simp only [Option.bind_some] at e1
        refine ⟨_, Hf2, ρ2, b, ρ3, R3.rebase, et, fun H3 Hf3 R4 s3 => ?_⟩
        obtain ⟨hD4, hDf4, hDo4⟩ := keepD R4.kept hD2 hDf2 hDo3
        have R4' := R3.unbase R4
        cases b with
        | true =>
          rw [if_pos rfl] at e1 ⊢
          cases ef : f ρ3 with
          | none => rw [ef] at e1; cases e1
          | some z =>
            obtain ⟨yv, ρ4⟩ := z
            rw [ef] at e1
            simp only [Option.bind_some] at e1
            split at e1
            · rename_i wok4
              refine ⟨_, Hf3, ρ3, yv, ρ4, R4'.rebase, ef, fun v H4 Hf4 R5 s4 rv => ?_⟩
              obtain ⟨hD5, hDf5, hDo5⟩ := keepD R5.kept hD4 hDf4 hDo4
              have R5' := R4'.unbase R5
              refine ⟨vacc, hD5, by rw [racc.length]; omega, ?_⟩
              have R6 : Rel K B σ H4 Hf4 (wipeR ρ4 vs) := R5'.agree wok4 hlen hback
              have hDo6 : D ∉ ownA σ (wipeR ρ4 vs) := fun z => hDo5 (ownA_agree hback z)
              have ss : Same Hf1 Hf4 := s2.trans (s3.trans s4)
              cases ec : compL g t f vs (ds.drop (i + 1)) (wipeR ρ4 vs) with
              | none => rw [ec] at e1; cases e1
              | some w =>
                obtain ⟨rest', ρe⟩ := w
                rw [ec] at e1
                cases e1
                refine ⟨Hf4, wipeR ρ4 vs, _, acc ++ [yv], rest', R6.anon _ hDf5 nbD hDo6, s1.trans ss, fun j hj hl => wipeR_in hj (by rw [wipeR_len] at hl; exact hl), upd_same, (racc.mono ss).append (.cons rv .nil), by simp; omega, hDf5, hDo6, ec, by rw [ey]; simp⟩
            · cases e1
        | false =>
          rw [if_neg Bool.false_ne_true] at e1 ⊢
          split at e1
          · rename_i wok3
            have R6 : Rel K B σ H3 Hf3 (wipeR ρ3 vs) := R4'.agree wok3 hlen hback
            have ss : Same Hf1 Hf3 := s2.trans s3
            exact ⟨Hf3, wipeR ρ3 vs, _, acc, rest, R6, s1.trans ss, fun j hj hl => wipeR_in hj (by rw [wipeR_len] at hl; exact hl), hD4, racc.mono ss, by omega, hDf4, fun z => hDo4 (ownA_agree hback z), e1, ey⟩
          · cases e1
  · have ei : i = ds.length := by omega
    subst ei
    rw [List.drop_length] at e1
    unfold compL at e1
    cases e1
    refine .inl ⟨ok.2.1 _ H1 sH (Nat.le_refl _), k D H1 Hf1 R1 s1 ⟨hDf, nbD, hDo, vacc, hDl, ?_⟩⟩
    rw [ey, List.append_nil]
    exact racc
/-- [f for target in iter if t] -/
theorem df_lc {elt tg iter : Expr} {ifs : List Expr} {scope : Scope} {own : List (Str × Nat)} {pos : Pos} {fi : FI} {js : List Nat} {g : FB} {t : FT} {f : FE} (hc : X.calm = true) (hN : X.N.Nodup) (hi : DI X tg iter fi) (ok : BlkOk X.N X.env.scope scope own)
    (hg : ∀ (s : Shared) (H : Hp) (C : Addr) (cl : List (Str × Addr)) (fp : List Addr), DB (X.blk s H scope (compEnvC scope cl C X.env) fp) tg js g) (ht : ∀ (s : Shared) (H : Hp) (C : Addr) (cl : List (Str × Addr)) (fp : List Addr), DTs (X.blk s H scope (compEnvC scope cl C X.env) fp) ifs t)
    (he : ∀ (s : Shared) (H : Hp) (C : Addr) (cl : List (Str × Addr)) (fp : List Addr), DE (X.blk s H scope (compEnvC scope cl C X.env) fp) elt f) (hj : ∀ j ∈ js, j ∈ own.map (·.2) := by decide) (hs : ∀ x, foldedSetIterable iter X.env x = pure x := by intro _; rfl) :
    DF X (.ListComp elt [⟨tg, iter, ifs, 0⟩] scope pos) (fLc fi g t f (own.map (·.2))) := by
  obtain ⟨wi, p, q⟩ := hi.ex
  refine ⟨_, pe_lc hc hN p ok (fun s H C cl fp => show PG _ tg (tBF X.K js g) from (hg s H C cl fp).pg) (fun s H C cl fp => show PTs _ ifs (tTF X.K t) from (ht s H C cl fp).pe) (fun s H C cl fp => show PE _ elt (tF X.K f) from (he s H C cl fp).pe) hs, fun B σ H Hf ρ o ρ' Q R e k => ?_⟩
  unfold fLc at e
  cases e1 : fi ρ with
  | none => rw [e1] at e; cases e
  | some z =>
    obtain ⟨ds, ρ1⟩ := z
    simp only [e1, Option.bind_some] at e
    split at e
    · rename_i hz
      cases e2 : compL g t f (own.map (·.2)) ds (wipeR ρ1 (own.map (·.2))) with
      | none => rw [e2] at e; cases e
      | some w =>
        obtain ⟨ys, ρ2⟩ := w
        rw [e2] at e
        cases e
        refine q B σ H Hf ρ ds ρ1 _ R e1 fun J H1 Hf1 R1 s1 okJ => ?_
        exact lc_data (fi := fi) hj R1 okJ hz.1 hz.2 e2 fun p H' Hf' R' s' F => k p H' Hf' R' (s1.trans s') F
    · cases e
/-- name = [..] on one line -/
theorem ds_setLc {i : Nat} {y : Str} {py : Pos} {elt tg iter : Expr} {ifs : List Expr} {scope : Scope} {own : List (Str × Nat)} {pos spos : Pos} {fi : FI} {js : List Nat} {g : FB} {t : FT} {f : FE} (frozen : Bool) (hc : X.calm = true) (hN : X.N.Nodup) (hy : X.N[i]? = some y) (hyl : X.env.scope.names.lookup y = some .local)
    (hsw : swapsWith (.ListComp elt [⟨tg, iter, ifs, 0⟩] scope pos) (some (.Name y py)) spos.line X.env = pure true) (hi : DI X tg iter fi) (ok : BlkOk X.N X.env.scope scope own)
    (hg : ∀ (s : Shared) (H : Hp) (C : Addr) (cl : List (Str × Addr)) (fp : List Addr), DB (X.blk s H scope (compEnvC scope cl C X.env) fp) tg js g) (ht : ∀ (s : Shared) (H : Hp) (C : Addr) (cl : List (Str × Addr)) (fp : List Addr), DTs (X.blk s H scope (compEnvC scope cl C X.env) fp) ifs t)
    (he : ∀ (s : Shared) (H : Hp) (C : Addr) (cl : List (Str × Addr)) (fp : List Addr), DE (X.blk s H scope (compEnvC scope cl C X.env) fp) elt f) (hj : ∀ j ∈ js, j ∈ own.map (·.2) := by decide) (hs : ∀ x, foldedSetIterable iter X.env x = pure x := by intro _; rfl) :
    DS X (.Assign [.Name y py] (.ListComp elt [⟨tg, iter, ifs, 0⟩] scope pos) spos) (fSet i (if frozen = true then gE (fFz (fLc fi g t f (own.map (·.2)))) else gF (fLc fi g t f (own.map (·.2))))) := by
  obtain ⟨wi, p, q⟩ := hi.ex
  refine ⟨_, ps_setLc hc hN hy hyl hsw p ok (fun s H C cl fp => show PG _ tg (tBF X.K js g) from (hg s H C cl fp).pg) (fun s H C cl fp => show PTs _ ifs (tTF X.K t) from (ht s H C cl fp).pe) (fun s H C cl fp => show PE _ elt (tF X.K f) from (he s H C cl fp).pe) hs, fun B lf σ H Hf ρ o D R e k => ?_⟩
  have core : ∀ {mo : MO} {ρ2 : Rho} {Q : VK}, fLc fi g t f (own.map (·.2)) ρ = some (mo, ρ2) → (∀ p H' Hf', Rel X.K B σ H' Hf' ρ2 → Same Hf Hf' → FreshAt X.K B σ ρ2 H' Hf' p mo → Q (.ref p) H') → tLc wi (tBF X.K js g) (tTF X.K t) (tF X.K f) (own.map (·.2)) σ H Q := fun {mo ρ2 Q} e k => by
    unfold fLc at e
    cases e1 : fi ρ with
    | none => rw [e1] at e; cases e
    | some z =>
      obtain ⟨ds, ρ1⟩ := z
      simp only [e1, Option.bind_some] at e
      split at e
      · rename_i hz
        cases e2 : compL g t f (own.map (·.2)) ds (wipeR ρ1 (own.map (·.2))) with
        | none => rw [e2] at e; cases e
        | some w =>
          obtain ⟨ys, ρ2⟩ := w
          rw [e2] at e
          cases e
          refine q B σ H Hf ρ ds ρ1 _ R e1 fun J H1 Hf1 R1 s1 okJ => ?_
          exact lc_data (fi := fi) hj R1 okJ hz.1 hz.2 e2 fun p H' Hf' R' s' F => k p H' Hf' R' (s1.trans s') F
      · cases e
  cases e0 : fLc fi g t f (own.map (·.2)) ρ with
  | none =>
    unfold fSet at e
    cases frozen <;> simp [gE, gF, fFz, e0] at e
  | some z =>
    obtain ⟨mo, ρ2⟩ := z
    unfold fSet at e
    cases frozen with
    | false =>
      simp only [gF, e0, Option.map_some, Option.bind_some, if_neg Bool.false_ne_true] at e
      split at e
      · rename_i hp
        cases e
        exact core e0 fun p H' Hf' R' s' F => k _ _ _ (R'.set hp (slotv_set (s := .m mo) ⟨p, rfl, F⟩)) s'
      · cases e
    | true =>
      simp only [gE, fFz, e0, Option.map_some, Option.bind_some, if_pos] at e
      split at e
      · rename_i hp
        cases e
        refine core e0 fun p H' Hf' R' s' F => ?_
        cases mo with
        | lst xs =>
          obtain ⟨vs, h1, h2⟩ := F.ob
          have sf : Same Hf' (upd Hf' p (.lst vs)) := same_upd F.nf
          exact k _ _ _ ((R'.frz h1 F.nf F.nb F.no).set hp (slotv_set (s := .d (mD (.lst xs))) (show Rp X.K _ (.ref p) (.list xs) from .lst upd_same (h2.mono sf)))) (s'.trans sf)
        | dct kvs =>
          obtain ⟨vs, h1, h2⟩ := F.ob
          have sf : Same Hf' (upd Hf' p (.dK vs)) := same_upd F.nf
          exact k _ _ _ ((R'.frz h1 F.nf F.nb F.no).set hp (slotv_set (s := .d (mD (.dct kvs))) (show Rp X.K _ (.ref p) (mD (.dct kvs)) from .dct upd_same (rp_kv (h2.mono sf))))) (s'.trans sf)
      · cases e
end
end Y
set_option Elab.async false
set_option linter.all false
set_option maxRecDepth 100000
set_option maxHeartbeats 4000000
set_option autoImplicit false
namespace Y
open PySem PySem.Spec L2
/-! ### what a def promises: a function on data -/
inductive Arg where
  | d (x : PyData)
  | m (o : MO)
  | scr (ns : List Int)
def Arg.slot : Arg → Slot
  | .d x => .d x
  | .m o => .p o
  | .scr ns => .scr ns
def argOf (ρ : Rho) : AV → Option Arg
  | .d x => some (.d x)
  | .ow j => match ρ[j]? with
    | some (.m o) => some (.m o)
    | some (.p o) => some (.m o)
    | some (.scr ns) => some (.scr ns)
    | _ => none
def argsOf (ρ : Rho) : List AV → Option (List Arg)
  | [] => some []
  | a :: r => (argOf ρ a).bind fun x => (argsOf ρ r).map (x :: ·)
def ows : List AV → List Nat
  | [] => []
  | .ow j :: r => j :: ows r
  | _ :: r => ows r
def findArg : List AV → List Arg → Nat → Option MO
  | .ow k :: r, .m o :: q, j => if k = j then some o else findArg r q j
  | _ :: r, _ :: q, j => findArg r q j
  | _, _, _ => none
/-- the objects that were handed in, as they are afterwards -/
def putB (avs : List AV) (as : List Arg) (ρ : Rho) : Rho := ρ.mapIdx fun j s => match findArg avs as j with
  | some o => s.put o
  | none => s
abbrev FD := List Arg → Option (PyData × List Arg)
def spF (K : PySem.W.Frag) (n : Nat) (F : FD) : Sp := fun vs H Q _ => vs.length = n ∧ ∃ (B : Bs) (σ : L2.St) (Hf : Hp) (ρ : Rho) (avs : List AV) (as : List Arg) (r : PyData) (as' : List Arg), Rel K B σ H Hf ρ ∧ AVs K σ Hf vs avs ∧ argsOf ρ avs = some as ∧ (ows avs).Nodup ∧ F as = some (r, as') ∧
  ∀ v H' Hf', Rel K B σ H' Hf' (putB avs as' ρ) → Same Hf Hf' → Rp K Hf' v r → Q v H'
/-- a def's body, as its function -/
def outA : List Arg → Rho → List Arg
  | .m _ :: r, .p o :: q => .m o :: outA r q
  | a :: r, _ :: q => a :: outA r q
  | as, _ => as
def fDef (n : Nat) (f : FS) : FD := fun as => (f (as.map Arg.slot ++ List.replicate (n - as.length) .un)).bind fun o => match o with
  | .rt d ρ => some (d, outA as ρ)
  | .nx ρ => some (.none, outA as ρ)
  | _ => none
section
variable {K : PySem.W.Frag} {B : Bs} {σ σ' : L2.St} {H H' Hf Hf' : Hp} {ρ ρ' : Rho}
theorem findArg_some : ∀ {avs : List AV} {as : List Arg} {j : Nat} {o : MO}, findArg avs as j = some o → ∃ i : Nat, avs[i]? = some (.ow j) ∧ as[i]? = some (.m o)
  | [], _, _, _, h => by cases h
  | .d x :: r, [], _, _, h => by cases h
  | .ow k :: r, [], _, _, h => by cases h
  | .d x :: r, a :: q, j, o, h => by
    have h' : findArg r q j = some o := by cases a <;> exact h
    obtain ⟨i, h1, h2⟩ := findArg_some h'
    exact ⟨i + 1, by simpa using h1, by simpa using h2⟩
  | .ow k :: r, .d x :: q, j, o, h => by
    obtain ⟨i, h1, h2⟩ := findArg_some (avs := r) (as := q) h
    exact ⟨i + 1, by simpa using h1, by simpa using h2⟩
  | .ow k :: r, .scr x :: q, j, o, h => by
    obtain ⟨i, h1, h2⟩ := findArg_some (avs := r) (as := q) h
    exact ⟨i + 1, by simpa using h1, by simpa using h2⟩
  | .ow k :: r, .m o' :: q, j, o, h => by
    unfold findArg at h
    split at h
    · rename_i e
      cases h
      exact ⟨0, by simp [e], by simp⟩
    · obtain ⟨i, h1, h2⟩ := findArg_some (avs := r) (as := q) h
      exact ⟨i + 1, by simpa using h1, by simpa using h2⟩
theorem findArg_none : ∀ {avs : List AV} {as : List Arg} {j i : Nat} {o : MO}, findArg avs as j = none → avs[i]? = some (.ow j) → as[i]? = some (.m o) → False
  | [], _, _, i, _, _, h1, _ => by simp at h1
  | a :: r, [], _, i, _, _, _, h2 => by simp at h2
  | .d x :: r, a :: q, j, 0, o, h, h1, h2 => by simp at h1
  | .d x :: r, a :: q, j, i + 1, o, h, h1, h2 => by
    have h' : findArg r q j = none := by cases a <;> exact h
    exact findArg_none (i := i) h' (by simpa using h1) (by simpa using h2)
  | .ow k :: r, .d x :: q, j, 0, o, h, h1, h2 => by simp at h2
  | .ow k :: r, .d x :: q, j, i + 1, o, h, h1, h2 => findArg_none (avs := r) (as := q) (i := i) h (by simpa using h1) (by simpa using h2)
  | .ow k :: r, .scr x :: q, j, 0, o, h, h1, h2 => by simp at h2
  | .ow k :: r, .scr x :: q, j, i + 1, o, h, h1, h2 => findArg_none (avs := r) (as := q) (i := i) h (by simpa using h1) (by simpa using h2)
  | .ow k :: r, .m o' :: q, j, i, o, h, h1, h2 => by
    unfold findArg at h
    split at h
    · cases h
    · rename_i n
      cases i with
      | zero => simp at h1; exact n h1
      | succ i => exact findArg_none (avs := r) (as := q) (i := i) h (by simpa using h1) (by simpa using h2)
theorem putB_get (avs : List AV) (as : List Arg) (ρ : Rho) (j : Nat) : (putB avs as ρ)[j]? = (ρ[j]?).map fun s => match findArg avs as j with
    | some o => s.put o
    | none => s := by
  unfold putB
  rw [List.getElem?_mapIdx]
theorem argsOf_get : ∀ {avs : List AV} {as : List Arg} {i : Nat} {a : Arg}, argsOf ρ avs = some as → as[i]? = some a → ∃ av, avs[i]? = some av ∧ argOf ρ av = some a
  | [], as, i, a, h, e => by cases h; simp at e
  | av :: r, as, i, a, h, e => by
    unfold argsOf at h
    cases e1 : argOf ρ av with
    | none => rw [e1] at h; cases h
    | some x =>
      rw [e1] at h
      cases e2 : argsOf ρ r with
      | none => rw [e2] at h; cases h
      | some q =>
        rw [e2] at h
        cases h
        cases i with
        | zero => simp at e; subst e; exact ⟨av, rfl, e1⟩
        | succ i =>
          obtain ⟨av', h1, h2⟩ := argsOf_get (i := i) e2 (by simpa using e)
          exact ⟨av', by simpa using h1, h2⟩
theorem argsOf_len : ∀ {avs : List AV} {as : List Arg}, argsOf ρ avs = some as → as.length = avs.length
  | [], as, h => by cases h; rfl
  | av :: r, as, h => by
    unfold argsOf at h
    cases e1 : argOf ρ av with
    | none => rw [e1] at h; cases h
    | some x =>
      rw [e1] at h
      cases e2 : argsOf ρ r with
      | none => rw [e2] at h; cases h
      | some q =>
        rw [e2] at h
        cases h
        simp [argsOf_len e2]
theorem avs_get : ∀ {vs : List V} {avs : List AV} {i : Nat} {av : AV}, AVs K σ Hf vs avs → avs[i]? = some av → ∃ v, vs[i]? = some v ∧ AVok K σ Hf v av
  | _, _, i, av, .nil, e => by simp at e
  | _, _, 0, av, .cons h t, e => by simp at e; subst e; exact ⟨_, rfl, h⟩
  | _, _, i + 1, av, .cons h t, e => by
    obtain ⟨v, h1, h2⟩ := avs_get (i := i) t (by simpa using e)
    exact ⟨v, by simpa using h1, h2⟩
theorem argOf_m {av : AV} {o : MO} (h : argOf ρ av = some (.m o)) : ∃ j s, av = .ow j ∧ ρ[j]? = some s ∧ s.obj? = some o := by
  cases av with
  | d x => cases h
  | ow j =>
    unfold argOf at h
    dsimp only at h
    cases e : ρ[j]? with
    | none => rw [e] at h; cases h
    | some s =>
      rw [e] at h
      cases s with
      | m q => cases h; exact ⟨j, _, rfl, e, rfl⟩
      | p q => cases h; exact ⟨j, _, rfl, e, rfl⟩
      | _ => cases h
theorem argOf_d {av : AV} {x : PyData} (h : argOf ρ av = some (.d x)) : av = .d x := by
  cases av with
  | d y => cases h; rfl
  | ow j =>
    unfold argOf at h
    dsimp only at h
    cases e : ρ[j]? with
    | none => rw [e] at h; cases h
    | some s => rw [e] at h; cases s <;> cases h
theorem argOf_s {av : AV} {ns : List Int} (h : argOf ρ av = some (.scr ns)) : ∃ j, av = .ow j ∧ ρ[j]? = some (.scr ns) := by
  cases av with
  | d x => cases h
  | ow j =>
    unfold argOf at h
    dsimp only at h
    cases e : ρ[j]? with
    | none => rw [e] at h; cases h
    | some s =>
      rw [e] at h
      cases s with
      | scr q => cases h; exact ⟨j, rfl, e⟩
      | _ => cases h
theorem ows_nodup : ∀ {avs : List AV}, (ows avs).Nodup → ∀ {i k j : Nat}, avs[i]? = some (.ow j) → avs[k]? = some (.ow j) → i = k
  | [], _, i, k, j, h1, _ => by simp at h1
  | .d x :: r, n, 0, k, j, h1, h2 => by simp at h1
  | .d x :: r, n, i + 1, 0, j, h1, h2 => by simp at h2
  | .d x :: r, n, i + 1, k + 1, j, h1, h2 => by
    exact congrArg (· + 1) (ows_nodup (avs := r) n (i := i) (k := k) (j := j) (by simpa using h1) (by simpa using h2))
  | .ow q :: r, n, i, k, j, h1, h2 => by
    have n' : q ∉ ows r ∧ (ows r).Nodup := List.nodup_cons.mp n
    have mem : ∀ {t : Nat}, r[t]? = some (.ow q) → q ∈ ows r := fun {t} h => by
      clear n n' h1 h2
      induction r generalizing t with
      | nil => simp at h
      | cons a r ih =>
        cases t with
        | zero => simp at h; subst h; simp [ows]
        | succ t =>
          have := ih (t := t) (by simpa using h)
          cases a <;> simp [ows, this]
    cases i with
    | zero =>
      simp at h1
      subst h1
      cases k with
      | zero => rfl
      | succ k => exact (n'.1 (mem (by simpa using h2))).elim
    | succ i =>
      cases k with
      | zero =>
        simp at h2
        subst h2
        exact (n'.1 (mem (by simpa using h1))).elim
      | succ k => exact congrArg (· + 1) (ows_nodup (avs := r) n'.2 (i := i) (k := k) (j := j) (by simpa using h1) (by simpa using h2))
theorem outA_get : ∀ {as : List Arg} {ρ : Rho} {i : Nat} {o : MO}, (outA as ρ)[i]? = some (.m o) → (∃ o', as[i]? = some (.m o')) ∧ ((ρ[i]? = some (.p o)) ∨ (∀ q, ρ[i]? ≠ some (.p q)))
  | [], _, i, o, h => by simp [outA] at h
  | .m x :: r, [], i, o, h => ⟨⟨o, by simpa [outA] using h⟩, .inr fun q => by simp⟩
  | .d x :: r, [], i, o, h => ⟨⟨o, by simpa [outA] using h⟩, .inr fun q => by simp⟩
  | .scr x :: r, [], i, o, h => ⟨⟨o, by simpa [outA] using h⟩, .inr fun q => by simp⟩
  | a :: r, s :: q, i + 1, o, h => by
    have h' : (outA r q)[i]? = some (.m o) := by
      cases a <;> cases s <;> simpa [outA] using h
    obtain ⟨h1, h2⟩ := outA_get h'
    exact ⟨by simpa using h1, by simpa using h2⟩
  | a :: r, s :: q, 0, o, h => by
    cases a <;> cases s <;> simp [outA] at h <;> first | (subst h; exact ⟨⟨_, rfl⟩, .inl rfl⟩) | (subst h; exact ⟨⟨_, rfl⟩, .inr fun q => by simp⟩)
theorem outA_of : ∀ {as : List Arg} {ρ : Rho} {i : Nat} {o : MO}, as[i]? = some (.m o) → ∃ o', (outA as ρ)[i]? = some (.m o')
  | [], _, i, o, h => by simp at h
  | .m x :: r, [], i, o, h => ⟨o, by simpa [outA] using h⟩
  | .d x :: r, [], i, o, h => ⟨o, by simpa [outA] using h⟩
  | .scr x :: r, [], i, o, h => ⟨o, by simpa [outA] using h⟩
  | a :: r, s :: q, i + 1, o, h => by
    obtain ⟨o', h'⟩ := outA_of (as := r) (ρ := q) (i := i) (by simpa using h)
    exact ⟨o', by cases a <;> cases s <;> simpa [outA] using h'⟩
  | a :: r, s :: q, 0, o, h => by
    simp at h
    subst h
    cases s <;> simp [outA]
/-- the parameters that are objects of the caller's -/
def paOf (vs : List V) (as : List Arg) : List (Nat × Addr) := (List.range as.length).filterMap fun i => match as[i]?, vs[i]? with
  | some (Arg.m _), some (V.ref a) => some (i, a)
  | _, _ => none
theorem mem_paOf {vs : List V} {as : List Arg} {i : Nat} {a : Addr} : (i, a) ∈ paOf vs as ↔ ∃ o, as[i]? = some (.m o) ∧ vs[i]? = some (V.ref a) := by
  unfold paOf
  rw [List.mem_filterMap]
  constructor
  · rintro ⟨k, hk, h⟩
    split at h
    · rename_i o b h1 h2
      cases h
      exact ⟨o, h1, h2⟩
    · cases h
  · rintro ⟨o, h1, h2⟩
    refine ⟨i, List.mem_range.mpr (List.getElem?_eq_some_iff.mp h1).1, ?_⟩
    rw [h1, h2]
end
end Y
set_option Elab.async false
set_option linter.all false
set_option maxRecDepth 100000
set_option maxHeartbeats 4000000
set_option autoImplicit false
/-! defs that may ask repr: no object is under repr where they are called -/
namespace Y
open PySem PySem.Spec L2
open PyProof.Rows
structure FnG (P : Program) (w : World) (K : PySem.W.Frag) (mg : Str → Option Value) (base : Heap) (k : Nat) (f : Addr) (fd : FuncData) (ps : List Str) (sp : Sp) : Prop where
  len : ∀ vs H Q E, sp vs H Q E → vs.length = ps.length
  run : ∀ (A : Around) (outer : List Env) (s : Shared) (H : Hp) (args : Args) (us : List Value) (vs : List V) (Q : VK) (E : XK), Room k A → A.guards = some [] → Env0 P w K mg base A outer s H →
    BindsTo s fd args (ps.zip us) → Vals vs us → sp vs H Q E → codeAny (model P w) A (.call (.ref f) args) (CR CX0 outer P w H s Q E) s
section
variable {P : Program} {w : World} {K : PySem.W.Frag} {mg : Str → Option Value} {base : Heap} {j k : Nat} {f : Addr} {fd : FuncData} {ps : List Str} {sp sp' : Sp}
theorem FnG.of (F : FnOk P w K mg base CX0 k f fd ps sp) : FnG P w K mg base k f fd ps sp :=
  ⟨F.len, fun A outer s H args us vs Q E hr _ => F.run A outer s H args us vs Q E hr⟩
theorem FnG.mono (F : FnG P w K mg base j f fd ps sp) (h : j ≤ k) : FnG P w K mg base k f fd ps sp :=
  ⟨F.len, fun A outer s H args us vs Q E hr => F.run A outer s H args us vs Q E (hr.mono h)⟩
theorem FnG.imp (F : FnG P w K mg base k f fd ps sp) (h : ∀ vs H Q E, sp' vs H Q E → sp vs H Q E) : FnG P w K mg base k f fd ps sp' := by
  refine ⟨fun vs H Q E q => F.len vs H Q E (h _ _ _ _ q), ?_⟩
  intro A outer s H args us vs Q E hr hg he hb hv hs
  exact F.run A outer s H args us vs Q E hr hg he hb hv (h _ _ _ _ hs)
/-- a def of the text, by its body -/
theorem fnG_of {x qual : Str} {st : Stmt} {N : List Str} (F : Fun K x qual st f fd) (S : FnScope N ps (defScope st)) (len : ∀ vs H Q E, sp vs H Q E → vs.length = ps.length)
    (hbody : ∀ (cdv : Value) (A : Around) (outer : List Env) (s : Shared) (H : Hp) (vs : List V) (Q : VK) (E : XK), Room k (A.deeper (envOfC qual (defScope st) s.heap.objs.size f cdv)) → A.guards = some [] → sp vs H Q E →
      ∃ t, PSs (cxOf CX0 P w K mg base N qual (defScope st) f cdv A outer s H E).nox (defBody st) t ∧ t { nx := fun _ H' => Q .non H', rt := Q } (L2.start N vs) H) : FnG P w K mg base (k + 1) f fd ps sp := by
  obtain ⟨oc, od, kV, doc, pm, an, cdv, ct, osl, rfl, lk, hcd⟩ := F.ex
  refine ⟨len, fun A outer s H args us vs Q E hr hgd e0 hb r hsp => ?_⟩
  have hl := len _ _ _ _ hsp
  have KX : K.In s.heap := e0.mod.kin.keeps fun b o e => (e0.bs b o e).1
  have lim : s.heap.NoLimit := e0.mod.nolimit.keeps fun b o e => (e0.bs b o e).1
  refine codeAny_call_function hr.depth (KX _ _ lk) rfl S.co S.gen rfl (PySem.W.codeRec_of KX hcd) (hb _ _ _ _ ?_)
  refine wpAny_newFunctionEnv_cells S.kind ?_ fun env he s1 x => ?_
  · rintro ⟨n, v⟩ hy
    rcases S.par n (List.of_mem_zip hy).1 with q | q
    · exact .inl q
    · exact .inr ⟨q, PySem.W.cellsFrom_some _ _ _ (.inl q)⟩
  subst he
  refine ⟨lim.keeps x.toInCall.keep, codeAny_func ?_⟩
  obtain ⟨t, ht', hq⟩ := hbody cdv A outer s H vs Q E (hr.deeper _) hgd hsp
  have ht := ht'.nox
  have I : Inv (cxOf CX0 P w K mg base N qual (defScope st) f cdv A outer s H E) [] (L2.start N vs) H s1 := inv_start S hr.hd e0 hl r x
  refine wpAny_mono (ht.run [] s1 (L2.start N vs) H _ I hq) (fun fl s' hs => ?_) fun e s' hs => hs
  have fin : ∀ {σ' : L2.St} {H' : Hp} {v : V} {u : Value}, Inv (cxOf CX0 P w K mg base N qual (defScope st) f cdv A outer s H E) [] σ' H' s' →
      RelV v u → Q v H' → CE outer P w H s Q u s' := by
    intro σ' H' v u J rv q
    exact ⟨v, H', J.os, J.bare, J.base, J.hok, rv, q⟩
  cases fl
  case ret u =>
    obtain ⟨v, σ', H', J, rv, q⟩ := hs
    exact fin J rv q
  case next =>
    obtain ⟨σ', H', J, q⟩ := hs
    exact fin (v := V.non) (u := Value.none) J rfl q
  all_goals
    obtain ⟨_, _, _, q⟩ := hs
    exact False.elim q
end
section
variable {X : Cx} {k : Nat} {f : Addr} {fd : FuncData} {ps : List Str} {sp : Sp} {x : Str} {p pos : Pos} {e : Expr} {es : List Expr} {t : TA}
theorem run_G {pins : List (Addr × Obj)} {σ : L2.St} {H : Hp} {s : Shared} {Q : VK} {us : List Value} {vs : List V} (F : FnG X.prog X.w X.K X.mg X.base k f fd ps sp) (hr : Room k X.A) (hgd : X.A.guards = some []) (hb : Binds X.K fd ps [])
    (I : Inv X pins σ H s) (r : Vals vs us) (h : sp vs H Q E0) : wpAny (model X.prog X.w) X.A (call (.ref f) us) (EP X pins σ Q) X.xe s := by
  have hl : (us ++ []).length = ps.length := by
    rw [List.append_nil, ← r.length]
    exact F.len _ _ _ _ h
  have hb' := hb s us I.kIn hl
  rw [List.append_nil] at hb'
  refine wpAny_call (codeAny_mono (F.run X.A X.stack s H ⟨us, []⟩ us vs Q E0 hr hgd I.env0 hb' r h) fun rr s' hq => ?_)
  cases rr with
  | error er => exact pass0 pins σ H s er s' I hq
  | ok fl =>
    cases fl
    case ret u => exact I.after hq
    all_goals exact False.elim hq
theorem pe_callG (F : FnG X.prog X.w X.K X.mg X.base k f fd ps sp) (hr : Room k X.A) (hgd : X.A.guards = some []) (hg : Gl X x) (hm : X.mg x = some (.ref f)) (hk : PySem.W.keepIn X.K (.ref f) = true) (hb : Binds X.K fd ps [])
    (ha : PA X (e :: es) t) (hdb : (x == ("__debug__" : Str)) = false) (he : starEach (e :: es) X.env = (false, eval e X.env) :: starEach es X.env) (hpl : (backTo pos (starEach es X.env)).any (·.1) = false) :
    PE X (.Call (.Name x p) (e :: es) [] pos) (fun σ H Q => t σ H fun vs H1 => sp vs H1 Q E0) := by
  refine ⟨fun pins s σ H Q I h => ?_⟩
  refine wpAny_Call_Name_kw (ld_glob I hg hm ?_ hdb)
  refine PySem.W.callWith_K (h₀ := X.base) I.ok.mod.kin hk (thn (ha.run pos pins s σ H _ I h) fun us s1 hu => ?_) he hpl
  obtain ⟨vs, H1, I1, r, q⟩ := hu
  exact ⟨I1.kIn, run_G F hr hgd hb I1 r q⟩
theorem pe_callG0 (F : FnG X.prog X.w X.K X.mg X.base k f fd ps sp) (hr : Room k X.A) (hgd : X.A.guards = some []) (hg : Gl X x) (hm : X.mg x = some (.ref f)) (hk : PySem.W.keepIn X.K (.ref f) = true) (hb : Binds X.K fd ps [])
    (hdb : (x == ("__debug__" : Str)) = false) : PE X (.Call (.Name x p) [] [] pos) (fun σ H Q => sp [] H Q E0) := by
  refine ⟨fun pins s σ H Q I h => ?_⟩
  refine wpAny_Call_Name_kw (ld_glob I hg hm ?_ hdb)
  exact PySem.W.callWith_K0 I.kIn hk (run_G (us := []) F hr hgd hb I .nil h)
end
end Y
set_option Elab.async false
set_option linter.all false
set_option maxRecDepth 100000
set_option maxHeartbeats 4000000
set_option autoImplicit false
namespace Y
open PySem PySem.Spec L2
def rho0 (n : Nat) (as : List Arg) : Rho := as.map Arg.slot ++ List.replicate (n - as.length) .un
theorem rho0_get {n : Nat} {as : List Arg} {i : Nat} {s : Slot} (h : (rho0 n as)[i]? = some s) (hu : s ≠ .un) : ∃ a, as[i]? = some a ∧ s = a.slot := by
  unfold rho0 at h
  by_cases hi : i < as.length
  · rw [List.getElem?_append_left (by simpa using hi), List.getElem?_map] at h
    cases e : as[i]? with
    | none => rw [e] at h; cases h
    | some a => rw [e] at h; cases h; exact ⟨a, rfl, rfl⟩
  · rw [List.getElem?_append_right (by simpa using hi), List.getElem?_replicate] at h
    split at h
    · cases h; exact (hu rfl).elim
    · cases h
theorem rho0_at {n : Nat} {as : List Arg} {i : Nat} {a : Arg} (h : as[i]? = some a) : (rho0 n as)[i]? = some a.slot := by
  unfold rho0
  have hi : i < as.length := (List.getElem?_eq_some_iff.mp h).1
  rw [List.getElem?_append_left (by simpa using hi), List.getElem?_map, h]
  rfl
theorem start_at {N : List Str} {vs : List V} {i : Nat} {v : V} (h : vs[i]? = some v) : (L2.start N vs)[i]? = some (some v) := by
  unfold L2.start
  have hi : i < vs.length := (List.getElem?_eq_some_iff.mp h).1
  rw [List.getElem?_append_left (by simpa using hi), List.getElem?_map, h]
  rfl
theorem start_len {N : List Str} {vs : List V} (h : vs.length ≤ N.length) : (L2.start N vs).length = N.length := by
  unfold L2.start
  rw [List.length_append, List.length_map, List.length_replicate]
  omega
theorem rho0_len {n : Nat} {as : List Arg} (h : as.length ≤ n) : (rho0 n as).length = n := by
  unfold rho0
  rw [List.length_append, List.length_map, List.length_replicate]
  omega
theorem start_get {N : List Str} {vs : List V} {i : Nat} {v : V} (h : (L2.start N vs)[i]? = some (some v)) : vs[i]? = some v := by
  unfold L2.start at h
  by_cases hi : i < vs.length
  · rw [List.getElem?_append_left (by simpa using hi), List.getElem?_map] at h
    cases e : vs[i]? with
    | none => rw [e] at h; cases h
    | some a => rw [e] at h; cases h; rfl
  · rw [List.getElem?_append_right (by simpa using hi), List.getElem?_replicate] at h
    split at h <;> cases h
def bsOf (H Hf : Hp) (vs : List V) (as : List Arg) : Bs := ⟨H, Hf, (paOf vs as).map (·.2), paOf vs as, true⟩
section
variable {K : PySem.W.Frag} {B : Bs} {σ σ' : L2.St} {H H' Hf Hf' : Hp} {ρ ρ' : Rho}
theorem arg_own (R : Rel K B σ H Hf ρ) {vs : List V} {avs : List AV} {as : List Arg} (hv : AVs K σ Hf vs avs) (ha : argsOf ρ avs = some as) {i : Nat} {o : MO} (h : as[i]? = some (.m o)) :
    ∃ j s a, avs[i]? = some (.ow j) ∧ ρ[j]? = some s ∧ s.obj? = some o ∧ σ[j]? = some (some (V.ref a)) ∧ vs[i]? = some (V.ref a) ∧ Hf a = none ∧ ObjR K Hf H a o := by
  obtain ⟨av, h1, h2⟩ := argsOf_get ha h
  obtain ⟨j, s, rfl, h3, h4⟩ := argOf_m h2
  obtain ⟨v, h5, h6⟩ := avs_get hv h1
  obtain ⟨a, h7, h8, h9, _⟩ := R.own j s o h3 h4
  have h6' : σ[j]? = some (some v) := h6
  rw [h7] at h6'
  cases h6'
  exact ⟨j, s, a, h1, h3, h4, h7, h5, h8, h9⟩
/-- the callee's entry -/
theorem Rel.enter (R : Rel K B σ H Hf ρ) {N : List Str} {vs : List V} {avs : List AV} {as : List Arg} (hv : AVs K σ Hf vs avs) (ha : argsOf ρ avs = some as) (hn : (ows avs).Nodup) (hl : vs.length ≤ N.length) :
    Rel K (bsOf H Hf vs as) (L2.start N vs) H Hf (rho0 N.length as) := by
  have l1 : as.length = vs.length := by rw [argsOf_len ha]; exact hv.length.symm
  refine ⟨R.fz, Same.refl _, fun b o e _ => e, fun b o _ e => e, fun a h => ?_, by rw [start_len hl, rho0_len (by omega)], fun i d e => ?_, fun i ns e => ?_, fun i s o e1 e2 => ?_, fun i j s s' o o' a e1 e2 e3 e4 e5 e6 => ?_, fun i o e => ?_, fun _ i o e => ?_, fun q hq => ?_⟩
  · obtain ⟨q, hq, rfl⟩ := List.mem_map.mp h
    obtain ⟨o, h1, h2⟩ := mem_paOf.mp (show (q.1, q.2) ∈ paOf vs as from hq)
    obtain ⟨j, s, a, g1, g2, g3, g4, g5, g6, g7⟩ := arg_own R hv ha h1
    rw [h2] at g5
    cases g5
    exact g7.there
  · obtain ⟨a, h1, h2⟩ := rho0_get e (fun z => nomatch z)
    cases a with
    | d x =>
      cases h2
      obtain ⟨av, g1, g2⟩ := argsOf_get ha h1
      cases argOf_d g2
      obtain ⟨v, g3, g4⟩ := avs_get hv g1
      exact ⟨v, start_at g3, g4⟩
    | _ => cases h2
  · obtain ⟨a, h1, h2⟩ := rho0_get e (fun z => nomatch z)
    cases a with
    | scr x =>
      cases h2
      obtain ⟨av, g1, g2⟩ := argsOf_get ha h1
      obtain ⟨j, rfl, g5⟩ := argOf_s g2
      obtain ⟨v, g3, g4⟩ := avs_get hv g1
      obtain ⟨b, g6, g7⟩ := R.scr j _ g5
      have g4' : σ[j]? = some (some v) := g4
      rw [g6] at g4'
      cases g4'
      exact ⟨b, start_at g3, g7⟩
    | _ => cases h2
  · obtain ⟨a, h1, h2⟩ := rho0_get e1 (fun z => by rw [z] at e2; cases e2)
    cases a with
    | m x =>
      subst h2
      cases e2
      obtain ⟨j, s, a, g1, g2, g3, g4, g5, g6, g7⟩ := arg_own R hv ha h1
      exact ⟨a, start_at g5, g6, g7, .inl (List.mem_map.mpr ⟨(i, a), mem_paOf.mpr ⟨_, h1, g5⟩, rfl⟩)⟩
    | _ => subst h2; cases e2
  · have own : ∀ (i : Nat) (s : Slot) (o : MO), (rho0 N.length as)[i]? = some s → s.obj? = some o → (L2.start N vs)[i]? = some (some (V.ref a)) → ∃ j s', avs[i]? = some (.ow j) ∧ ρ[j]? = some s' ∧ s'.obj? = some o ∧ σ[j]? = some (some (V.ref a)) := fun i s o f1 f2 f3 => by
      obtain ⟨b, h1, h2⟩ := rho0_get f1 (fun z => by rw [z] at f2; cases f2)
      cases b with
      | m x =>
        subst h2
        cases f2
        obtain ⟨j, s, a', g1, g2, g3, g4, g5, g6, g7⟩ := arg_own R hv ha h1
        have h3 := start_get f3
        rw [g5] at h3
        cases h3
        exact ⟨j, s, g1, g2, g3, g4⟩
      | _ => subst h2; cases f2
    obtain ⟨j1, s1, q1, q2, q3, q4⟩ := own i s o e1 e2 e5
    obtain ⟨j2, s2, p1, p2, p3, p4⟩ := own j s' o' e3 e4 e6
    have ej := R.dis j1 j2 s1 s2 o o' a q2 q3 p2 p3 q4 p4
    subst ej
    exact ows_nodup hn q1 p1
  · obtain ⟨a, h1, h2⟩ := rho0_get e (fun z => nomatch z)
    cases a with
    | m x =>
      cases h2
      obtain ⟨j, s, a, g1, g2, g3, g4, g5, g6, g7⟩ := arg_own R hv ha h1
      exact ⟨a, start_at g5, mem_paOf.mpr ⟨_, h1, g5⟩⟩
    | _ => cases h2
  · obtain ⟨a, h1, h2⟩ := rho0_get e (fun z => nomatch z)
    cases a <;> cases h2
  · obtain ⟨o, h1, h2⟩ := mem_paOf.mp (show (q.1, q.2) ∈ paOf vs as from hq)
    exact ⟨start_at h2, o, rho0_at h1⟩
theorem put_obj {z : Slot} {q q' : MO} (h : z.obj? = some q) : (z.put q').obj? = some q' := by cases z <;> first | rfl | cases h
/-- back from the callee -/
theorem Rel.leave (R : Rel K B σ H Hf ρ) {N : List Str} {vs : List V} {avs : List AV} {as : List Arg} {ρc : Rho} {σc : L2.St} (hv : AVs K σ Hf vs avs) (ha : argsOf ρ avs = some as) (hn : (ows avs).Nodup)
    (Rc : Rel K (bsOf H Hf vs as) σc H' Hf' ρc) : Rel K B σ H' Hf' (putB avs (outA as ρc) ρ) := by
  have s : Same Hf Hf' := Rc.zf
  refine R.unbase ?_
  -- an address that is handed in
  have inms : ∀ a, a ∈ (paOf vs as).map (·.2) → ∃ (i j : Nat) (sl : Slot) (o : MO), as[i]? = some (.m o) ∧ avs[i]? = some (.ow j) ∧ ρ[j]? = some sl ∧ sl.obj? = some o ∧ σ[j]? = some (some (V.ref a)) ∧ vs[i]? = some (V.ref a) := fun a h => by
    obtain ⟨q, hq, rfl⟩ := List.mem_map.mp h
    obtain ⟨o, h1, h2⟩ := mem_paOf.mp (show (q.1, q.2) ∈ paOf vs as from hq)
    obtain ⟨j, sl, a, g1, g2, g3, g4, g5, g6, g7⟩ := arg_own R hv ha h1
    rw [h2] at g5
    cases g5
    exact ⟨q.1, j, sl, o, h1, g1, g2, g3, g4, h2⟩
  have sub : ∀ a, a ∈ (paOf vs as).map (·.2) → a ∈ ownA σ ρ := fun a h => by
    obtain ⟨i, j, sl, o, _, _, h3, h4, h5, _⟩ := inms a h
    exact mem_ownA.mpr ⟨j, sl, o, h3, h4, h5⟩
  have keepH : ∀ b o, H b = some o → b ∉ (paOf vs as).map (·.2) → H' b = some o := Rc.kp
  have nput : ∀ {sl : Slot} {o q : MO}, sl.put o = .d (mD q) → sl = .d (mD q) := fun {sl o q} h => by cases sl <;> first | exact h | cases h
  -- a slot afterwards
  have back : ∀ {j : Nat} {sl : Slot}, (putB avs (outA as ρc) ρ)[j]? = some sl → ∃ s0, ρ[j]? = some s0 ∧ ((findArg avs (outA as ρc) j = none ∧ sl = s0) ∨ ∃ o, findArg avs (outA as ρc) j = some o ∧ sl = s0.put o) := fun {j sl} h => by
    rw [putB_get] at h
    cases e : ρ[j]? with
    | none => rw [e] at h; cases h
    | some s0 =>
      rw [e] at h
      cases e2 : findArg avs (outA as ρc) j with
      | none => rw [e2] at h; cases h; exact ⟨_, rfl, .inl ⟨rfl, rfl⟩⟩
      | some o => rw [e2] at h; cases h; exact ⟨_, rfl, .inr ⟨o, rfl, rfl⟩⟩
  -- a slot that was handed in holds an object
  have handed : ∀ {j : Nat} {o : MO}, findArg avs (outA as ρc) j = some o → ∃ (i : Nat) (o0 : MO) (s0 : Slot) (a : Addr), avs[i]? = some (.ow j) ∧ as[i]? = some (.m o0) ∧ ρ[j]? = some s0 ∧ s0.obj? = some o0 ∧ σ[j]? = some (some (V.ref a)) ∧ vs[i]? = some (V.ref a) ∧ (outA as ρc)[i]? = some (.m o) := fun {j o} h => by
    obtain ⟨i, h1, h2⟩ := findArg_some h
    obtain ⟨⟨o0, h3⟩, _⟩ := outA_get h2
    obtain ⟨j', s0, a, g1, g2, g3, g4, g5, _⟩ := arg_own R hv ha h3
    rw [h1] at g1
    cases g1
    exact ⟨i, o0, s0, a, h1, h3, g2, g3, g4, g5, h2⟩
  have noD : ∀ {j : Nat} {o : MO} {s0 : Slot}, findArg avs (outA as ρc) j = some o → ρ[j]? = some s0 → ∃ q, s0.obj? = some q := fun {j o s0} h e => by
    obtain ⟨i, o0, s1, a, _, _, g, g', _⟩ := handed h
    rw [e] at g
    cases g
    exact ⟨o0, g'⟩
  refine ⟨Rc.fz, s, fun b o e m => keepH b o e fun z => m (sub b z), fun b o e z => Rc.nf b o e z, fun a h => ?_, by unfold putB; rw [List.length_mapIdx]; exact R.len, fun i d e => ?_, fun i ns e => ?_, fun i sl o e1 e2 => ?_, fun i j s1 s2 o1 o2 a e1 e2 e3 e4 e5 e6 => ?_, fun i o e => ?_, (fun z => nomatch z), fun q hq => ?_⟩
  · obtain ⟨_, ⟨u, hu⟩, _⟩ := R.ownB h
    by_cases hm : a ∈ (paOf vs as).map (·.2)
    · exact Rc.mt a hm
    · exact ⟨u, keepH a u hu hm⟩
  · obtain ⟨s0, h1, h2⟩ := back e
    rcases h2 with ⟨_, rfl⟩ | ⟨o, h3, h4⟩
    · obtain ⟨v, g1, g2⟩ := R.dat i d h1
      exact ⟨v, g1, g2.mono s⟩
    · obtain ⟨q, hq⟩ := noD h3 h1
      have := put_obj (q' := o) hq
      rw [← h4] at this
      cases this
  · obtain ⟨s0, h1, h2⟩ := back e
    rcases h2 with ⟨_, rfl⟩ | ⟨o, h3, h4⟩
    · obtain ⟨v, g1, g2⟩ := R.scr i ns h1
      exact ⟨v, g1, s.seq g2⟩
    · obtain ⟨q, hq⟩ := noD h3 h1
      have := put_obj (q' := o) hq
      rw [← h4] at this
      cases this
  · obtain ⟨s0, h1, h2⟩ := back e1
    rcases h2 with ⟨h3, rfl⟩ | ⟨o', h3, h4⟩
    · obtain ⟨a, g1, g2, g3, g4⟩ := R.own i _ o h1 e2
      obtain ⟨u, hu⟩ := g3.there
      have nm : a ∉ (paOf vs as).map (·.2) := fun z => by
        obtain ⟨k, j, s2, o2, f1, f2, f3, f4, f5, _⟩ := inms a z
        have ej := R.dis i j _ s2 o o2 a h1 e2 f3 f4 g1 f5
        subst ej
        obtain ⟨o3, f6⟩ := outA_of (ρ := ρc) f1
        exact findArg_none h3 f2 f6
      refine ⟨a, g1, Rc.nf a u hu g2, g3.mono s ?_, .inl (mem_ownA.mpr ⟨i, _, o, h1, e2, g1⟩)⟩
      rw [hu]
      exact keepH a u hu nm
    · obtain ⟨k, o0, s1, a, f1, f2, f3, f4, f5, f6, f7⟩ := handed h3
      rw [h1] at f3
      cases f3
      have e2' := put_obj (q' := o') f4
      rw [← h4, e2] at e2'
      cases e2'
      obtain ⟨g1, o2, g2⟩ := Rc.pas (k, a) (mem_paOf.mpr ⟨_, f2, f6⟩)
      obtain ⟨b, p1, p2, p3, _⟩ := Rc.own k _ o2 g2 rfl
      rw [g1] at p1
      cases p1
      rcases (outA_get f7).2 with z | z
      · rw [g2] at z
        cases z
        exact ⟨a, f5, p2, p3, .inl (mem_ownA.mpr ⟨i, _, o0, h1, f4, f5⟩)⟩
      · exact (z _ g2).elim
  · have ob : ∀ {i : Nat} {sl : Slot} {o : MO}, (putB avs (outA as ρc) ρ)[i]? = some sl → sl.obj? = some o → ∃ s0 o0, ρ[i]? = some s0 ∧ s0.obj? = some o0 := fun {i sl o} f1 f2 => by
      obtain ⟨s0, h1, h2⟩ := back f1
      rcases h2 with ⟨_, rfl⟩ | ⟨o', h3, h4⟩
      · exact ⟨_, o, h1, f2⟩
      · obtain ⟨q, hq⟩ := noD h3 h1
        exact ⟨s0, q, h1, hq⟩
    obtain ⟨t1, p1, b1, c1⟩ := ob e1 e2
    obtain ⟨t2, p2, b2, c2⟩ := ob e3 e4
    exact R.dis i j t1 t2 p1 p2 a b1 c1 b2 c2 e5 e6
  · obtain ⟨s0, h1, h2⟩ := back e
    rcases h2 with ⟨_, rfl⟩ | ⟨o', h3, h4⟩
    · exact R.par i o h1
    · cases s0 with
      | p q => exact R.par i q h1
      | m q => cases h4
      | _ => cases h4
  · obtain ⟨g1, o, g2⟩ := R.pas q hq
    refine ⟨g1, ?_⟩
    rw [putB_get, g2]
    cases findArg avs (outA as ρc) q.1 with
    | none => exact ⟨o, rfl⟩
    | some o' => exact ⟨o', rfl⟩
end
/-! ### a def by its body; a call -/
section
variable {P : Program} {w : World} {K : PySem.W.Frag} {mg : Str → Option Value} {base : Heap}
theorem fn_data {x qual : Str} {st : Stmt} {f : Addr} {fd : FuncData} {N ps : List Str} {k : Nat} {fb : FS} {G : FD} (F : Fun K x qual st f fd) (S : FnScope N ps (defScope st))
    (hG : ∀ as r as', as.length = ps.length → G as = some (r, as') → fDef N.length fb as = some (r, as'))
    (hb : ∀ (X : Cx), X.K = K → X.N = N → X.prog = P → X.w = w → X.mg = mg → X.base = base → X.calm = true → (∃ (cdv : Value) (A : Around) (outer : List Env) (s : Shared) (H : Hp) (E : XK), X = (cxOf CX0 P w K mg base N qual (defScope st) f cdv A outer s H E).nox) → Room k X.A → X.A.guards = some [] → DSs X (defBody st) fb) :
    FnG P w K mg base (k + 1) f fd ps (spF K ps.length G) := by
  refine fnG_of F S (fun vs H Q E h => h.1) (fun cdv A outer s H vs Q E hr hgd h => ?_)
  obtain ⟨hl, B, σ, Hf, ρ, avs, as, r, as', R, hv, ha, hn, hF, kk⟩ := h
  have hpl : ps.length ≤ N.length := by have := congrArg List.length S.pre; rw [List.length_take] at this; omega
  have l1 : as.length = ps.length := by rw [argsOf_len ha, ← hl]; exact hv.length.symm
  obtain ⟨t, p, q⟩ := (hb _ rfl rfl rfl rfl rfl rfl rfl ⟨cdv, A, outer, s, H, E, rfl⟩ hr hgd).ex
  refine ⟨t, p, ?_⟩
  have e := hG as r as' l1 hF
  unfold fDef at e
  have Rc : Rel K (bsOf H Hf vs as) (L2.start N vs) H Hf (rho0 N.length as) := R.enter hv ha hn (by rw [hl]; exact hpl)
  change (fb (rho0 N.length as)).bind _ = _ at e
  cases e1 : fb (rho0 N.length as) with
  | none => rw [e1] at e; cases e
  | some o =>
    rw [e1] at e
    refine q (bsOf H Hf vs as) rfl (L2.start N vs) H Hf (rho0 N.length as) o _ Rc e1 ?_
    cases o with
    | rt d ρc =>
      cases e
      exact fun σc H' Hf' v Rl s' rv => kk v H' Hf' (R.leave (N := N) hv ha hn Rl) s' rv
    | nx ρc =>
      cases e
      exact fun σc H' Hf' Rl s' => kk .non H' Hf' (R.leave (N := N) hv ha hn Rl) s' .non
    | bk ρc => cases e
    | ct ρc => cases e
end
section
variable {X : Cx}
def fCall (F : FD) (fa : FA) : FE := fun ρ => (fa ρ).bind fun p => (argsOf p.2 p.1).bind fun as => if (ows p.1).Nodup then (F as).map fun r => (r.1, putB p.1 r.2 p.2) else none
theorem de_call {x : Str} {p pos : Pos} {e : Expr} {es : List Expr} {k : Nat} {f : Addr} {fd : FuncData} {ps : List Str} {F : FD} {fa : FA} (G : FnG X.prog X.w X.K X.mg X.base k f fd ps (spF X.K ps.length F)) (hr : Room k X.A) (hgd : X.A.guards = some []) (hg : Gl X x) (hm : X.mg x = some (.ref f)) (hk : PySem.W.keepIn X.K (.ref f) = true) (hb : Binds X.K fd ps [])
    (ha : DA X (e :: es) fa) (hlen : ps.length = (e :: es).length) (hav : ∀ ρ d ρ', fa ρ = some (d, ρ') → d.length = (e :: es).length) (hdb : (x == ("__debug__" : Str)) = false := by decide) (he : starEach (e :: es) X.env = (false, eval e X.env) :: starEach es X.env := by rfl) (hpl : (backTo pos (starEach es X.env)).any (·.1) = false := by rfl) :
    DE X (.Call (.Name x p) (e :: es) [] pos) (fCall F fa) := by
  obtain ⟨t, pa, q⟩ := ha.ex
  refine ⟨_, pe_callG G hr hgd hg hm hk hb pa hdb he hpl, fun B σ H Hf ρ d ρ' Q R e k => ?_⟩
  unfold fCall at e
  cases e1 : fa ρ with
  | none => rw [e1] at e; cases e
  | some z =>
    obtain ⟨avs, ρ1⟩ := z
    cases e2 : argsOf ρ1 avs with
    | none => simp [e1, e2] at e
    | some as =>
      simp only [e1, e2, Option.bind_some] at e
      split at e
      · rename_i hn
        cases e3 : F as with
        | none => rw [e3] at e; cases e
        | some r =>
          rw [e3] at e
          cases e
          refine q B σ H Hf ρ avs ρ1 _ R e1 fun vs H1 Hf1 R1 s1 o1 => ?_
          refine ⟨?_, B, σ, Hf1, ρ1, avs, as, r.1, r.2, R1, o1, e2, hn, by rw [e3], fun v H' Hf' R' s' rv => k v H' Hf' R' (s1.trans s') rv⟩
          rw [o1.length, hav ρ avs ρ1 e1, hlen]
      · cases e
theorem acons_len {f : FO} {g : FA} {n : Nat} (h : ∀ ρ d ρ', g ρ = some (d, ρ') → d.length = n) : ∀ ρ d ρ', fACons f g ρ = some (d, ρ') → d.length = n + 1 := fun ρ d ρ' e => by
  obtain ⟨a, ρ1, r, _, e2, rfl⟩ := fACons_some e
  simp [h _ _ _ e2]
theorem anil_len : ∀ ρ d ρ', fANil ρ = some (d, ρ') → d.length = 0 := fun ρ d ρ' e => by cases e; rfl
end
end Y
set_option Elab.async false
set_option linter.all false
set_option maxRecDepth 100000
set_option maxHeartbeats 4000000
set_option autoImplicit false
namespace Y
open PySem PySem.Spec L2
section
variable {X : Cx} {e a b c : Expr}
/-! ### methods of lists of one's own -/
def lstAt (ρ : Rho) (i : Nat) : Option (List PyData) := match ρ[i]? with
  | some (.m (.lst xs)) => some xs
  | some (.p (.lst xs)) => some xs
  | _ => none
def putAt (ρ : Rho) (i : Nat) (o : MO) : Rho := match ρ[i]? with
  | some s => ρ.set i (s.put o)
  | none => ρ
theorem lstAt_some {ρ : Rho} {i : Nat} {xs : List PyData} (h : lstAt ρ i = some xs) : ∃ s, ρ[i]? = some s ∧ s.obj? = some (.lst xs) ∧ ∀ o, putAt ρ i o = ρ.set i (s.put o) := by
  unfold lstAt at h
  split at h
  · rename_i e; cases h; exact ⟨_, e, rfl, fun o => by unfold putAt; rw [e]⟩
  · rename_i e; cases h; exact ⟨_, e, rfl, fun o => by unfold putAt; rw [e]⟩
  · cases h
theorem lst_own {K : PySem.W.Frag} {B : Bs} {σ : L2.St} {H Hf : Hp} {ρ : Rho} {i : Nat} {xs : List PyData} (R : Rel K B σ H Hf ρ) (h : lstAt ρ i = some xs) :
    ∃ a vs, σ[i]? = some (some (V.ref a)) ∧ H a = some (.lst vs) ∧ RpAll K Hf vs xs ∧ ∀ vs' xs', RpAll K Hf vs' xs' → Rel K B σ (upd H a (.lst vs')) Hf (putAt ρ i (.lst xs')) := by
  obtain ⟨s, h1, h2, h3⟩ := lstAt_some h
  obtain ⟨a, g1, g2, ⟨vs, g3, g4⟩, _⟩ := R.own i s _ h1 h2
  refine ⟨a, vs, g1, g3, g4, fun vs' xs' r => ?_⟩
  rw [h3]
  exact R.wr h1 h2 g1 ⟨vs', upd_same, r⟩
def fApp (i : Nat) (f : FE) : FE := fun ρ => (lstAt ρ i).bind fun _ => (f ρ).bind fun p => (lstAt p.2 i).bind fun xs => if xs.length < sizeLine then some (.none, putAt p.2 i (.lst (xs ++ [p.1]))) else none
theorem de_append (i : Nat) {o : Expr} {f : FE} {apos cpos : Pos} (ho : PE X o (tVar i)) (h : DE X e f)
    (hbase : attributeBase o "append" X.env (eval o X.env) = eval o X.env := by rfl)
    (hfew : ((backTo cpos (starEach [e] X.env)).all (fun x => !x.1) && (backToKw cpos (keywordEach [] X.env)).all (fun x => x.1.isSome) && decide (([e] : List Expr).length + ([] : List Keyword).length + (if ([] : List Keyword).isEmpty then 0 else 1) < 30)) = true := by rfl)
    (hline : (apos.endLine == cpos.line) = true := by rfl) (hs : starEach [e] X.env = (false, eval e X.env) :: starEach [] X.env := by rfl) : DE X (.Call (.Attribute o "append" apos) [e] [] cpos) (fApp i f) := by
  obtain ⟨t, p, q⟩ := h.ex
  refine ⟨_, pe_bm PySem.F.plainAttrs_list PySem.F.slot_list_append PySem.F.type_list_append mt_append ho (pa_cons p pa_nil hs) hbase hfew hline hs, fun B σ H Hf ρ d ρ' Q R e k => ?_⟩
  unfold fApp at e
  cases e0 : lstAt ρ i with
  | none => rw [e0] at e; cases e
  | some xs0 =>
    cases e1 : f ρ with
    | none => simp [e0, e1] at e
    | some z =>
      obtain ⟨d1, ρ1⟩ := z
      cases e2 : lstAt ρ1 i with
      | none => simp [e0, e1, e2] at e
      | some xs =>
        simp only [e0, e1, e2, Option.bind_some] at e
        split at e
        · rename_i hz
          cases e
          obtain ⟨a0, vs0, g1, g2, g3, _⟩ := lst_own R e0
          refine ⟨_, g1, .inl ⟨rfl, vs0, SqL.of g2⟩, ?_⟩
          refine q B σ H Hf ρ d1 ρ1 _ R e1 fun v H' Hf' R' s r => ?_
          obtain ⟨a, vs, h1, h2, h3, h4⟩ := lst_own R' e2
          rw [g1] at h1
          cases h1
          exact ⟨a0, vs, v, rfl, rfl, h2, by rw [h3.length]; exact hz, k _ _ Hf' (h4 _ _ (h3.append (.cons r .nil))) s .non⟩
        · cases e
def fExt (i : Nat) (f : FO) : FE := fun ρ => (lstAt ρ i).bind fun _ => (f ρ).bind fun p => (p.1.get p.2).bind fun y => (lstAt p.2 i).bind fun xs => match y with
  | .list ys => if xs.length + ys.length ≤ sizeLine then some (.none, putAt p.2 i (.lst (xs ++ ys))) else none
  | _ => none
theorem de_extend (i : Nat) {o : Expr} {f : FO} {apos cpos : Pos} (ho : PE X o (tVar i)) (h : DO X e f)
    (hbase : attributeBase o "extend" X.env (eval o X.env) = eval o X.env := by rfl)
    (hfew : ((backTo cpos (starEach [e] X.env)).all (fun x => !x.1) && (backToKw cpos (keywordEach [] X.env)).all (fun x => x.1.isSome) && decide (([e] : List Expr).length + ([] : List Keyword).length + (if ([] : List Keyword).isEmpty then 0 else 1) < 30)) = true := by rfl)
    (hline : (apos.endLine == cpos.line) = true := by rfl) (hs : starEach [e] X.env = (false, eval e X.env) :: starEach [] X.env := by rfl) : DE X (.Call (.Attribute o "extend" apos) [e] [] cpos) (fExt i f) := by
  obtain ⟨t, p, q⟩ := h.ex
  refine ⟨_, pe_bm PySem.F.plainAttrs_list PySem.F.slot_list_extend PySem.F.type_list_extend mt_extend ho (pa_cons p pa_nil hs) hbase hfew hline hs, fun B σ H Hf ρ d ρ' Q R e k => ?_⟩
  unfold fExt at e
  cases e0 : lstAt ρ i with
  | none => rw [e0] at e; cases e
  | some xs0 =>
    cases e1 : f ρ with
    | none => simp [e0, e1] at e
    | some z =>
      obtain ⟨d1, ρ1⟩ := z
      cases e3 : d1.get ρ1 with
      | none => simp [e0, e1, e3] at e
      | some y =>
        cases e2 : lstAt ρ1 i with
        | none => simp [e0, e1, e2, e3] at e
        | some xs =>
          simp only [e0, e1, e2, e3, Option.bind_some] at e
          cases y with
          | list ys =>
            dsimp only at e
            split at e
            · rename_i hz
              cases e
              obtain ⟨a0, vs0, g1, g2, g3, _⟩ := lst_own R e0
              refine ⟨_, g1, .inl ⟨rfl, vs0, SqL.of g2⟩, ?_⟩
              refine q B σ H Hf ρ d1 ρ1 _ R e1 fun v H' Hf' R' s r => ?_
              obtain ⟨a, vs, h1, h2, h3, h4⟩ := lst_own R' e2
              rw [g1] at h1
              cases h1
              obtain ⟨b, ws, rfl, h5, h6⟩ := (av_get R' r e3).list R'.fz
              exact ⟨a0, b, vs, ws, rfl, rfl, h2, h5, by rw [h3.length, h6.length]; exact hz, k _ _ Hf' (h4 _ _ (h3.append h6)) s .non⟩
            · cases e
          | _ => cases e
def fPop (i : Nat) : FE := fun ρ => (lstAt ρ i).bind fun xs => (xs[xs.length - 1]?).map fun y => (y, putAt ρ i (.lst xs.dropLast))
theorem de_pop (i : Nat) {o : Expr} {apos cpos : Pos} (ho : PE X o (tVar i)) (hbase : attributeBase o "pop" X.env (eval o X.env) = eval o X.env := by rfl) (hline : (apos.endLine == cpos.line) = true := by rfl) : DE X (.Call (.Attribute o "pop" apos) [] [] cpos) (fPop i) := by
  refine ⟨_, pe_bm0 PySem.F.plainAttrs_list PySem.F.slot_list_pop PySem.F.type_list_pop mt_pop ho hbase hline, fun B σ H Hf ρ d ρ' Q R e k => ?_⟩
  unfold fPop at e
  cases e0 : lstAt ρ i with
  | none => rw [e0] at e; cases e
  | some xs =>
    cases e1 : xs[xs.length - 1]? with
    | none => simp [e0, e1] at e
    | some y =>
      simp [e0, e1] at e
      obtain ⟨rfl, rfl⟩ := e
      obtain ⟨a0, vs, g1, g2, g3, g4⟩ := lst_own R e0
      obtain ⟨v, h1, h2⟩ := g3.get e1
      exact ⟨_, g1, .inl ⟨rfl, vs, SqL.of g2⟩, a0, vs, v, rfl, rfl, g2, by rw [g3.length]; exact h1, k _ _ Hf (g4 _ _ g3.dropLast) (Same.refl _) h2⟩
def fPopAt (i : Nat) (f : FE) : FE := fun ρ => (lstAt ρ i).bind fun _ => (f ρ).bind fun p => (toI p.1).bind fun j => (lstAt p.2 i).bind fun xs => if 0 ≤ j ∧ j < xs.length ∧ j < 2 ^ 63 then (xs[j.toNat]?).map fun y => (y, putAt p.2 i (.lst (xs.eraseIdx j.toNat))) else none
theorem de_popAt (i : Nat) {o : Expr} {f : FE} {apos cpos : Pos} (ho : PE X o (tVar i)) (h : DE X e f)
    (hbase : attributeBase o "pop" X.env (eval o X.env) = eval o X.env := by rfl)
    (hfew : ((backTo cpos (starEach [e] X.env)).all (fun x => !x.1) && (backToKw cpos (keywordEach [] X.env)).all (fun x => x.1.isSome) && decide (([e] : List Expr).length + ([] : List Keyword).length + (if ([] : List Keyword).isEmpty then 0 else 1) < 30)) = true := by rfl)
    (hline : (apos.endLine == cpos.line) = true := by rfl) (hs : starEach [e] X.env = (false, eval e X.env) :: starEach [] X.env := by rfl) : DE X (.Call (.Attribute o "pop" apos) [e] [] cpos) (fPopAt i f) := by
  obtain ⟨t, p, q⟩ := h.ex
  refine ⟨_, pe_bm PySem.F.plainAttrs_list PySem.F.slot_list_pop PySem.F.type_list_pop mt_popAt ho (pa_cons p pa_nil hs) hbase hfew hline hs, fun B σ H Hf ρ d ρ' Q R e k => ?_⟩
  unfold fPopAt at e
  cases e0 : lstAt ρ i with
  | none => rw [e0] at e; cases e
  | some xs0 =>
    cases e1 : f ρ with
    | none => simp [e0, e1] at e
    | some z =>
      obtain ⟨d1, ρ1⟩ := z
      cases e3 : toI d1 with
      | none => simp [e0, e1, e3] at e
      | some j =>
        cases e2 : lstAt ρ1 i with
        | none => simp [e0, e1, e2, e3] at e
        | some xs =>
          simp only [e0, e1, e2, e3, Option.bind_some] at e
          split at e
          · rename_i hz
            cases e4 : xs[j.toNat]? with
            | none => rw [e4] at e; cases e
            | some y =>
              rw [e4] at e
              cases e
              cases toI_some e3
              obtain ⟨a0, vs0, g1, g2, g3, _⟩ := lst_own R e0
              refine ⟨_, g1, .inl ⟨rfl, vs0, SqL.of g2⟩, ?_⟩
              refine q B σ H Hf ρ _ ρ1 _ R e1 fun v H' Hf' R' s r => ?_
              cases r
              obtain ⟨a, vs, h1, h2, h3, h4⟩ := lst_own R' e2
              rw [g1] at h1
              cases h1
              obtain ⟨w, h5, h6⟩ := h3.get e4
              refine ⟨a0, vs, j, j.toNat, w, rfl, rfl, h2, by omega, hz.2.2, ?_, h5, k _ _ Hf' (h4 _ _ (h3.eraseIdx _)) s h6⟩
              have e6 : ixN vs.length j = some j.toNat := by
                unfold ixN
                rw [if_pos hz.1, if_pos (by rw [h3.length]; exact hz.2.1)]
              exact (ixN_seq e6).1
          · cases e
/-! ### dicts of one's own -/
def dctAt (ρ : Rho) (i : Nat) : Option (List (Key × PyData)) := match ρ[i]? with
  | some (.m (.dct xs)) => some xs
  | some (.p (.dct xs)) => some xs
  | _ => none
def putD (kvs : List (Key × PyData)) (k : Key) (v : PyData) : List (Key × PyData) :=
  if (kvs.any fun z => decide (z.1 = k)) = true then kvs.map fun z => if z.1 = k then (z.1, v) else z else kvs ++ [(k, v)]
theorem rpk_any {K : PySem.W.Frag} {H : Hp} (k : Key) : ∀ {vs : List (Key × V)} {ds : List (Key × PyData)}, RpK K H vs ds → (vs.any fun kv => decide (kv.1 = k)) = ds.any fun z => decide (z.1 = k)
  | _, _, .nil => rfl
  | _, _, .cons h t => by rw [List.any_cons, List.any_cons, rpk_any k t]
theorem rpk_map {K : PySem.W.Frag} {H : Hp} (k : Key) {v : V} {d : PyData} (r : Rp K H v d) : ∀ {vs : List (Key × V)} {ds : List (Key × PyData)}, RpK K H vs ds → RpK K H (vs.map fun kv => if kv.1 = k then (kv.1, v) else kv) (ds.map fun z => if z.1 = k then (z.1, d) else z)
  | _, _, .nil => .nil
  | _, _, .cons (k := j) h t => by
    rw [List.map_cons, List.map_cons]
    by_cases e : j = k
    · rw [if_pos e, if_pos e]; exact .cons r (rpk_map k r t)
    · rw [if_neg e, if_neg e]; exact .cons h (rpk_map k r t)
theorem rpk_app {K : PySem.W.Frag} {H : Hp} : ∀ {vs ws : List (Key × V)} {ds es : List (Key × PyData)}, RpK K H vs ds → RpK K H ws es → RpK K H (vs ++ ws) (ds ++ es)
  | _, _, _, _, .nil, t => t
  | _, _, _, _, .cons h t, u => .cons h (rpk_app t u)
theorem rpk_put {K : PySem.W.Frag} {H : Hp} {k : Key} {v : V} {d : PyData} (r : Rp K H v d) {vs : List (Key × V)} {ds : List (Key × PyData)} (h : RpK K H vs ds) : RpK K H (putK vs k v) (putD ds k d) := by
  unfold putK putD
  rw [rpk_any k h]
  split
  · exact rpk_map k r h
  · exact rpk_app h (.cons r .nil)
def fDPut (i : Nat) (fk fv : FE) : FS := fun ρ => (fv ρ).bind fun p => (dctAt p.2 i).bind fun _ => (fk p.2).bind fun q => (keyOf q.1).bind fun k => (dctAt q.2 i).bind fun kvs => if kvs.length < sizeLine then some (.nx (putAt q.2 i (.dct (putD kvs k p.1)))) else none
theorem dctAt_some {ρ : Rho} {i : Nat} {xs : List (Key × PyData)} (h : dctAt ρ i = some xs) : ∃ s, ρ[i]? = some s ∧ s.obj? = some (.dct xs) ∧ ∀ o, putAt ρ i o = ρ.set i (s.put o) := by
  unfold dctAt at h
  split at h
  · rename_i e; cases h; exact ⟨_, e, rfl, fun o => by unfold putAt; rw [e]⟩
  · rename_i e; cases h; exact ⟨_, e, rfl, fun o => by unfold putAt; rw [e]⟩
  · cases h
theorem dct_own {K : PySem.W.Frag} {B : Bs} {σ : L2.St} {H Hf : Hp} {ρ : Rho} {i : Nat} {xs : List (Key × PyData)} (R : Rel K B σ H Hf ρ) (h : dctAt ρ i = some xs) :
    ∃ a vs, σ[i]? = some (some (V.ref a)) ∧ H a = some (.dK vs) ∧ RpK K Hf vs xs ∧ ∀ vs' xs', RpK K Hf vs' xs' → Rel K B σ (upd H a (.dK vs')) Hf (putAt ρ i (.dct xs')) := by
  obtain ⟨s, h1, h2, h3⟩ := dctAt_some h
  obtain ⟨a, g1, g2, ⟨vs, g3, g4⟩, _⟩ := R.own i s _ h1 h2
  refine ⟨a, vs, g1, g3, g4, fun vs' xs' r => ?_⟩
  rw [h3]
  exact R.wr h1 h2 g1 ⟨vs', upd_same, r⟩
theorem ds_dput (i : Nat) {o ke ve : Expr} {fk fv : FE} {pos pos' : Pos} (hu : X.A.units + 1 < cLine) (ho : PE X o (tVar i)) (hk : DE X ke fk) (hv : DE X ve fv) (hs : swapsWith ve (some (.Subscript o ke pos')) pos.line X.env = pure false := by rfl) : DS X (.Assign [.Subscript o ke pos'] ve pos) (fDPut i fk fv) := by
  obtain ⟨tk, pk, qk⟩ := hk.ex
  obtain ⟨tv, pv, qv⟩ := hv.ex
  refine ⟨_, ps_dput hu ho pk pv hs, fun B lf σ H Hf ρ o D R e k => ?_⟩
  unfold fDPut at e
  cases e1 : fv ρ with
  | none => rw [e1] at e; cases e
  | some z =>
    obtain ⟨dv, ρ1⟩ := z
    cases e2 : dctAt ρ1 i with
    | none => simp [e1, e2] at e
    | some kv0 =>
      cases e3 : fk ρ1 with
      | none => simp [e1, e2, e3] at e
      | some z =>
        obtain ⟨dk, ρ2⟩ := z
        cases e4 : keyOf dk with
        | none => simp [e1, e2, e3, e4] at e
        | some ky =>
          cases e5 : dctAt ρ2 i with
          | none => simp [e1, e2, e3, e4, e5] at e
          | some kvs =>
            simp only [e1, e2, e3, e4, e5, Option.bind_some] at e
            split at e
            · rename_i hz
              cases e
              refine qv B σ H Hf ρ dv ρ1 _ R e1 fun v H1 Hf1 R1 s1 r1 => ?_
              obtain ⟨a0, vs0, g1, g2, g3, _⟩ := dct_own R1 e2
              refine ⟨_, g1, ?_⟩
              refine qk B σ H1 Hf1 ρ1 dk ρ2 _ R1 e3 fun y H2 Hf2 R2 s2 r2 => ?_
              obtain ⟨a, vs, h1, h2, h3, h4⟩ := dct_own R2 e5
              rw [g1] at h1
              cases h1
              have ey := key_rpo (RpO.d (H := H2) r2) e4
              subst ey
              exact ⟨a0, _, rfl, DPut.k h2 (by rw [h3.length]; exact hz), k _ _ Hf2 (h4 _ _ (rpk_put (r1.mono s2) h3)) (s1.trans s2)⟩
            · cases e
end
end Y
set_option Elab.async false
set_option linter.all false
set_option maxRecDepth 100000
set_option maxHeartbeats 4000000
set_option autoImplicit false
namespace Y
open PySem PySem.Spec L2
section
variable {X : Cx} {e a b c : Expr}
/-! ### chains a < b < c -/
def f3 (g g' : PyData → PyData → Option PyData) (fa fb fc : FO) : FE := fun ρ => (fa ρ).bind fun p => (fb p.2).bind fun q => (p.1.get q.2).bind fun x => (q.1.get q.2).bind fun y => (g x y).bind fun z => (tB z).bind fun k =>
  if k = true then (fc q.2).bind fun r => (q.1.get r.2).bind fun y' => (r.1.get r.2).bind fun w => (g' y' w).map fun z' => (z', r.2) else some (.bool false, q.2)
theorem chain_core {op op' : CmpOp} {g g' : PyData → PyData → Option PyData} {fa fb fc : FO} (ho : OpD X (compareOp op) g) (ho' : OpD X (compareOp op') g') (ha : DO X a fa) (hb : DO X b fb) (hc : DO X c fc) :
    ∃ r r' ta tb tc, OpR X (compareOp op) r ∧ OpR X (compareOp op') r' ∧ PE X a ta ∧ PE X b tb ∧ PE X c tc ∧ ∀ (B : Bs) (σ : L2.St) (H Hf : Hp) (ρ : Rho) (d : PyData) (ρ' : Rho) (Q : VK), Rel X.K B σ H Hf ρ → f3 g g' fa fb fc ρ = some (d, ρ') →
    (∀ v H' Hf', Rel X.K B σ H' Hf' ρ' → Same Hf Hf' → Rp X.K Hf' v d → Q v H') → tChain r r' ta tb tc σ H Q := by
  obtain ⟨r, pr, qr⟩ := ho.ex
  obtain ⟨r', pr', qr'⟩ := ho'.ex
  obtain ⟨ta, pa, qa⟩ := ha.ex
  obtain ⟨tb, pb, qb⟩ := hb.ex
  obtain ⟨tc, pc, qc⟩ := hc.ex
  refine ⟨r, r', ta, tb, tc, pr, pr', pa, pb, pc, fun B σ H Hf ρ d ρ' Q R e k => ?_⟩
  unfold f3 at e
  cases e1 : fa ρ with
  | none => rw [e1] at e; cases e
  | some p =>
    obtain ⟨p, ρ1⟩ := p
    cases e2 : fb ρ1 with
    | none => simp [e1, e2] at e
    | some q =>
      obtain ⟨q, ρ2⟩ := q
      cases e3 : p.get ρ2 with
      | none => simp [e1, e2, e3] at e
      | some x =>
        cases e4 : q.get ρ2 with
        | none => simp [e1, e2, e3, e4] at e
        | some y =>
          cases e5 : g x y with
          | none => simp [e1, e2, e3, e4, e5] at e
          | some z =>
            cases e6 : tB z with
            | none => simp [e1, e2, e3, e4, e5, e6] at e
            | some kk =>
              simp only [e1, e2, e3, e4, e5, e6, Option.bind_some] at e
              cases tB_some e6
              refine qa B σ H Hf ρ p ρ1 _ R e1 fun vx H1 Hf1 R1 s1 o1 => qb B σ H1 Hf1 ρ1 q ρ2 _ R1 e2 fun vy H2 Hf2 R2 s2 o2 => ?_
              refine qr B σ H2 Hf2 ρ2 vx vy x y _ _ R2 (av_get R2 (o1.mono s2) e3) (av_get R2 o2 e4) e5 fun v H3 Hf3 R3 s3 r3 => ?_
              cases r3
              refine ⟨kk, rfl, ?_⟩
              have ss := s1.trans (s2.trans s3)
              cases kk with
              | false => cases e; exact iteF (k _ H3 Hf3 R3 ss (.bl _))
              | true =>
                rw [if_pos rfl] at e
                cases e7 : fc ρ2 with
                | none => rw [e7] at e; cases e
                | some w =>
                  obtain ⟨w, ρ3⟩ := w
                  cases e8 : q.get ρ3 with
                  | none => simp [e7, e8] at e
                  | some y' =>
                    cases e9 : w.get ρ3 with
                    | none => simp [e7, e8, e9] at e
                    | some wz =>
                      cases e10 : g' y' wz with
                      | none => simp [e7, e8, e9, e10] at e
                      | some zz =>
                        simp [e7, e8, e9, e10] at e
                        obtain ⟨rfl, rfl⟩ := e
                        refine iteT (qc B σ H3 Hf3 ρ2 w ρ3 _ R3 e7 fun vw H4 Hf4 R4 s4 o4 => ?_)
                        exact qr' B σ H4 Hf4 ρ3 vy vw y' wz _ _ R4 (av_get R4 (o2.mono (s3.trans s4)) e8) (av_get R4 o4 e9) e10 fun v H5 Hf5 R5 s5 r5 => k v H5 Hf5 R5 (ss.trans (s4.trans s5)) r5
theorem de_chain {op op' : CmpOp} {g g' : PyData → PyData → Option PyData} {fa fb fc : FO} {pos : Pos} (ho : OpD X (compareOp op) g) (ho' : OpD X (compareOp op') g') (ha : DO X a fa) (hb : DO X b fb) (hc : DO X c fc)
    (hm : lastMarks [op, op'] [b, c] = false := by with_unfolding_all rfl) : DE X (.Compare a [op, op'] [b, c] pos) (f3 g g' fa fb fc) := by
  obtain ⟨r, r', ta, tb, tc, pr, pr', pa, pb, pc, q⟩ := chain_core ho ho' ha hb hc
  exact ⟨_, pe_chain pr pr' pa pb pc hm, q⟩
theorem dt_chain {op op' : CmpOp} {g g' : PyData → PyData → Option PyData} {fa fb fc : FO} {pos : Pos} (ho : OpD X (compareOp op) g) (ho' : OpD X (compareOp op') g') (ha : DO X a fa) (hb : DO X b fb) (hc : DO X c fc)
    (hm : lastMarks [op, op'] [b, c] = false := by with_unfolding_all rfl) : DT X (.Compare a [op, op'] [b, c] pos) (fT2 (f3 g g' fa fb fc)) := by
  obtain ⟨r, r', ta, tb, tc, pr, pr', pa, pb, pc, q⟩ := chain_core ho ho' ha hb hc
  refine ⟨_, pt_chain pr pr' pa pb pc hm, fun B σ H Hf ρ d ρ' Q R e k => ?_⟩
  exact q B σ H Hf ρ _ ρ' _ R (fT2_some e) fun v H' Hf' R' s r => by
    cases r
    exact ⟨_, rfl, k H' Hf' R' s⟩
/-! ### min of two, dict.get, dicts that are written, join -/
def gMin : PyData → PyData → Option PyData
  | .int i, .int j => some (.int (if j < i then j else i))
  | _, _ => none
theorem de_min {fa fb : FO} {p pos : Pos} (hc : X.calm = true) (hg : Gl X "min") (hm : X.mg "min" = none) (ha : DO X a fa) (hb : DO X b fb) (he : starEach [a, b] X.env = (false, eval a X.env) :: starEach [b] X.env := by rfl) (he2 : starEach [b] X.env = (false, eval b X.env) :: starEach [] X.env := by rfl) (hpl : (backTo pos (starEach [b] X.env)).any (·.1) = false := by rfl) : DE X (.Call (.Name "min" p) [a, b] [] pos) (f2 gMin fa fb) := by
  obtain ⟨ta, pa, qa⟩ := ha.ex
  obtain ⟨tb, pb, qb⟩ := hb.ex
  refine ⟨_, pe_callB (call_min2 hc) hg hm (by decide +kernel) (pa_cons pa (pa_cons pb pa_nil he2) he) (by decide) (by decide) he hpl, fun B σ H Hf ρ d ρ' Q R e k => ?_⟩
  obtain ⟨p, ρ1, q, x, y, e1, e2, e3, e4, e5⟩ := f2_some e
  refine two qa qb (R := fun x y H2 => _) R e1 e2 fun vx vy H2 Hf2 R2 s o1 o2 => ?_
  have rx := av_get R2 o1 e3
  have ry := av_get R2 o2 e4
  unfold gMin at e5
  split at e5
  · cases e5
    exact ⟨_, _, by rw [rx.int, ry.int], k _ H2 Hf2 R2 s (.int _)⟩
  · cases e5
def getD2 (kvs : List (PyData × PyData)) (k : Key) (x : PyData) : PyData := ((kvs.find? fun p => PyData.eqv p.1 (keyD k)).map (·.2)).getD x
def isDct : PyData → Option (List (PyData × PyData))
  | .dict kvs => if dOk kvs = true then some kvs else none
  | _ => none
def fGet2 (fo : FO) (fk : FO) (fx : FE) : FE := fun ρ => (fo ρ).bind fun p => (p.1.get p.2).bind fun o => (isDct o).bind fun _ => (fk p.2).bind fun q => (fx q.2).bind fun r => (p.1.get r.2).bind fun o' => (isDct o').bind fun kvs => (q.1.get r.2).bind fun y => (keyOf y).map fun k => (getD2 kvs k r.1, r.2)
theorem isDct_some {d : PyData} {kvs : List (PyData × PyData)} (h : isDct d = some kvs) : d = .dict kvs ∧ dOk kvs = true := by cases d <;> simp [isDct] at h; exact ⟨by rw [h.2], h.2 ▸ h.1⟩
theorem rpkv_getD {K : PySem.W.Frag} {H : Hp} (k : Key) {x : V} {dx : PyData} (rx : Rp K H x dx) : ∀ {vs : List (Key × V)} {ds : List (PyData × PyData)}, RpKv K H vs ds → Rp K H ((valV vs k).getD x) (getD2 ds k dx)
  | _, _, .nil => rx
  | _, _, .cons (k := j) h t => by
    unfold getD2
    rw [List.find?_cons]
    by_cases ej : j = k
    · have : PyData.eqv (keyD j) (keyD k) = true := by
        subst ej
        cases j <;> simp [keyD, PyData.eqv]
      rw [this, valV_pos ej]
      exact h
    · have : PyData.eqv (keyD j) (keyD k) = false := by
        cases j <;> cases k <;> simp [keyD, PyData.eqv] <;> (try intro z; subst z; exact ej rfl)
      rw [this, valV_neg ej]
      exact rpkv_getD k rx t
theorem de_get2 {o ke xe : Expr} {fo fk : FO} {fx : FE} {apos cpos : Pos} (hu : X.A.units + 1 < cLine) (ho : DO X o fo) (hk : DO X ke fk) (hx : DE X xe fx) (m : M2 X o "get" apos ke xe cpos := by exact ⟨rfl, rfl, rfl, rfl⟩) : DE X (.Call (.Attribute o "get" apos) [ke, xe] [] cpos) (fGet2 fo fk fx) := by
  obtain ⟨to, po, qo⟩ := ho.ex
  obtain ⟨tk, pk, qk⟩ := hk.ex
  obtain ⟨tx, px, qx⟩ := hx.ex
  refine ⟨_, pe_dget2 hu po pk px m, fun B σ H Hf ρ d ρ' Q R e k => ?_⟩
  unfold fGet2 at e
  cases e1 : fo ρ with
  | none => rw [e1] at e; cases e
  | some p =>
    obtain ⟨p, ρ1⟩ := p
    cases e2 : p.get ρ1 with
    | none => simp [e1, e2] at e
    | some o1 =>
      cases e3 : isDct o1 with
      | none => simp [e1, e2, e3] at e
      | some kv0 =>
        cases e4 : fk ρ1 with
        | none => simp [e1, e2, e3, e4] at e
        | some q =>
          obtain ⟨q, ρ2⟩ := q
          cases e5 : fx ρ2 with
          | none => simp [e1, e2, e3, e4, e5] at e
          | some r =>
            obtain ⟨r, ρ3⟩ := r
            cases e6 : p.get ρ3 with
            | none => simp [e1, e2, e3, e4, e5, e6] at e
            | some o2 =>
              cases e7 : isDct o2 with
              | none => simp [e1, e2, e3, e4, e5, e6, e7] at e
              | some kvs =>
                cases e8 : q.get ρ3 with
                | none => simp [e1, e2, e3, e4, e5, e6, e7, e8] at e
                | some y =>
                  cases e9 : keyOf y with
                  | none => simp [e1, e2, e3, e4, e5, e6, e7, e8, e9] at e
                  | some ky =>
                    simp [e1, e2, e3, e4, e5, e6, e7, e8, e9] at e
                    obtain ⟨rfl, rfl⟩ := e
                    obtain ⟨rfl, ok3⟩ := isDct_some e3
                    obtain ⟨rfl, ok7⟩ := isDct_some e7
                    refine qo B σ H Hf ρ p ρ1 _ R e1 fun vo H1 Hf1 R1 s1 a1 => ?_
                    obtain ⟨ad, vs0, rfl, g1, _⟩ := (av_get R1 a1 e2).dict R1.fz ok3
                    refine ⟨ad, rfl, .inl ⟨vs0, .inl g1⟩, ?_⟩
                    refine qk B σ H1 Hf1 ρ1 q ρ2 _ R1 e4 fun vk H2 Hf2 R2 s2 a2 => qx B σ H2 Hf2 ρ2 r ρ3 _ R2 e5 fun vx H3 Hf3 R3 s3 r3 => ?_
                    obtain ⟨ad', vs, ea, h1, h2⟩ := (av_get R3 (a1.mono (s2.trans s3)) e6).dict R3.fz ok7
                    cases ea
                    have ek := key_rpo (av_get R3 (a2.mono s3) e8) e9
                    subst ek
                    exact ⟨_, DGet.k h1, k _ H3 Hf3 R3 (s1.trans (s2.trans s3)) (rpkv_getD ky r3 h2)⟩
/-! {k: v, ..}, written -/
abbrev FPs := Rho → Option (List (PyData × PyData) × Rho)
structure DPs (X : Cx) (pos : Pos) (keys : List (Option Expr)) (values : List Expr) (f : FPs) : Prop where
  ex : ∃ trs, PPs X pos keys values trs ∧ ∀ (B : Bs) (σ : L2.St) (H Hf : Hp) (ρ : Rho) (d : List (PyData × PyData)) (ρ' : Rho) (Q : List (V × V) → Hp → Prop), Rel X.K B σ H Hf ρ → f ρ = some (d, ρ') →
    (∀ ps H' Hf', Rel X.K B σ H' Hf' ρ' → Same Hf Hf' → Paired (fun (p : V × V) (q : PyData × PyData) => Rp X.K Hf' p.1 q.1 ∧ Rp X.K Hf' p.2 q.2) ps d → Q ps H') → tPairs trs σ H Q
def fPNil : FPs := fun ρ => some ([], ρ)
def fPCons (fk fv : FE) (g : FPs) : FPs := fun ρ => (fk ρ).bind fun p => (fv p.2).bind fun q => (g q.2).map fun r => ((p.1, q.1) :: r.1, r.2)
theorem dps_nil {pos : Pos} : DPs X pos [] [] fPNil := ⟨[], pps_nil, fun B σ H Hf ρ d ρ' Q R e k => by
  cases e
  exact k [] H Hf R (Same.refl _) .nil⟩
theorem dps_cons {pos : Pos} {ke ve : Expr} {ks : List (Option Expr)} {vs : List Expr} {fk fv : FE} {g : FPs} (hk : DE X ke fk) (hv : DE X ve fv) (hr : DPs X pos ks vs g) : DPs X pos (some ke :: ks) (ve :: vs) (fPCons fk fv g) := by
  obtain ⟨tk, pk, qk⟩ := hk.ex
  obtain ⟨tv, pv', qv⟩ := hv.ex
  obtain ⟨tr, pr, qr⟩ := hr.ex
  refine ⟨(tk, tv) :: tr, pps_cons pk pv' pr, fun B σ H Hf ρ d ρ' Q R e k => ?_⟩
  unfold fPCons at e
  cases e1 : fk ρ with
  | none => rw [e1] at e; cases e
  | some p =>
    obtain ⟨p, ρ1⟩ := p
    cases e2 : fv ρ1 with
    | none => simp [e1, e2] at e
    | some q =>
      obtain ⟨q, ρ2⟩ := q
      cases e3 : g ρ2 with
      | none => simp [e1, e2, e3] at e
      | some r =>
        obtain ⟨r, ρ3⟩ := r
        simp [e1, e2, e3] at e
        obtain ⟨rfl, rfl⟩ := e
        refine qk B σ H Hf ρ p ρ1 _ R e1 fun v H1 Hf1 R1 s1 r1 => qv B σ H1 Hf1 ρ1 q ρ2 _ R1 e2 fun w H2 Hf2 R2 s2 r2 => qr B σ H2 Hf2 ρ2 r ρ3 _ R2 e3 fun ps H3 Hf3 R3 s3 r3 => ?_
        exact k _ H3 Hf3 R3 (s1.trans (s2.trans s3)) (.cons ⟨r1.mono (s2.trans s3), r2.mono s3⟩ r3)
/-- the pairs as a table: later ones win -/
def tabOf : List (Key × PyData) → List (PyData × PyData) → Option (List (Key × PyData))
  | acc, [] => some acc
  | acc, (k, v) :: r => (keyOf k).bind fun ky => tabOf (putD acc ky v) r
theorem tab_rp {K : PySem.W.Frag} {H : Hp} : ∀ {ps : List (V × V)} {ds : List (PyData × PyData)} {acc : List (Key × PyData)} {vacc : List (Key × V)} {out : List (Key × PyData)}, Paired (fun (p : V × V) (q : PyData × PyData) => Rp K H p.1 q.1 ∧ Rp K H p.2 q.2) ps ds → RpK K H vacc acc → tabOf acc ds = some out →
    ∃ kvs : List (Key × V), ps = kvs.map (fun kv => (kV kv.1, kv.2)) ∧ kvs.length = ds.length ∧ RpK K H (mergeK vacc kvs) out
  | _, _, acc, vacc, out, .nil, r, e => by
    cases e
    exact ⟨[], rfl, rfl, r⟩
  | p :: ps, (dk, dv) :: ds, acc, vacc, out, .cons h t, r, e => by
    unfold tabOf at e
    cases e1 : keyOf dk with
    | none => rw [e1] at e; cases e
    | some ky =>
      rw [e1] at e
      obtain ⟨kvs, h1, h2, h3⟩ := tab_rp t (rpk_put (k := ky) h.2 r) e
      obtain ⟨p1, p2⟩ := p
      have ek : p1 = kV ky := key_rpo (RpO.d (H := H) h.1) e1
      refine ⟨(ky, p2) :: kvs, by rw [List.map_cons, ← h1, ek], by simp [h2], h3⟩
def fDct (g : FPs) : FF := fun ρ => (g ρ).bind fun p => if p.1.length ≤ 15 then (tabOf [] p.1).map fun t => (.dct t, p.2) else none
theorem df_dct {keys : List (Option Expr)} {values : List Expr} {g : FPs} {pos : Pos} (h : DPs X pos keys values g) (hall : keys.all (·.isSome) = true := by rfl) (hl : keys.length = values.length := by rfl) (h0 : keys ≠ [] := by intro z; cases z) (h15 : keys.length ≤ 15 := by decide) : DF X (.Dict keys values pos) (fDct g) := by
  obtain ⟨trs, p, q⟩ := h.ex
  refine ⟨_, pe_disp p hall hl h0 h15, fun B σ H Hf ρ o ρ' Q R e k => ?_⟩
  unfold fDct at e
  cases e1 : g ρ with
  | none => rw [e1] at e; cases e
  | some z =>
    obtain ⟨ds, ρ1⟩ := z
    simp only [e1, Option.bind_some] at e
    split at e
    · rename_i hz
      cases e2 : tabOf [] ds with
      | none => rw [e2] at e; cases e
      | some tb =>
        rw [e2] at e
        cases e
        intro p hp
        have R0 : Rel X.K B σ (upd H p (.dK [])) Hf ρ := R.lay _ hp
        refine q _ σ _ Hf ρ ds _ _ R0.rebase e1 fun ps H1 Hf1 R1 s1 rps => ?_
        have R1' := R0.unbase R1
        have kp := R1.kept
        have np : p ∉ ownA σ ρ := fun z => by
          obtain ⟨u, hu⟩ := (R.ownB z).2.1
          rw [hp] at hu; cases hu
        have h1 : H1 p = some (.dK []) := kp.kp p _ upd_same np
        have h2 : Hf1 p = none := kp.nf p _ upd_same (R.newF hp)
        have h3 : p ∉ ownA σ ρ' := fun z => by
          rcases kp.ow p z with w | w
          · exact np w
          · rw [upd_same] at w; cases w
        obtain ⟨kvs, g1, g2, g3⟩ := tab_rp rps (vacc := []) .nil e2
        exact ⟨h1, kvs, g1, by rw [g2]; exact hz, k p _ Hf1 (R1'.anon _ h2 (R.newB hp) h3) s1 ⟨h2, R.newB hp, h3, mergeK [] kvs, upd_same, g3⟩⟩
    · cases e
/-! sep.join(list of texts) -/
def strsOf : List PyData → Option (List Str)
  | [] => some []
  | .str s :: r => (strsOf r).map (s :: ·)
  | _ :: _ => none
theorem strs_rp {K : PySem.W.Frag} {H : Hp} : ∀ {vs : List V} {ds : List PyData} {ss : List Str}, RpAll K H vs ds → strsOf ds = some ss → vs = ss.map V.str
  | _, _, _, .nil, e => by cases e; rfl
  | _, .str s :: r, ss, .cons h t, e => by
    unfold strsOf at e
    cases e1 : strsOf r with
    | none => rw [e1] at e; cases e
    | some q =>
      rw [e1] at e
      cases e
      cases h
      rw [List.map_cons, ← strs_rp t e1]
  | _, .none :: _, _, .cons _ _, e => by cases e
  | _, .bool _ :: _, _, .cons _ _, e => by cases e
  | _, .int _ :: _, _, .cons _ _, e => by cases e
  | _, .list _ :: _, _, .cons _ _, e => by cases e
  | _, .tuple _ :: _, _, .cons _ _, e => by cases e
  | _, .dict _ :: _, _, .cons _ _, e => by cases e
def gJoin : PyData → PyData → Option PyData
  | .str a, .list xs => (strsOf xs).bind fun ss => if (ss.map (·.length)).sum + ss.length * a.length ≤ 16777216 then some (.str (Txt.join a ss)) else none
  | _, _ => none
def strD : PyData → Option Str
  | .str z => some z
  | _ => none
def fJoin (fo fe : FO) : FE := fun ρ => (fo ρ).bind fun p => (p.1.get p.2).bind fun s0 => (strD s0).bind fun z => (fe p.2).bind fun q => (q.1.get q.2).bind fun y => (gJoin (.str z) y).map fun r => (r, q.2)
theorem de_join {o : Expr} {fo fe : FO} {apos pos : Pos} (ho : DO X o fo) (he : DO X e fe) (hs : starEach [e] X.env = [(false, eval e X.env)] := by rfl) (hbase : attributeBase o "join" X.env (eval o X.env) = eval o X.env := by rfl) (hline : (apos.endLine == pos.line) = true := by rfl) : DE X (.Call (.Attribute o "join" apos) [e] [] pos) (fJoin fo fe) := by
  obtain ⟨to, po, qo⟩ := ho.ex
  obtain ⟨te, pe, qe⟩ := he.ex
  refine ⟨_, pe_join po pe hs hbase hline, fun B σ H Hf ρ d ρ' Q R e k => ?_⟩
  unfold fJoin at e
  cases e1 : fo ρ with
  | none => rw [e1] at e; cases e
  | some p =>
    obtain ⟨p, ρ1⟩ := p
    cases e2 : p.get ρ1 with
    | none => simp [e1, e2] at e
    | some s0 =>
      cases s0 with
      | str z =>
        cases e3 : fe ρ1 with
        | none => simp [e1, e2, e3, strD] at e
        | some q =>
          obtain ⟨q, ρ2⟩ := q
          cases e4 : q.get ρ2 with
          | none => simp [e1, e2, e3, e4, strD] at e
          | some y =>
            cases e5 : gJoin (.str z) y with
            | none => simp [e1, e2, e3, e4, e5, strD] at e
            | some r =>
              simp [e1, e2, e3, e4, e5, strD] at e
              obtain ⟨rfl, rfl⟩ := e
              refine qo B σ H Hf ρ p ρ1 _ R e1 fun vo H1 Hf1 R1 s1 o1 => ?_
              have ez := (av_get R1 o1 e2).str
              subst ez
              refine ⟨⟨_, rfl⟩, ?_⟩
              refine qe B σ H1 Hf1 ρ1 q ρ2 _ R1 e3 fun vy H2 Hf2 R2 s2 o2 => ?_
              unfold gJoin at e5
              split at e5
              · rename_i a xs hz
                cases hz
                cases e6 : strsOf xs with
                | none => rw [e6] at e5; cases e5
                | some ss =>
                  simp only [e6, Option.bind_some] at e5
                  split at e5
                  · rename_i hsz
                    cases e5
                    obtain ⟨b, vs, rfl, h1, h2⟩ := (av_get R2 o2 e4).list R2.fz
                    have ev := strs_rp h2 e6
                    subst ev
                    exact ⟨_, b, ss, rfl, rfl, .inl (SqL.of h1), hsz, k _ H2 Hf2 R2 (s1.trans s2) (.str _)⟩
                  · cases e5
              · cases e5
      | _ => simp [e1, e2, strD] at e
end
end Y
set_option Elab.async false
set_option linter.all false
set_option maxRecDepth 100000
set_option maxHeartbeats 4000000
set_option autoImplicit false
namespace Y
open PySem PySem.Spec L2
section
variable {X : Cx} {e a b c : Expr}
/-- what is new for a value made from the state (H): its own object was not there -/
def NewV (H : Hp) (v : V) : Slot → Prop
  | .m _ => ∀ p, v = .ref p → H p = none
  | _ => True
theorem DG.kept {f : FG} (h : DG X e f) : ∃ t, PE X e t ∧ ∀ (B : Bs) (σ : L2.St) (H Hf : Hp) (ρ : Rho) (s : Slot) (ρ' : Rho) (Q : VK), Rel X.K B σ H Hf ρ → f ρ = some (s, ρ') →
    (∀ v H' Hf', Rel X.K B σ H' Hf' ρ' → Kp σ ρ H Hf σ ρ' H' Hf' → SlotV X.K B σ ρ' H' Hf' v s → NewV H v s → Q v H') → t σ H Q := by
  obtain ⟨t, p, q⟩ := h.ex
  refine ⟨t, p, fun B σ H Hf ρ d ρ' Q R e k => q _ σ H Hf ρ d ρ' Q R.rebase e fun v H' Hf' R' s r => k v H' Hf' (R.unbase R') R'.kept (r.rebase R) ?_⟩
  cases d with
  | m o =>
    obtain ⟨p, e, F⟩ := r
    intro p' e'
    rw [e] at e'
    cases e'
    exact F.nb
  | _ => trivial
theorem setOk_more {K : PySem.W.Frag} {B : Bs} {σ : L2.St} {H Hf : Hp} {ρ : Rho} {i : Nat} {s t : Slot} {u v : V} (hi : i < ρ.length) (hs : SetOk K B σ H Hf ρ (some v) s) (hn : ∀ p o q o', s = .m o → t = .m o' → v = .ref p → u = .ref q → p ≠ q) (ht : SetOk K B σ H Hf ρ (some u) t) : SetOk K B (σ.set i (some u)) H Hf (ρ.set i t) (some v) s := by
  cases s with
  | m o =>
    obtain ⟨a, e, h1, h2, h3, h4⟩ := hs
    cases e
    refine ⟨a, rfl, h1, h2, h3, fun z => ?_⟩
    obtain ⟨j, s', o', g1, g2, g3⟩ := mem_ownA.mp z
    rcases get_set g1 with ⟨rfl, rfl⟩ | ⟨n, g⟩
    · cases s' with
      | m q =>
        obtain ⟨b, eb, _⟩ := ht
        cases eb
        rcases get_set g3 with ⟨_, e3⟩ | ⟨n, _⟩
        · cases e3
          exact hn a o a q rfl rfl rfl rfl rfl
        · exact n rfl
      | p q => exact ht.elim
      | _ => cases g2
    · rw [set_get n] at g3
      exact h4 (mem_ownA.mpr ⟨j, s', o', g, g2, g3⟩)
  | d x => exact hs
  | un => trivial
  | p o => exact hs
  | scr ns => exact hs
def fPar2 (i j : Nat) (f g : FG) : FS := fun ρ => (f ρ).bind fun p => (g p.2).bind fun q => if notP q.2[i]? = true ∧ notP q.2[j]? = true then some (.nx ((q.2.set i p.1).set j q.1)) else none
theorem ds_par2 {i j : Nat} {x y : Str} {f g : FG} {px py pt pos : Pos} {kt k2 pt2} (hc : X.calm = true) (hN : X.N.Nodup) (hi : X.N[i]? = some x) (hj : X.N[j]? = some y) (hij : i ≠ j) (hx : X.env.scope.names.lookup x = some .local) (hy : X.env.scope.names.lookup y = some .local) (ha : DG X a f) (hb : DG X b g)
    (hps : ∀ {ta}, PA X [a, b] ta → PS X (.Assign [.Tuple [.Name x px, .Name y py] kt pt] (.Tuple [a, b] k2 pt2) pos) (tPar i j ta)) (he : starEach [a, b] X.env = (false, eval a X.env) :: starEach [b] X.env := by rfl) (he2 : starEach [b] X.env = (false, eval b X.env) :: starEach [] X.env := by rfl) :
    DS X (.Assign [.Tuple [.Name x px, .Name y py] kt pt] (.Tuple [a, b] k2 pt2) pos) (fPar2 i j f g) := by
  obtain ⟨ta, pa, qa⟩ := ha.kept
  obtain ⟨tb, pb, qb⟩ := hb.kept
  refine ⟨_, hps (pa_cons pa (pa_cons pb pa_nil he2) he), fun B lf σ H Hf ρ o D R e k => ?_⟩
  unfold fPar2 at e
  cases e1 : f ρ with
  | none => rw [e1] at e; cases e
  | some z =>
    obtain ⟨s1, ρ1⟩ := z
    cases e2 : g ρ1 with
    | none => simp [e1, e2] at e
    | some z =>
      obtain ⟨s2, ρ2⟩ := z
      simp only [e1, e2, Option.bind_some] at e
      split at e
      · rename_i hp
        cases e
        refine qa B σ H Hf ρ s1 ρ1 _ R e1 fun v H1 Hf1 R1 k1 sv1 _ => ?_
        refine qb B σ H1 Hf1 ρ1 s2 ρ2 _ R1 e2 fun u H2 Hf2 R2 k2 sv2 nv2 => ?_
        refine ⟨v, u, rfl, ?_⟩
        have sv1' := sv1.keep k2
        have hne : ∀ p o q o', s2 = .m o → s1 = .m o' → u = .ref p → v = .ref q → p ≠ q := fun p o q o' z1 z2 z3 z4 z5 => by
          subst z1 z2 z3 z4 z5
          obtain ⟨p1, e3, F⟩ := sv1
          cases e3
          obtain ⟨w, hw⟩ := F.ob.there
          rw [nv2 _ rfl] at hw
          cases hw
        have l1 : i < ρ2.length := by
          by_cases h : i < ρ2.length
          · exact h
          · rw [List.getElem?_eq_none (by omega)] at hp; cases hp.1
        have R3 := R2.set hp.1 (slotv_set sv1')
        have S3 := setOk_more (i := i) l1 (slotv_set sv2) hne (slotv_set sv1')
        exact k _ _ _ (R3.set (by rw [set_get (fun z => hij z.symm)]; exact hp.2) S3) (k1.same.trans k2.same)
      · cases e
def fPar3 (i j l : Nat) (f g h : FG) : FS := fun ρ => (f ρ).bind fun p => (g p.2).bind fun q => (h q.2).bind fun r => if notP r.2[i]? = true ∧ notP r.2[j]? = true ∧ notP r.2[l]? = true then some (.nx (((r.2.set i p.1).set j q.1).set l r.1)) else none
/-- of a triple: data alone -/
theorem ds_par3 {i j l : Nat} {x y z : Str} {f g h : FE} {px py pz pt pos : Pos} {kt k2 pt2} (hij : i ≠ j) (hil : i ≠ l) (hjl : j ≠ l) (ha : DE X a f) (hb : DE X b g) (hc : DE X c h)
    (hps : ∀ {ta}, PA X [a, b, c] ta → PS X (.Assign [.Tuple [.Name x px, .Name y py, .Name z pz] kt pt] (.Tuple [a, b, c] k2 pt2) pos) (tPar3 i j l ta)) (he : starEach [a, b, c] X.env = (false, eval a X.env) :: starEach [b, c] X.env := by rfl) (he2 : starEach [b, c] X.env = (false, eval b X.env) :: starEach [c] X.env := by rfl) (he3 : starEach [c] X.env = (false, eval c X.env) :: starEach [] X.env := by rfl) :
    DS X (.Assign [.Tuple [.Name x px, .Name y py, .Name z pz] kt pt] (.Tuple [a, b, c] k2 pt2) pos) (fPar3 i j l (gE f) (gE g) (gE h)) := by
  obtain ⟨ta, pa, qa⟩ := ha.ex
  obtain ⟨tb, pb, qb⟩ := hb.ex
  obtain ⟨tc, pc, qc⟩ := hc.ex
  refine ⟨_, hps (pa_cons pa (pa_cons pb (pa_cons pc pa_nil he3) he2) he), fun B lf σ H Hf ρ o D R e k => ?_⟩
  unfold fPar3 gE at e
  cases e1 : f ρ with
  | none => simp [e1] at e
  | some w =>
    obtain ⟨d1, ρ1⟩ := w
    cases e2 : g ρ1 with
    | none => simp [e1, e2] at e
    | some w =>
      obtain ⟨d2, ρ2⟩ := w
      cases e3 : h ρ2 with
      | none => simp [e1, e2, e3] at e
      | some w =>
        obtain ⟨d3, ρ3⟩ := w
        simp only [e1, e2, e3, Option.bind_some, Option.map_some] at e
        split at e
        · rename_i hp
          cases e
          refine qa B σ H Hf ρ d1 ρ1 _ R e1 fun v1 H1 Hf1 R1 s1 r1 => qb B σ H1 Hf1 ρ1 d2 ρ2 _ R1 e2 fun v2 H2 Hf2 R2 s2 r2 => qc B σ H2 Hf2 ρ2 d3 ρ3 _ R2 e3 fun v3 H3 Hf3 R3 s3 r3 => ?_
          refine ⟨v1, v2, v3, rfl, ?_⟩
          have R4 := R3.set (s := .d d1) (ov := some v1) hp.1 ⟨v1, rfl, r1.mono (s2.trans s3)⟩
          have R5 := R4.set (i := j) (s := .d d2) (ov := some v2) (by rw [set_get (fun z => hij z.symm)]; exact hp.2.1) ⟨v2, rfl, r2.mono s3⟩
          have R6 := R5.set (i := l) (s := .d d3) (ov := some v3) (by rw [set_get (fun z => hjl z.symm), set_get (fun z => hil z.symm)]; exact hp.2.2) ⟨v3, rfl, r3⟩
          exact k _ _ _ R6 (s1.trans (s2.trans s3))
        · cases e
/-! ### defs by name -/
structure Cal (P : Program) (w : World) (K : PySem.W.Frag) (mg : Str → Option Value) (base : Heap) (x : Str) (ps : List Str) (k : Nat) (F : FD) : Prop where
  ex : ∃ f fd, FnG P w K mg base k f fd ps (spF K ps.length F) ∧ mg x = some (.ref f) ∧ PySem.W.keepIn K (.ref f) = true ∧ Binds K fd ps []
structure Dfn (K : PySem.W.Frag) (mg : Str → Option Value) (x : Str) (st : Stmt) (ps : List Str) : Prop where
  ex : ∃ f fd, Fun K x x st f fd ∧ mg x = some (.ref f) ∧ Binds K fd ps []
theorem Cal.imp {P : Program} {w : World} {K : PySem.W.Frag} {mg : Str → Option Value} {base : Heap} {x : Str} {ps : List Str} {k : Nat} {F G : FD} (C : Cal P w K mg base x ps k F) (h : ∀ as r as', as.length = ps.length → G as = some (r, as') → F as = some (r, as')) : Cal P w K mg base x ps k G := by
  obtain ⟨f, fd, h1, h2⟩ := C.ex
  refine ⟨f, fd, h1.imp fun vs H Q E q => ?_, h2⟩
  obtain ⟨hl, B, σ, Hf, ρ, avs, as, r, as', R, hv, ha, hn, hF, kk⟩ := q
  exact ⟨hl, B, σ, Hf, ρ, avs, as, r, as', R, hv, ha, hn, h as r as' (by rw [argsOf_len ha, ← hl]; exact hv.length.symm) hF, kk⟩
theorem Cal.mono {P : Program} {w : World} {K : PySem.W.Frag} {mg : Str → Option Value} {base : Heap} {x : Str} {ps : List Str} {k j : Nat} {F : FD} (C : Cal P w K mg base x ps k F) (h : k ≤ j) : Cal P w K mg base x ps j F := by
  obtain ⟨f, fd, h1, h2⟩ := C.ex
  exact ⟨f, fd, h1.mono h, h2⟩
theorem de_cal {x : Str} {p pos : Pos} {e : Expr} {es : List Expr} {k j : Nat} {ps : List Str} {F : FD} {fa : FA} (C : Cal X.prog X.w X.K X.mg X.base x ps k F) (hr : Room j X.A) (hgd : X.A.guards = some []) (hj : k ≤ j) (hg : Gl X x)
    (ha : DA X (e :: es) fa) (hlen : ps.length = (e :: es).length) (hav : ∀ ρ d ρ', fa ρ = some (d, ρ') → d.length = (e :: es).length) (hdb : (x == ("__debug__" : Str)) = false := by decide) (he : starEach (e :: es) X.env = (false, eval e X.env) :: starEach es X.env := by rfl) (hpl : (backTo pos (starEach es X.env)).any (·.1) = false := by rfl) :
    DE X (.Call (.Name x p) (e :: es) [] pos) (fCall F fa) := by
  obtain ⟨f, fd, h1, h2, h3, h4⟩ := C.ex
  exact de_call h1 (hr.mono hj) hgd hg h2 h3 h4 ha hlen hav hdb he hpl
theorem cal_mk {P : Program} {w : World} {K : PySem.W.Frag} {mg : Str → Option Value} {base : Heap} {x : Str} {st : Stmt} {N ps : List Str} {k : Nat} {fb : FS} (D : Dfn K mg x st ps) (S : FnScope N ps (defScope st))
    (hb : ∀ (X : Cx) (f : Addr), (∃ (cdv : Value) (A : Around) (outer : List Env) (s : Shared) (H : Hp) (E : XK), X = (cxOf CX0 P w K mg base N x (defScope st) f cdv A outer s H E).nox) → Room k X.A → X.A.guards = some [] → DSs X (defBody st) fb) : Cal P w K mg base x ps (k + 1) (fDef N.length fb) := by
  obtain ⟨f, fd, F, h1, h2⟩ := D.ex
  exact ⟨f, fd, fn_data F S (fun _ _ _ _ h => h) fun X _ _ _ _ _ _ _ hX hr hgd => hb X f hX hr hgd, h1, F.kp, h2⟩
end
end Y
set_option Elab.async false
set_option linter.all false
set_option maxRecDepth 100000
set_option maxHeartbeats 4000000
set_option autoImplicit false
namespace Y
open PySem PySem.Spec L2
theorem hu65 {k : Nat} {A : Around} (r : Room k A) : A.units + 65 < cLine := by have := r.un; omega
section
variable {X : Cx} {e a b c : Expr}
theorem pi_or {tg iter : Expr} {w1 w2 : TI} (h1 : PI X tg iter w1) (h2 : PI X tg iter w2) : PI X tg iter (fun σ H R => w1 σ H R ∨ w2 σ H R) := ⟨fun pins s σ H R I h => by
  rcases h with h | h
  · exact h1.run pins s σ H R I h
  · exact h2.run pins s σ H R I h⟩
/-- a list, a tuple or a text is walked -/
def iQ (f : FE) : FI := fun ρ => (f ρ).bind fun p => match p.1 with
  | .list xs => some (xs, p.2)
  | .tuple xs => some (xs, p.2)
  | .str z => some (sgnD z, p.2)
  | _ => none
theorem di_seq {tg : Expr} {f : FE} (h : DE X e f) : DI X tg e (iQ f) := by
  obtain ⟨w1, p1, q1⟩ := (di_list (tg := tg) h).ex
  obtain ⟨w2, p2, q2⟩ := (di_tup (tg := tg) h).ex
  obtain ⟨w3, p3, q3⟩ := (di_str (tg := tg) h).ex
  refine ⟨_, pi_or p1 (pi_or p2 p3), fun B σ H Hf ρ ds ρ' Q R e k => ?_⟩
  unfold iQ at e
  cases e1 : f ρ with
  | none => rw [e1] at e; cases e
  | some z =>
    obtain ⟨d, ρ1⟩ := z
    cases d <;> simp [e1] at e
    · rename_i s
      obtain ⟨rfl, rfl⟩ := e
      exact .inr (.inr (q3 B σ H Hf ρ _ ρ1 Q R (by unfold iS; rw [e1]; rfl) k))
    · rename_i xs
      obtain ⟨rfl, rfl⟩ := e
      exact .inl (q1 B σ H Hf ρ _ ρ1 Q R (by unfold iL; rw [e1]; rfl) k)
    · rename_i xs
      obtain ⟨rfl, rfl⟩ := e
      exact .inr (.inl (q2 B σ H Hf ρ _ ρ1 Q R (by unfold iT; rw [e1]; rfl) k))
/-! all, any of a list of truths -/
def blsOf : List PyData → Option (List Bool)
  | [] => some []
  | .bool b :: r => (blsOf r).map (b :: ·)
  | _ :: _ => none
theorem bls_rp {K : PySem.W.Frag} {H : Hp} : ∀ {vs : List V} {ds : List PyData} {bs : List Bool}, RpAll K H vs ds → blsOf ds = some bs → vs = bs.map V.bl
  | _, _, _, .nil, e => by cases e; rfl
  | _, .bool s :: r, ss, .cons h t, e => by
    unfold blsOf at e
    cases e1 : blsOf r with
    | none => rw [e1] at e; cases e
    | some q =>
      rw [e1] at e
      cases e
      cases h
      rw [List.map_cons, ← bls_rp t e1]
  | _, .none :: _, _, .cons _ _, e => by cases e
  | _, .str _ :: _, _, .cons _ _, e => by cases e
  | _, .int _ :: _, _, .cons _ _, e => by cases e
  | _, .list _ :: _, _, .cons _ _, e => by cases e
  | _, .tuple _ :: _, _, .cons _ _, e => by cases e
  | _, .dict _ :: _, _, .cons _ _, e => by cases e
def gAll : PyData → Option PyData
  | .list xs => (blsOf xs).map fun bs => .bool (bs.all id)
  | _ => none
def gAny : PyData → Option PyData
  | .list xs => (blsOf xs).map fun bs => .bool (bs.any id)
  | _ => none
theorem cd_all (hc : X.calm = true) : Cd1 X (.builtin "all") gAll := by
  refine ⟨_, cr_all hc, fun B σ H Hf ρ x dx z Q R rx e k => ?_⟩
  cases dx <;> simp [gAll] at e
  obtain ⟨bs, e1, rfl⟩ := e
  obtain ⟨p, vs, rfl, h1, h2⟩ := rx.list R.fz
  have := bls_rp h2 e1
  subst this
  exact ⟨p, bs, rfl, SqL.of h1, k _ _ _ R (Same.refl _) (.bl _)⟩
theorem cd_any (hc : X.calm = true) : Cd1 X (.builtin "any") gAny := by
  refine ⟨_, cr_any hc, fun B σ H Hf ρ x dx z Q R rx e k => ?_⟩
  cases dx <;> simp [gAny] at e
  obtain ⟨bs, e1, rfl⟩ := e
  obtain ⟨p, vs, rfl, h1, h2⟩ := rx.list R.fz
  have := bls_rp h2 e1
  subst this
  exact ⟨p, bs, rfl, SqL.of h1, k _ _ _ R (Same.refl _) (.bl _)⟩
/-! dict(list of pairs) -/
def prsOf : List PyData → Option (List (PyData × PyData))
  | [] => some []
  | .tuple [k, v] :: r => (prsOf r).map ((k, v) :: ·)
  | _ :: _ => none
theorem prs_rp {K : PySem.W.Frag} {Hf H : Hp} (s : Same Hf H) : ∀ {ds : List PyData} {vs : List V} {ps : List (PyData × PyData)} {acc : List (Key × PyData)} {vacc : List (Key × V)} {out : List (Key × PyData)}, RpAll K Hf vs ds → prsOf ds = some ps → RpK K Hf vacc acc → tabOf acc ps = some out →
    ∃ (as : List Addr) (kvs : List (Key × V)), vs = as.map V.ref ∧ Paired (fun p kv => SqT K H p [kV kv.1, kv.2]) as kvs ∧ RpK K Hf (mergeK vacc kvs) out
  | [], vs, ps, acc, vacc, out, r, e, ra, et => by
    cases r
    cases e
    cases et
    exact ⟨[], [], rfl, .nil, ra⟩
  | d :: ds, vs, ps, acc, vacc, out, r, e, ra, et => by
    cases r with
    | cons h t =>
      cases d with
      | tuple xs =>
        match xs, h, e with
        | [k, v], h, e =>
          cases h with
          | @tup a ws _ h1 h2 =>
            cases h2 with
            | cons g1 g2 =>
              cases g2 with
              | cons g3 g4 =>
                cases g4
                unfold prsOf at e
                cases e1 : prsOf ds with
                | none => rw [e1] at e; cases e
                | some q =>
                  rw [e1] at e
                  cases e
                  unfold tabOf at et
                  cases e2 : keyOf k with
                  | none => rw [e2] at et; cases et
                  | some ky =>
                    rw [e2] at et
                    obtain ⟨as, kvs, z1, z2, z3⟩ := prs_rp s t e1 (rpk_put (k := ky) g3 ra) et
                    have ek := key_rpo (RpO.d (H := H) g1) e2
                    subst ek
                    exact ⟨a :: as, (ky, _) :: kvs, by rw [z1]; rfl, .cons (sqT_mono s h1) z2, z3⟩
        | [], _, e => cases e
        | [_], _, e => cases e
        | _ :: _ :: _ :: _, _, e => cases e
      | _ => cases e
def fDictP (f : FO) : FF := fun ρ => (f ρ).bind fun p => (p.1.get p.2).bind fun x => match x with
  | .list xs => (prsOf xs).bind fun ps => (tabOf [] ps).map fun t => (.dct t, p.2)
  | _ => none
theorem df_dictP {f : FO} {p pos : Pos} (hc : X.calm = true) (hg : Gl X "dict") (hm : X.mg "dict" = none) (h : DO X a f) (he : starEach [a] X.env = (false, eval a X.env) :: starEach [] X.env := by rfl) : DF X (.Call (.Name "dict" p) [a] [] pos) (fDictP f) := by
  obtain ⟨t, pa, q⟩ := h.ex
  refine ⟨_, pe_callTy (call_dictP hc) hg hm (by decide +kernel) (pa_cons pa pa_nil he) (by decide) (by decide) he, fun B σ H Hf ρ d ρ' Q R e k => ?_⟩
  unfold fDictP at e
  cases e1 : f ρ with
  | none => rw [e1] at e; cases e
  | some z =>
    obtain ⟨av, ρ1⟩ := z
    cases e2 : av.get ρ1 with
    | none => simp [e1, e2] at e
    | some x =>
      simp only [e1, e2, Option.bind_some] at e
      refine q B σ H Hf ρ av ρ1 _ R e1 fun v H' Hf' R' s o => ?_
      have rx := av_get R' o e2
      cases x with
      | list xs =>
        dsimp only at e
        cases e3 : prsOf xs with
        | none => rw [e3] at e; cases e
        | some ps =>
          cases e4 : tabOf [] ps with
          | none => simp [e3, e4] at e
          | some tb =>
            simp [e3, e4] at e
            obtain ⟨rfl, rfl⟩ := e
            obtain ⟨p, vs, rfl, h1, h2⟩ := rx.list R'.fz
            obtain ⟨as, kvs, rfl, g2, g3⟩ := prs_rp R'.fz h2 e3 (vacc := []) .nil e4
            exact ⟨p, as, kvs, rfl, SqL.of h1, g2, fun t ht => k t _ _ (R'.lay _ ht) s (fresh_lay R' ht ⟨_, upd_same, g3⟩)⟩
      | _ => cases e
/-! *xs among written items -/
def seqD : PyData → Option (List PyData)
  | .list xs => some xs
  | .tuple xs => some xs
  | _ => none
def fAStar (f : FO) (g : FA) : FA := fun ρ => (f ρ).bind fun p => (p.1.get p.2).bind fun x => (seqD x).bind fun xs => (g p.2).map fun q => (xs.map AV.d ++ q.1, q.2)
theorem da_star {es : List Expr} {f : FO} {g : FA} {p : Pos} (h : DO X e f) (hr : DA X es g) (hs : starEach (.Starred e p :: es) X.env = (true, eval e X.env) :: starEach es X.env := by rfl) : DA X (.Starred e p :: es) (fAStar f g) := by
  obtain ⟨t, pe, q⟩ := h.ex
  obtain ⟨t2, p2, q2⟩ := hr.ex
  refine ⟨_, StX.pa_star pe p2 hs, fun B σ H Hf ρ d ρ' Q R e k => ?_⟩
  unfold fAStar at e
  cases e1 : f ρ with
  | none => rw [e1] at e; cases e
  | some z =>
    obtain ⟨av, ρ1⟩ := z
    cases e2 : av.get ρ1 with
    | none => simp [e1, e2] at e
    | some x =>
      simp only [e1, e2, Option.bind_some] at e
      refine q B σ H Hf ρ av ρ1 _ R e1 fun v H1 Hf1 R1 s1 o1 => ?_
      have rx := av_get R1 o1 e2
      have go : ∀ p vs xs, v = .ref p → (SqT X.K H1 p vs ∨ SqL X.K H1 p vs) → RpAll X.K Hf1 vs xs → ((g ρ1).map fun q => (xs.map AV.d ++ q.1, q.2)) = some (d, ρ') → ∃ p xs, v = V.ref p ∧ (SqT X.K H1 p xs ∨ SqL X.K H1 p xs) ∧ t2 σ H1 fun ys H2 => Q (xs ++ ys) H2 := fun p vs xs ev hsq hrp e3 => by
        cases e4 : g ρ1 with
        | none => rw [e4] at e3; cases e3
        | some y =>
          obtain ⟨r, ρ2⟩ := y
          rw [e4] at e3
          cases e3
          refine ⟨p, vs, ev, hsq, q2 B σ H1 Hf1 ρ1 r _ _ R1 e4 fun ys H2 Hf2 R2 s2 o2 => k _ H2 Hf2 R2 (s1.trans s2) ?_⟩
          have : ∀ {vs : List V} {xs : List PyData}, RpAll X.K Hf2 vs xs → AVs X.K σ Hf2 (vs ++ ys) (xs.map AV.d ++ r) := fun {vs xs} h => by
            induction vs generalizing xs with
            | nil => cases h; exact o2
            | cons v vs ih => cases h with | cons h1 h2 => exact .cons h1 (ih h2)
          exact this (hrp.mono s2)
      cases x with
      | list xs =>
        obtain ⟨p, vs, rfl, h1, h2⟩ := rx.list R1.fz
        exact go p vs xs rfl (.inr (SqL.of h1)) h2 e
      | tuple xs =>
        obtain ⟨p, vs, rfl, h1, h2, _⟩ := rx.tup R1.fz
        exact go p vs xs rfl (.inl h1) h2 e
      | _ => cases e
end
end Y
set_option Elab.async false
set_option linter.all false
set_option maxRecDepth 100000
set_option maxHeartbeats 4000000
set_option autoImplicit false
namespace Y
open PySem PySem.Spec L2
section
variable {X : Cx} {e a b c : Expr}
/-! the script: a slice of it, its length -/
def scrAt (ρ : Rho) (i : Nat) : Option (List Int) := match ρ[i]? with
  | some (.scr ns) => some ns
  | _ => none
theorem scrAt_some {ρ : Rho} {i : Nat} {ns : List Int} (h : scrAt ρ i = some ns) : ρ[i]? = some (.scr ns) := by
  unfold scrAt at h
  split at h
  · rename_i e; cases h; exact e
  · cases h
theorem ints_rp {K : PySem.W.Frag} {H : Hp} : ∀ ns : List Int, RpAll K H (ns.map V.int) (ns.map PyData.int)
  | [] => .nil
  | n :: ns => .cons (.int n) (ints_rp ns)
def fSlS (i : Nat) (g h : FP) : FE := fun ρ => (scrAt ρ i).bind fun _ => (g ρ).bind fun q => (h q.2).bind fun r => (scrAt r.2 i).map fun ns => (.list (cutD (ns.map PyData.int) q.1 r.1), r.2)
theorem de_slS (i : Nat) {lo hi : Option Expr} {g h : FP} {pos p2 : Pos} (ha : PE X a (tVar i)) (hl : DP X lo g) (hh : DP X hi h) : DE X (.Subscript a (.Slice lo hi none p2) pos) (fSlS i g h) := by
  obtain ⟨tl, pl, ql⟩ := hl.ex
  obtain ⟨th, ph, qh⟩ := hh.ex
  refine ⟨_, pe_slice sl_list ha pl ph, fun B σ H Hf ρ d ρ' Q R e k => ?_⟩
  unfold fSlS at e
  cases e0 : scrAt ρ i with
  | none => rw [e0] at e; cases e
  | some ns0 =>
    cases e2 : g ρ with
    | none => simp [e0, e2] at e
    | some y =>
      obtain ⟨l, ρ2⟩ := y
      cases e3 : h ρ2 with
      | none => simp [e0, e2, e3] at e
      | some w =>
        obtain ⟨u, ρ3⟩ := w
        cases e4 : scrAt ρ3 i with
        | none => simp [e0, e2, e3, e4] at e
        | some ns =>
          simp [e0, e2, e3, e4] at e
          obtain ⟨rfl, rfl⟩ := e
          obtain ⟨p, h1, h2⟩ := R.scr i _ (scrAt_some e0)
          refine ⟨_, h1, ?_⟩
          refine ql B σ H Hf ρ l ρ2 _ R e2 fun H2 Hf2 R2 s2 => qh B σ H2 Hf2 ρ2 u ρ3 _ R2 e3 fun H3 Hf3 R3 s3 => ?_
          obtain ⟨p', h3, h4⟩ := R3.scr i _ (scrAt_some e4)
          rw [h1] at h3
          cases h3
          refine ⟨p, _, rfl, R3.fz.seq h4, fun t ht => ?_⟩
          have sf : Same Hf3 (upd Hf3 t (.lst (cutV (ns.map V.int) l u))) := same_upd (R3.newF ht)
          exact k _ _ _ (R3.froze ht _) ((s2.trans s3).trans sf) (.lst upd_same (cut_rp l u (ints_rp ns)))
def fLenS (i : Nat) : FE := fun ρ => (scrAt ρ i).map fun ns => (.int ns.length, ρ)
theorem de_lenS (i : Nat) {p pos : Pos} (hg : Gl X "len") (hm : X.mg "len" = none) (ha : PE X a (tVar i)) (he : starEach [a] X.env = (false, eval a X.env) :: starEach [] X.env := by rfl) : DE X (.Call (.Name "len" p) [a] [] pos) (fLenS i) := by
  refine ⟨_, pe_callB call_len hg hm (by decide +kernel) (pa_cons ha pa_nil he) (by decide) (by decide) he, fun B σ H Hf ρ d ρ' Q R e k => ?_⟩
  unfold fLenS at e
  cases e0 : scrAt ρ i with
  | none => rw [e0] at e; cases e
  | some ns =>
    rw [e0] at e
    cases e
    obtain ⟨p, h1, h2⟩ := R.scr i _ (scrAt_some e0)
    exact ⟨_, h1, .ref p, ns.length, rfl, .inl ⟨_, R.fz.seq h2, by simp⟩, k _ H Hf R (Same.refl _) (.int _)⟩
end
end Y
set_option Elab.async false
set_option linter.all false
set_option maxRecDepth 100000
set_option maxHeartbeats 4000000
set_option autoImplicit false
namespace Y
open PySem PySem.Spec L2
/-! ### repr(x): data without dicts, or a dict of flat values -/
theorem reads_flat {K : PySem.W.Frag} {H : Hp} {h : Heap} {v : V} {u : Value} {d : PyData} (r : Rp K H v d) (f : flatD d = true) (e : RelV v u) : Reads h u d [] := by
  cases r with
  | non => cases e; exact .none
  | bl b => cases e; exact .bool b
  | int i => obtain ⟨t, rfl⟩ := e; exact .int i t
  | str x => obtain ⟨t, rfl⟩ := e; exact .str x t
  | _ => cases f
theorem reads_key {h : Heap} {k : Key} {u : Value} (e : keyIs k u = true) : Reads h u (keyD k) [] := by
  rcases keyIs_shape e with ⟨i, t, rfl, rfl⟩ | ⟨x, t, rfl, rfl⟩
  · exact .int i t
  · exact .str x t
theorem reads_kvs {P : Program} {w : World} {K : PySem.W.Frag} {H : Hp} {h : Heap} : ∀ {es : List DictEntry} {kvs : List (Key × Value)} {vs : List (Key × V)} {ds : List (PyData × PyData)},
    Pairs (mixKind P w) es kvs → KV vs kvs → RpKv K H vs ds → (ds.all fun p => flatD p.2) = true → ReadsAll h (es.map (·.key)) (ds.map (·.1)) [] ∧ ReadsAll h (es.map (·.val)) (ds.map (·.2)) []
  | _, _, _, _, .nil, .nil, .nil, _ => ⟨.nil, .nil⟩
  | _, _, _, _, .cons h1 h2 h3, .cons g1 g2, .cons r1 r2, f => by
    rw [List.all_cons, Bool.and_eq_true] at f
    obtain ⟨q1, q2⟩ := reads_kvs (h := h) h3 g2 r2 f.2
    obtain ⟨g3, g4⟩ := g1
    rw [mixKind_is] at h1
    refine ⟨.cons (as := []) (bs := []) ?_ q1, .cons (as := []) (bs := []) ?_ q2⟩
    · rw [← g3] at h1
      exact reads_key h1
    · have g5 := reads_flat (h := h) r1 f.1 g4
      rw [← h2] at g5
      exact g5
def rpOk : PyData → Bool
  | .dict kvs => dOk kvs && kvs.all fun p => flatD p.2
  | d => d.canLay0
def gRepr (d : PyData) : Option PyData := if rpOk d = true ∧ d.showable = true ∧ d.shown.length ≤ sizeLine ∧ d.depth ≤ 60 then some (.str d.shown) else none
def rRepr (K : PySem.W.Frag) : List V → Hp → VK → Prop := fun xs H Q => ∃ v d, xs = [v] ∧ Rp K H v d ∧ rpOk d = true ∧ d.showable = true ∧ d.shown.length ≤ sizeLine ∧ d.depth ≤ 60 ∧ Q (.str d.shown) H
theorem call_repr {X : Cx} (hgd : X.A.guards = some []) (hu : X.A.units + 64 < cLine) : CallR X (.builtin "repr") (rRepr X.K) := by
  intro pins s σ H xs us Q I r h
  obtain ⟨v, d, rfl, hv, ho, hs, hz, hd, q⟩ := h
  obtain ⟨u, rfl, ru⟩ := vals1 r
  have back : ∀ h' u' tk, (∀ b o, s.heap.get? b = some o → h'.get? b = some o) → EP X pins σ Q (.str d.shown u') { s with heap := h', toks := tk } :=
    fun h' u' tk hk => ⟨.str d.shown, H, I.kept hk, ⟨_, rfl⟩, q⟩
  have go : ∀ a as, u = .ref a → Reads s.heap (.ref a) d as → (d.hasDict = true → sysModules ∉ as) → wpAny (model X.prog X.w) X.A (call (.builtin "repr") [u]) (EP X pins σ Q) X.xe s := by
    intro a as e rd hsm
    subst e
    exact PySem.repr_of_reads' rd hs hsm hgd (by omega) (fun _ _ z => z) back hz
  have bi : d.canLay0 = true → ∀ a, u = .ref a → wpAny (model X.prog X.w) X.A (call (.builtin "repr") [u]) (EP X pins σ Q) X.xe s := by
    intro hc a e
    subst e
    obtain ⟨as, rd⟩ := Dp.reads I d v _ (rp_dp hc hv) ru
    exact go a as rfl rd (PyData.noDict_hsm (PyData.hasDict_of_canLay d hc))
  cases hv with
  | non => cases ru; exact PySem.P.repr_of_none (back _ _ _ fun _ _ z => z)
  | bl b => cases ru; exact PySem.P.repr_of_bool (back _ _ _ fun _ _ z => z)
  | int i =>
    obtain ⟨t, rfl⟩ := ru
    exact PySem.P.repr_of_int (by simpa [PyData.showable] using hs) (back _ _ _ fun _ _ z => z)
  | str x =>
    obtain ⟨t, rfl⟩ := ru
    exact PySem.P.repr_of_str (back _ _ _ fun _ _ z => z) (by simpa only [PyData.shown] using hz)
  | lst h1 h2 => exact bi ho _ ru
  | tup h1 h2 => exact bi ho _ ru
  | ex0 h1 => cases ho
  | exc h1 h2 h3 => cases ho
  | @dct a kvs ds h1 h2 =>
    unfold rpOk at ho
    rw [Bool.and_eq_true] at ho
    obtain ⟨_, hne, vs, hkv, o, es, ep, ho1, ho2, ho3, _, hp, _⟩ := (show ObjOk X.prog X.w H s.heap a (.dK kvs) from I.hok a _ h1)
    obtain ⟨q1, q2⟩ := reads_kvs (h := s.heap) hp hkv h2 ho.2
    refine go a (a :: [] ++ []) ru (.dict ho1 ho2.1 ho3 q1 q2) fun _ z => ?_
    have : sysModules = a := by simpa using z
    rw [this] at hne
    simp at hne
section
variable {X : Cx}
theorem cd_repr (hgd : X.A.guards = some []) (hu : X.A.units + 64 < cLine) : Cd1 X (.builtin "repr") gRepr := by
  refine ⟨_, call_repr hgd hu, fun B σ H Hf ρ x dx z Q R rx e k => ?_⟩
  unfold gRepr at e
  split at e
  · rename_i h
    cases e
    exact ⟨x, dx, rfl, rx.rp R.fz, h.1, h.2.1, h.2.2.1, h.2.2.2, k _ _ _ R (Same.refl _) (.str _)⟩
  · cases e
end
end Y
set_option Elab.async false
set_option linter.all false
set_option maxRecDepth 100000
set_option maxHeartbeats 4000000
set_option autoImplicit false
namespace Y
open PySem PySem.Spec L2
/-! ### lists times ints -/
def gMul2 : PyData → PyData → Option PyData
  | .list xs, .int k => if -(2 ^ 63) ≤ k ∧ k < 2 ^ 63 ∧ xs.length * k.toNat ≤ sizeLine then some (.list (List.replicate k.toNat xs).flatten) else none
  | x, y => gMul x y
theorem rp_rep {K : PySem.W.Frag} {H : Hp} {vs : List V} {ds : List PyData} (h : RpAll K H vs ds) : ∀ n : Nat, RpAll K H (List.replicate n vs).flatten (List.replicate n ds).flatten
  | 0 => .nil
  | n + 1 => by
    rw [List.replicate_succ, List.replicate_succ, List.flatten_cons, List.flatten_cons]
    exact h.append (rp_rep h n)
section
variable {X : Cx} {e a b c : Expr}
theorem od_mul2 : OpD X (binaryOp .Mult) gMul2 := by
  obtain ⟨r, o, q0⟩ := (od_mul (X := X)).ex
  refine ⟨⟨_, o.or op_rep, fun B σ H Hf ρ x y dx dy z Q R rx ry e k => ?_⟩⟩
  unfold gMul2 at e
  split at e
  · rename_i xs n
    split at e
    · rename_i h
      cases e
      obtain ⟨p, vs, rfl, h1, h2⟩ := rx.list R.fz
      refine .inr ⟨p, n, vs, rfl, ry.int, h1, h.1, h.2.1, by rw [h2.length]; exact h.2.2, fun t ht => ?_⟩
      have sf : Same Hf (upd Hf t (.lst (List.replicate n.toNat vs).flatten)) := same_upd (R.newF ht)
      exact k _ _ _ (R.froze ht _) sf (.lst upd_same ((rp_rep h2 _).mono sf))
    · cases e
  · exact .inl (q0 B σ H Hf ρ x y dx dy z Q R rx ry e k)
/-! ### constants of a class -/
theorem de_cval {f : Str} {pos p : Pos} {x : Str} {C : Addr} {mc : Value} {n : Int} (hg : Gl X x) (hm : X.mg x = some (.ref C)) (hr : ClX.CRead X.K C mc) (hc : ∃ u, ClX.CVal X.K C mc f (.int n) u) (hdb : (x == ("__debug__" : Str)) = false := by decide)
    (hb : attributeBase (.Name x p) f X.env (eval (.Name x p) X.env) = eval (.Name x p) X.env := by rfl) : DE X (.Attribute (.Name x p) f pos) (fC (.int n)) := by
  obtain ⟨u, hc⟩ := hc
  refine ⟨_, ClX.pe_cval (pe_glob (v := .ref C) hg hm rfl hdb) hb, fun B σ H Hf ρ d ρ' Q R e k => ?_⟩
  cases e
  exact ⟨C, mc, _, u, rfl, hr, hc, k _ H Hf R (Same.refl _) (.int n)⟩
end
/-! ### defs that hand a fresh object back -/
abbrev FDF := List Arg → Option (MO × List Arg)
def spFF (K : PySem.W.Frag) (n : Nat) (F : FDF) : Sp := fun vs H Q _ => vs.length = n ∧ ∃ (B : Bs) (σ : L2.St) (Hf : Hp) (ρ : Rho) (avs : List AV) (as : List Arg) (r : MO) (as' : List Arg), Rel K B σ H Hf ρ ∧ AVs K σ Hf vs avs ∧ argsOf ρ avs = some as ∧ (ows avs).Nodup ∧ F as = some (r, as') ∧
  ∀ p H' Hf', Rel K B σ H' Hf' (putB avs as' ρ) → Same Hf Hf' → FreshAt K B σ (putB avs as' ρ) H' Hf' p r → Q (.ref p) H'
def fDefF (n : Nat) (f : FF) : FDF := fun as => (f (as.map Arg.slot ++ List.replicate (n - as.length) .un)).map fun q => (q.1, outA as q.2)
theorem ownA_put {σ : L2.St} {ρ : Rho} {avs : List AV} {as : List Arg} {a : Addr} (h : a ∈ ownA σ (putB avs as ρ)) : a ∈ ownA σ ρ := by
  obtain ⟨i, s, o, h1, h2, h3⟩ := mem_ownA.mp h
  rw [putB_get] at h1
  cases e : ρ[i]? with
  | none => rw [e] at h1; cases h1
  | some z =>
    rw [e] at h1
    have hz : ∃ q, z.obj? = some q := by
      cases e2 : findArg avs as i with
      | none =>
        rw [e2] at h1
        cases h1
        exact ⟨o, h2⟩
      | some q =>
        rw [e2] at h1
        cases h1
        cases z <;> first | exact ⟨_, rfl⟩ | cases h2
    obtain ⟨q, hq⟩ := hz
    exact mem_ownA.mpr ⟨i, z, q, e, hq, h3⟩
section
variable {P : Program} {w : World} {K : PySem.W.Frag} {mg : Str → Option Value} {base : Heap} {k : Nat}
theorem fn_fresh {x qual : Str} {st : Stmt} {f : Addr} {fd : FuncData} {N ps : List Str} {e : Expr} {pos : Pos} {fb : FF} (F : Fun K x qual st f fd) (S : FnScope N ps (defScope st)) (hbody : defBody st = [.Return (some e) pos])
    (hb : ∀ (X : Cx), (∃ (cdv : Value) (A : Around) (outer : List Env) (s : Shared) (H : Hp) (E : XK), X = (cxOf CX0 P w K mg base N qual (defScope st) f cdv A outer s H E).nox) → Room k X.A → X.A.guards = some [] → DF X e fb) :
    FnG P w K mg base (k + 1) f fd ps (spFF K ps.length (fDefF N.length fb)) := by
  refine fnG_of F S (fun vs H Q E h => h.1) (fun cdv A outer s H vs Q E hr hgd h => ?_)
  obtain ⟨hl, B, σ, Hf, ρ, avs, as, r, as', R, hv, ha, hn, hF, kk⟩ := h
  have hpl : ps.length ≤ N.length := by have := congrArg List.length S.pre; rw [List.length_take] at this; omega
  obtain ⟨t, p, q⟩ := (hb _ ⟨cdv, A, outer, s, H, E, rfl⟩ hr hgd).ex
  rw [hbody]
  refine ⟨_, pss_one (ps_ret p), ?_⟩
  have Rc : Rel K (bsOf H Hf vs as) (L2.start N vs) H Hf (rho0 N.length as) := R.enter hv ha hn (by rw [hl]; exact hpl)
  unfold fDefF at hF
  change (fb (rho0 N.length as)).map _ = _ at hF
  cases e1 : fb (rho0 N.length as) with
  | none => rw [e1] at hF; cases hF
  | some o =>
    obtain ⟨o, ρc⟩ := o
    rw [e1] at hF
    cases hF
    refine q (bsOf H Hf vs as) (L2.start N vs) H Hf (rho0 N.length as) o ρc _ Rc e1 fun p H' Hf' Rl s' Fr => ?_
    have Ru := R.leave (N := N) hv ha hn Rl
    refine kk p H' Hf' Ru s' ⟨Fr.nf, R.newB Fr.nb, fun z => ?_, Fr.ob⟩
    obtain ⟨u, hu⟩ := (R.ownB (ownA_put z)).2.1
    have : H p = none := Fr.nb
    rw [this] at hu
    cases hu
structure CalF (P : Program) (w : World) (K : PySem.W.Frag) (mg : Str → Option Value) (base : Heap) (x : Str) (ps : List Str) (k : Nat) (F : FDF) : Prop where
  ex : ∃ f fd, FnG P w K mg base k f fd ps (spFF K ps.length F) ∧ mg x = some (.ref f) ∧ PySem.W.keepIn K (.ref f) = true ∧ Binds K fd ps []
theorem calF_mk {x : Str} {st : Stmt} {N ps : List Str} {e : Expr} {pos : Pos} {fb : FF} (D : Dfn K mg x st ps) (S : FnScope N ps (defScope st)) (hbody : defBody st = [.Return (some e) pos])
    (hb : ∀ (X : Cx) (f : Addr), (∃ (cdv : Value) (A : Around) (outer : List Env) (s : Shared) (H : Hp) (E : XK), X = (cxOf CX0 P w K mg base N x (defScope st) f cdv A outer s H E).nox) → Room k X.A → X.A.guards = some [] → DF X e fb) :
    CalF P w K mg base x ps (k + 1) (fDefF N.length fb) := by
  obtain ⟨f, fd, F, h1, h2⟩ := D.ex
  exact ⟨f, fd, fn_fresh F S hbody fun X hX hr hgd => hb X f hX hr hgd, h1, F.kp, h2⟩
end
section
variable {X : Cx} {e : Expr} {es : List Expr}
def fCallF (F : FDF) (fa : FA) : FF := fun ρ => (fa ρ).bind fun p => (argsOf p.2 p.1).bind fun as => if (ows p.1).Nodup then (F as).map fun r => (r.1, putB p.1 r.2 p.2) else none
theorem df_cal {x : Str} {p pos : Pos} {k j : Nat} {ps : List Str} {F : FDF} {fa : FA} (C : CalF X.prog X.w X.K X.mg X.base x ps k F) (hr : Room j X.A) (hgd : X.A.guards = some []) (hj : k ≤ j) (hg : Gl X x)
    (ha : DA X (e :: es) fa) (hlen : ps.length = (e :: es).length) (hav : ∀ ρ d ρ', fa ρ = some (d, ρ') → d.length = (e :: es).length) (hdb : (x == ("__debug__" : Str)) = false := by decide) (he : starEach (e :: es) X.env = (false, eval e X.env) :: starEach es X.env := by rfl) (hpl : (backTo pos (starEach es X.env)).any (·.1) = false := by rfl) :
    DF X (.Call (.Name x p) (e :: es) [] pos) (fCallF F fa) := by
  obtain ⟨f, fd, G, h1, h2, h3⟩ := C.ex
  obtain ⟨t, pa, q⟩ := ha.ex
  refine ⟨_, pe_callG G (hr.mono hj) hgd hg h1 h2 h3 pa hdb he hpl, fun B σ H Hf ρ d ρ' Q R e k => ?_⟩
  unfold fCallF at e
  cases e1 : fa ρ with
  | none => rw [e1] at e; cases e
  | some z =>
    obtain ⟨avs, ρ1⟩ := z
    cases e2 : argsOf ρ1 avs with
    | none => simp [e1, e2] at e
    | some as =>
      simp only [e1, e2, Option.bind_some] at e
      split at e
      · rename_i hn
        cases e3 : F as with
        | none => rw [e3] at e; cases e
        | some r =>
          rw [e3] at e
          cases e
          refine q B σ H Hf ρ avs ρ1 _ R e1 fun vs H1 Hf1 R1 s1 o1 => ?_
          refine ⟨?_, B, σ, Hf1, ρ1, avs, as, r.1, r.2, R1, o1, e2, hn, by rw [e3], fun p H' Hf' R' s' Fr => k p H' Hf' R' (s1.trans s') Fr⟩
          rw [o1.length, hav ρ avs ρ1 e1, hlen]
      · cases e
theorem de_cal0 {x : Str} {p pos : Pos} {k j : Nat} {F : FD} (C : Cal X.prog X.w X.K X.mg X.base x [] k F) (hr : Room j X.A) (hgd : X.A.guards = some []) (hj : k ≤ j) (hg : Gl X x) (hdb : (x == ("__debug__" : Str)) = false := by decide) :
    DE X (.Call (.Name x p) [] [] pos) (fCall F fANil) := by
  obtain ⟨f, fd, G, h1, h2, h3⟩ := C.ex
  refine ⟨_, pe_callG0 G (hr.mono hj) hgd hg h1 h2 h3 hdb, fun B σ H Hf ρ d ρ' Q R e k => ?_⟩
  have e' : (F []).map (fun r => (r.1, putB [] r.2 ρ)) = some (d, ρ') := e
  cases e3 : F [] with
  | none => rw [e3] at e'; cases e'
  | some r =>
    rw [e3] at e'
    cases e'
    exact ⟨rfl, B, σ, Hf, ρ, [], [], r.1, r.2, R, .nil, rfl, List.nodup_nil, e3, fun v H' Hf' R' s' rv => k v H' Hf' R' s' rv⟩
end
end Y
set_option Elab.async false
set_option linter.all false
set_option maxRecDepth 100000
set_option maxHeartbeats 4000000
set_option autoImplicit false
/-! YL: the end of a law row from its def's function of data. -/
namespace Y
open PySem PySem.Spec L2 PyProof.Rows
section
variable {P : Program} {w : World} {K : PySem.W.Frag} {mg mb : Str → Option Value} {k : Nat} {fa a : Addr} {fd : FuncData} {x : Str} {sp : Sp} {s1 : Shared} {vs : List Value} {ns : List Int}
/-- from a state H in which at most the script, known as an object, is told -/
theorem law_from (KX : K.In s1.heap) (hns : s1.heap.Ns mainGlobals mg) (hb : s1.heap.Ns builtinsNs mb) (hbb : ∀ x : Str, x ≠ "__name__" → mb x = bootBuiltins x) (hlim : s1.heap.NoLimit) (hg : s1.gens = #[])
    (ha : s1.heap.get? a = some { cls := .type "list", data := .seq vs.toArray }) (hr : Room k callerA)
    (F : ∀ base : Heap, K.In base → base.Ns mainGlobals mg → ∃ fd, FnG P w K mg base k fa fd [x] sp ∧ Binds K fd [x] [])
    (H : Hp) (hO : Only H) (hok : HOk P w H s1.heap) (hA : ∀ b, H b ≠ none → b = a) (hK : H a ≠ none → K.lookup a = none) (hsp : sp [.ref a] H (fun v _ => v = .bl true) fun _ _ _ => False) :
    codeAny (model P w) callerA (.call (.ref fa) ⟨[.ref a], []⟩) (fun r s' => r = .ok (.ret (.bool true)) ∧ OldK s1.heap s'.heap ∧ s'.os = s1.os ∧ AllBare s'.gens) s1 := by
  have out : ∀ {b : Addr}, b ≠ a → H b = none := by
    intro b hba
    cases q : H b with
    | none => rfl
    | some u => exact absurd (hA b (by rw [q]; simp)) hba
  have stay : ∀ {b : Addr} {o : Obj}, s1.heap.get? b = some o → (b = a → H a = none) → (hidT s1.heap H).get? b = some o := by
    intro b o e h
    refine hidT_get e ?_
    by_cases hba : b = a
    · rw [hba]
      exact h hba
    · exact out hba
  have notDict : ∀ {o : Obj} {es : Array DictEntry} {ep : Nat}, s1.heap.get? a = some o → o.data = .dict es ep → H a = none := by
    intro o es ep e d
    rw [ha] at e
    cases e
    have d' : Data.seq vs.toArray _ = Data.dict es ep := d
    cases d'
  have names : ∀ {b : Addr} {m : Str → Option Value}, s1.heap.Ns b m → (hidT s1.heap H).Ns b m := by
    rintro b m ⟨o, es, ep, e, d, r⟩
    exact ⟨o, es, ep, stay e (fun z => by subst z; exact notDict e d), d, r⟩
  have inK : K.In (hidT s1.heap H) := by
    intro b o e
    refine stay (KX b o e) fun z => ?_
    subst z
    cases q : H b with
    | none => rfl
    | some u =>
      rw [hK (by rw [q]; simp)] at e
      cases e
  have env : Env0 P w K mg (hidT s1.heap H) callerA [] s1 H := by
    refine ⟨rfl, ⟨inK, names hns, ⟨mb, names hb, hbb⟩, ?_⟩, fun b o e => of_hidT e, Nat.le_of_eq (hidT_size _ _), trivial, fun b hm => ?_, hok, .of_eq hg⟩
    · obtain ⟨mc, h1, h2⟩ := hlim
      exact ⟨mc, names h1, h2⟩
    · have hm' : b ∈ ([] : List Addr) := hm
      simp at hm'
  obtain ⟨fd, G, hbind⟩ := F _ inK (names hns)
  have go := G.run callerA [] s1 H ⟨[.ref a], []⟩ [.ref a] [.ref a] _ _ hr rfl env (hbind s1 [.ref a] KX rfl) (.cons rfl .nil) hsp
  refine codeAny_mono go fun r s' h => ?_
  cases r with
  | error e => exact h.elim
  | ok fl =>
    cases fl
    case ret u =>
      obtain ⟨v, H', os, bare, un, hok', r', q⟩ := h
      have q' : v = .bl true := q
      subst q'
      obtain rfl : u = Value.bool true := r'
      refine ⟨rfl, OldK.of_keep fun b o e => ?_, os, bare⟩
      cases q : H b with
      | none => exact un.keep b o e q (fun z => by have z' : b ∈ ([] : List Addr) := z; simp at z') (by simp)
      | some u =>
        obtain ⟨ob, xs, z⟩ : ∃ o xs, H b = some (.frz o (.lst xs)) := by
          rcases hO b with z | z
          · rw [q] at z
            cases z
          · exact z
        obtain ⟨e1, _⟩ := hok b _ z
        obtain ⟨e2, _⟩ := hok' b _ (un.frzs b ob _ z)
        rw [e] at e1
        cases e1
        exact e2
    all_goals exact False.elim h
theorem law_end (KX : K.In s1.heap) (hns : s1.heap.Ns mainGlobals mg) (hb : s1.heap.Ns builtinsNs mb) (hbb : ∀ x : Str, x ≠ "__name__" → mb x = bootBuiltins x) (hlim : s1.heap.NoLimit) (hg : s1.gens = #[])
    (ha : s1.heap.get? a = some { cls := .type "list", data := .seq vs.toArray }) (hi : IntsAre vs ns) (hl : ns.length ≤ sizeLine) (hr : Room k callerA)
    (F : ∀ base : Heap, K.In base → base.Ns mainGlobals mg → ∃ fd, FnG P w K mg base k fa fd [x] sp ∧ Binds K fd [x] [])
    (hsp : ∀ H : Hp, Only H → SqL K H a (ns.map V.int) → sp [.ref a] H (fun v _ => v = .bl true) fun _ _ _ => False) :
    codeAny (model P w) callerA (.call (.ref fa) ⟨[.ref a], []⟩) (fun r s' => r = .ok (.ret (.bool true)) ∧ OldK s1.heap s'.heap ∧ s'.os = s1.os ∧ AllBare s'.gens) s1 := by
  have rv := vals_ints hi
  have lv := hi.length
  cases hk : K.lookup a with
  | some o =>
    have e := KX a o hk
    rw [ha] at e
    cases e
    have h0 : Only (fun _ => none) := fun _ => .inl rfl
    refine law_from KX hns hb hbb hlim hg ha hr F (fun _ => none) h0 (fun b u z => by cases (show (none : Option HO) = some u from z)) (fun b z => absurd rfl z) (fun z => absurd rfl z) (hsp _ h0 (.inr ?_))
    exact ⟨_, vs.toArray, _, hk, rfl, rfl, rfl, by rw [List.size_toArray, lv]; exact hl, by simpa using rv⟩
  | none =>
    let H : Hp := upd (fun _ => none) a (.frz { cls := .type "list", data := .seq vs.toArray } (.lst (ns.map V.int)))
    have at_a : H a = some (.frz { cls := .type "list", data := .seq vs.toArray } (.lst (ns.map V.int))) := upd_same
    have off : ∀ {b : Addr}, b ≠ a → H b = none := fun h => upd_ne h
    have hO : Only H := by
      intro b
      by_cases h : b = a
      · subst h
        exact .inr ⟨_, _, at_a⟩
      · exact .inl (off h)
    refine law_from KX hns hb hbb hlim hg ha hr F H hO (fun b u z => ?_) (fun b z => ?_) (fun _ => hk) (hsp H hO (.inl (.inr ⟨_, at_a⟩)))
    · by_cases h : b = a
      · subst h
        rw [at_a] at z
        cases z
        exact ⟨ha, by rw [List.length_map]; exact hl, vs, _, rv, ha⟩
      · rw [off h] at z
        cases z
    · by_cases h : b = a
      · exact h
      · exact absurd (off h) z
end
/-- the goal that the head leaves, from the law's function of data -/
theorem walk_data {l : PySem.W.OpenLaw} {n k : Nat} {q : Program} {loose : List Str} {XP : (Str → Option Value) → Heap → Prop} {YP : World → Heap → Prop} {d : DefRec} {K : Params → PySem.W.Frag} {x : Str}
    (hn : l.most = some n) (hn2 : n ≤ sizeLine) (hdf : d.params.defaults = []) (hr : Room k callerA) (hY : ∀ (w : World) (h : Heap), YP w h → (K w.params).In h)
    (F : ∀ (w : World) (mg : Str → Option Value) (fa : Addr) (h : Heap), (K w.params).In h → h.Ns mainGlobals mg → mg d.name = some (.ref fa) →
      ∃ G : FD, (∀ ns : List Int, ns.length ≤ n → ∃ as', G [.scr ns] = some (.bool true, as')) ∧ ∀ base : Heap, (K w.params).In base → base.Ns mainGlobals mg → Cal l.prog w (K w.params) mg base d.name [x] k G) :
    PySem.W.WalkO q loose XP YP l.row.toRowW d [] (fun f vs => PySem.call f vs) := by
  refine Att.attach_call hn hdf fun w s₀ s₁ mg mb fa o pm cd doc a vs ns G Y ho hd hcd hmg hobj hints hlen hg => ?_
  have KX := hY w _ Y
  obtain ⟨Gf, hG, hF⟩ := F w mg fa _ KX G.T.g hmg
  refine law_end (x := x) (sp := spF (K w.params) 1 Gf) KX G.T.g G.T.b G.T.builtins G.T.nolimit hg hobj hints (Nat.le_trans hlen hn2) hr (fun base h1 h2 => ?_) fun H hO hS => ?_
  · obtain ⟨f, fd, c1, c2, c3, c4⟩ := (hF base h1 h2).ex
    rw [hmg] at c2
    cases c2
    exact ⟨fd, c1, c4⟩
  obtain ⟨as', e⟩ := hG ns hlen
  -- the caller: one slot, the script
  have R : Rel (K w.params) ⟨H, H, [], [], false⟩ [some (.ref a)] H H [.scr ns] := by
    refine ⟨Same.refl _, Same.refl _, fun b o e _ => e, fun b o e z => z, fun b hb => by simp at hb, rfl, ?_, ?_, ?_, ?_, ?_, ?_, fun q hq => by simp at hq⟩
    · intro i d e
      match i with
      | 0 => simp at e
      | i + 1 => simp at e
    · intro i ns' e
      match i with
      | 0 =>
        simp at e
        subst e
        exact ⟨a, rfl, hS⟩
      | i + 1 => simp at e
    · intro i s o e e'
      match i with
      | 0 =>
        simp at e
        subst e
        cases e'
      | i + 1 => simp at e
    · intro i j s s' o o' b e e' g
      match i with
      | 0 =>
        simp at e
        subst e
        cases e'
      | i + 1 => simp at e
    · intro i o e
      match i with
      | 0 => simp at e
      | i + 1 => simp at e
    · intro z
      cases z
  refine ⟨rfl, ⟨H, H, [], [], false⟩, [some (.ref a)], H, [.scr ns], [.ow 0], [.scr ns], .bool true, as', R, .cons rfl .nil, rfl, by decide, e, fun v H' Hf' _ _ r => ?_⟩
  cases r
  rfl
end Y
set_option Elab.async false
set_option linter.all false
set_option maxRecDepth 100000
set_option maxHeartbeats 4000000
/-! E1: own exception classes over any built-in error, made by values and by names. -/
namespace E98
open PySem
/-- the built-in part of a class's bases serves a maker of exceptions -/
structure TailOk (B : String) (bm : List Value) : Prop where
  own : bm.contains (.type B) = true
  noA : bm.contains (.type "AttributeError") = false
  noN : bm.contains (.type "NameError") = false
section
variable {prog : Program} {w : World} {A : Around} {E : Value → Shared → Prop} {R : Result → Shared → Prop} {h : Heap} {g : Array GenState} {d : Drawn} {t : Nat} {os : OsState}
variable {nm q : Str} {C N fI : Addr} {bs bm bmB : List Value} {hdct ab : Bool} {sn : List Str} {sub : List Value} {col : Option Bool} {dd : Option Addr} {k0 k1 k2 k3 k5 : Option Value} {B newId initId : String}
variable {rest : List Value} {kw : List (Str × Value)}
theorem newChecked {M : Model} {Q : Unit → Shared → Prop} (F : ExcBaseFacts B newId initId bmB) (T : TailOk B bm)
    (hC : h.get? C = some (excClassObj nm q C N bs bm hdct sn sub ab col dd k0 k1 k2 k3 k5 newId))
    (hq : Q () ⟨h, g, d, t, os⟩) : wpAny M A (checkBuiltinCall newId ⟨.ref C :: rest, kw⟩) Q E ⟨h, g, d, t, os⟩ := by
  have inB : (Value.ref C :: bm).contains (.type B) = true := by
    rw [List.contains_cons, T.own, Bool.or_true]
  have star := F.noStar
  simp only [checkBuiltinCall, F.newKind, F.newSplit, F.newRow]
  repeat (first
    | refine wpAny_loadPart_at hC ?_
    | (refine wpAny_isSubtype_exc hC ?_
       rw [inB])
    | refine wpAny_staticBase_exc hC ?_
    | refine wpAny_madeBy_exc hC ?_
    | simp only [bne_self_eq_false, Bool.false_eq_true, if_false]
    | wp_step)
  exact hq
theorem newMade (F : ExcBaseFacts B newId initId bmB) (T : TailOk B bm)
    (hC : h.get? C = some (excClassObj nm q C N bs bm hdct sn sub ab col dd k0 k1 k2 k3 k5 newId)) (short : rest.length ≤ sizeLine)
    (hq : R (.ok (.ret (.ref (h.objs.size + 1)))) ⟨(h.push (W.kdv_tup rest)).push (HandSPX.excO C h.objs.size), g, d, t, os⟩) :
    codeAny (model prog w) A (.builtin newId ⟨.ref C :: rest, kw⟩) R ⟨h, g, d, t, os⟩ := by
  have ends' := F.ends
  have inB : (Value.ref C :: bm).contains (.type B) = true := by
    rw [List.contains_cons, T.own, Bool.or_true]
  have inA : (Value.ref C :: bm).contains (.type "AttributeError") = false := by
    rw [List.contains_cons, T.noA]
    rfl
  have inN : (Value.ref C :: bm).contains (.type "NameError") = false := by
    rw [List.contains_cons, T.noN]
    rfl
  refine codeAny_builtinAt F.entry ?_
  unfold Builtin.«BaseException.__new__»
  refine wpAt_bind ?_
  show wpAt _ _ _ (stack >>= _) _ _ _
  refine wpAt_bind (wpAt_stack fun p below => wpAt_of_wpAny ?_)
  wp_walk
  refine wpAt_of_wpAny ?_
  rw [F.owner]
  repeat (first
    | with_reducible refine wpAny_madeHere_exc F.canon hC ?_
    | with_reducible refine wpAny_loadPart_at hC ?_
    | (with_reducible refine wpAny_isSubtype_exc hC ?_
       first | rw [inB] | rw [inA] | rw [inN])
    | wp_step)
  show R _ _
  rw [Heap.size_push]
  exact hq
theorem typeCalled {Q : Fin → Shared → Prop} (F : ExcBaseFacts B newId initId bmB) (T : TailOk B bm)
    (hC : h.get? C = some (excClassObj nm q C N bs bm hdct sn sub ab col dd k0 k1 k2 k3 k5 newId))
    (hi : W.Looks (model prog w) h (typeLookup (.ref C) "__init__") (some (.ref fI)))
    (hb : ∀ self, W.Looks (model prog w) h (bindSpecial (.ref fI) self) (.ref fI, [self])) (short : rest.length ≤ sizeLine)
    (hq : codeAny (model prog w) A (.call (.ref fI) ⟨.ref (h.objs.size + 1) :: rest, kw⟩)
      (fun r s' => match r with
        | .ok (.ret v) => v = .none ∧ Q (.done (.ret (.ref (h.objs.size + 1)))) s'
        | .ok _ => False
        | .error e => E e s')
      ⟨(h.push (W.kdv_tup rest)).push (HandSPX.excO C h.objs.size), g, d, t, os⟩) :
    wpAny (model prog w) A (Builtin.«type.__call__» ⟨.ref C :: rest, kw⟩) Q E ⟨h, g, d, t, os⟩ := by
  repeat (first | with_reducible refine wpAny_loadPart_at hC ?_ | with_reducible refine wpAny_madeBy_exc hC ?_ | wp_step)
  refine codeAny_call_builtin_code (Code.quiet_builtin _ F.quiet) (newChecked F T hC ?_)
  refine newMade F T hC short ?_
  show wpAny _ _ _ _ _ _
  have k : ∀ b o, h.get? b = some o → ((h.push (W.kdv_tup rest)).push (HandSPX.excO C h.objs.size)).get? b = some o :=
    fun b o e => Heap.get?_push_of_some _ (Heap.get?_push_of_some _ e)
  have hC1 := k _ _ hC
  have new1 : ((h.push (W.kdv_tup rest)).push (HandSPX.excO C h.objs.size)).get? (h.objs.size + 1) = some (HandSPX.excO C h.objs.size) := by
    heap_get
  have inC : (Value.ref C :: bm).contains (.ref C) = true := by simp
  have i1 := hi.keeps k
  have b1 := (hb (.ref (h.objs.size + 1))).keeps k
  unfold isInstance
  repeat (first
    | with_reducible refine wpAny_loadPart_at new1 ?_
    | (with_reducible refine wpAny_isSubtype_exc hC1 ?_
       rw [inC])
    | wp_step)
  show wpAny _ _ (typeLookup (.ref C) _) _ _ _
  refine i1.at ?_
  refine wpAny_holding (wpAny_bind (b1.at ?_))
  refine wpAny_bind (wpAny_call (codeAny_mono hq fun r s' z => ?_))
  rcases r with e | (v | _ | _ | _) <;> first | exact z | exact z.elim | skip
  obtain ⟨rfl, z⟩ := z
  first
    | exact wpAny_pure (wpAny_pure z)
    | (wp_walk; exact z)
theorem typeChecked {M : Model} {Q : Unit → Shared → Prop}
    (hC : h.get? C = some (excClassObj nm q C N bs bm hdct sn sub ab col dd k0 k1 k2 k3 k5 newId))
    (hq : Q () ⟨h, g, d, t, os⟩) : wpAny M A (checkBuiltinCall "type.__call__" ⟨.ref C :: rest, kw⟩) Q E ⟨h, g, d, t, os⟩ := by
  have f3 := tc_sub
  have hT : (⟨h, g, d, t, os⟩ : Shared).TypeIs (.ref C) "type" := ⟨_, hC, rfl⟩
  simp only [checkBuiltinCall, tc_kind, tc_split]
  repeat (any_goals (first | assumption | with_reducible refine wpAny_loadPart_at hC ?_ | with_reducible refine wpAny_onRaise ?_ | with_reducible refine wpAny_map ?_ | wp_step))
/-- C(.., k = v): the new exception and its arguments' tuple are laid, then __init__ at fI -/
theorem made (F : ExcBaseFacts B newId initId bmB) (T : TailOk B bm)
    (hC : h.get? C = some (excClassObj nm q C N bs bm hdct sn sub ab col dd k0 k1 k2 k3 k5 newId))
    (hi : W.Looks (model prog w) h (typeLookup (.ref C) "__init__") (some (.ref fI)))
    (hb : ∀ self, W.Looks (model prog w) h (bindSpecial (.ref fI) self) (.ref fI, [self])) (short : rest.length ≤ sizeLine)
    (hq : codeAny (model prog w) (A.under (.builtin "type.__call__" ⟨.ref C :: rest, kw⟩)) (.call (.ref fI) ⟨.ref (h.objs.size + 1) :: rest, kw⟩) (W.InitBack (h.objs.size + 1) R)
      ⟨(h.push (W.kdv_tup rest)).push (HandSPX.excO C h.objs.size), g, d, t, os⟩) :
    codeAny (model prog w) A (.call (.ref C) ⟨rest, kw⟩) R ⟨h, g, d, t, os⟩ := by
  have f1 := tc_lookup
  have f2 := tc_bind (.ref C)
  have hTy : (⟨h, g, d, t, os⟩ : Shared).TypeIs (.ref C) "type" := ⟨_, hC, rfl⟩
  refine codeAny_of_tree ?_
  show wpAny _ _ (callAny (.ref C) _) _ _ _
  repeat (any_goals (first | assumption | with_reducible refine wpAny_loadPart_at hC ?_ | wp_step))
  refine ⟨rfl, ?_⟩
  refine codeAny_call_builtin_at (Code.quiet_builtin _ (by decide +kernel)) entry_typeCall (typeChecked hC (typeCalled F T hC hi hb short ?_))
  refine codeAny_mono hq fun r s' z => ?_
  rcases r with e | (v | _ | _ | _) <;> exact z
end
end E98
set_option Elab.async false
set_option linter.all false
set_option maxRecDepth 100000
set_option maxHeartbeats 4000000
/-! E2: fields of such exceptions stored. -/
namespace E98
open PySem PySem.W PySem.Calls PyProof.Rows PySem.HandSPX
/-- what storing asks of a class's line of bases -/
structure LineOk (l : List Value) : Prop where
  some : l.isEmpty = false
  obj : l.contains (.type "object") = true
  pass : ∀ self : Value, refuseLoop self "__setattr__" l = pure ()
section
open PySem.Builtin PySem.Builtin.ObjectAttr
variable {prog : Program} {w : World} {A : Around} {E : Value → Shared → Prop} {R : Result → Shared → Prop} {hp : Heap} {g : Array GenState} {d : Drawn} {t : Nat} {os : OsState}
variable {K : W.Frag} {name : Str} {tk : Tok} {v : Value} {x C dx : Addr} {fv : Array Value} {cd : ClassData}
/-- the first field: the dict is laid -/
theorem store1 (X : K.In hp) (hx : hp.get? x = some { cls := .ref C, data := .fields fv }) (hcd : W.clsIn K C = some cd)
    (L : LineOk cd.mro) (hh : cd.hasDict = true) (ha : W.findIn K (.ref C) name = some none)
    (hq : ∀ h' tk' dx, (∀ b o, b ≠ x → hp.get? b = some o → h'.get? b = some o) → hp.objs.size ≤ dx → dx ≠ x →
      h'.get? x = some { cls := .ref C, dict := some dx, data := .fields fv } →
      h'.Ns1 dx (fun y => if y = name then some v else none) → R (.ok (.ret .none)) ⟨h', g, d, tk', os⟩) :
    codeAny (model prog w) A (.call (.builtin "object.__setattr__") ⟨[.ref x, .str name tk, v], []⟩) R ⟨hp, g, d, t, os⟩ := by
  have I : W.InstAt hp x { cls := .ref C, data := .fields fv } C none := ⟨hx, rfl, rfl, trivial⟩
  have SF := F.store_object
  have xs : x ≠ hp.objs.size := Nat.ne_of_lt (Heap.lt_size hx)
  have sub : W.Looks (model prog w) hp (isInstance (.ref x) (.type "object")) true := by
    refine I.type.andThen (W.looks_mroIn X ?_)
    unfold W.mroIn
    rw [hcd, Option.bind_some, if_neg (by rw [L.some]; decide), L.obj]
  refine codeAny_call_builtin SF.slot.plain SF.entry (@W.check_slot (model prog w) _ _ ⟨hp, g, d, t, os⟩
    "object.__setattr__" "object" "__setattr__" (.ref x) [.str name tk, v] [] _ SF.kind SF.split sub
    (SF.args (.ref x) (.str name tk) v) ?_)
  have hmr : W.Looks (model prog w) hp (mroOf (.ref C)) cd.mro := (W.looks_clsIn X hcd).andThen .now
  have taker : W.Looks (model prog w) hp (storeTaker? none) none := .now
  have hcls : W.Looks (model prog w) hp (classData C) cd := W.looks_clsIn X hcd
  rw [W.osa_eq, refuse_eq]
  refine wpAny_bind (wpAny_bind (I.type.at (wpAny_bind (hmr.at ?_))))
  rw [L.pass]
  refine wpAny_pure (wpAny_bind (I.type.at (wpAny_bind ?_)))
  refine (W.looks_findIn X ha).at (wpAny_bind (taker.at ?_))
  show wpAny _ _ (storeInOwnDict (.ref x) (.ref C) (.str name tk) name v false) _ _ _
  obtain ⟨nm, bs, mro, ns, qn, hd, sn, sb, ab, col, del⟩ := cd
  dsimp only at hh
  subst hh
  unfold storeInOwnDict ownDictForStores
  repeat (first
    | with_reducible refine store_in_new ?_ ?_
    | with_reducible refine wpAny_loadPart_at hx ?_
    | with_reducible refine hcls.at ?_
    | wp_step)
  · refine ⟨_, #[], _, (Heap.get?_update_ne _ _ _ _ xs.symm).trans (Heap.get?_push_at rfl rfl), rfl, ?_, fun _ => rfl⟩
    intro e he
    exact absurd he (by simp)
  · intro h' tk' hn' hs
    have hx1 : (hp.push { cls := .type "dict", data := .dict #[] }).get? x = some { cls := .ref C, data := .fields fv } :=
      Heap.get?_push_of_some _ hx
    refine hq h' tk' hp.objs.size ?_ (Nat.le_refl _) xs.symm ?_ hn'
    · intro b o hb ho
      refine (hs.2 b (Nat.ne_of_lt (Heap.lt_size ho))).trans ?_
      exact (Heap.get?_update_ne _ _ _ _ hb).trans (Heap.get?_push_of_some _ ho)
    · exact (hs.2 x xs).trans (Heap.get?_update_self _ hx1 rfl)
/-- a further field -/
theorem store2 {m0 : Str → Option Value} {nl : List Str} (X : K.In hp)
    (hx : hp.get? x = some { cls := .ref C, dict := some dx, data := .fields fv }) (hns : hp.Ns1 dx m0) (hw : Within m0 nl)
    (hz : nl.length ≤ 1000) (hcd : W.clsIn K C = some cd) (L : LineOk cd.mro) (hh : cd.hasDict = true)
    (ha : W.findIn K (.ref C) name = some none)
    (hq : ∀ h' tk', (∀ b o, b ≠ dx → hp.get? b = some o → h'.get? b = some o) →
      h'.Ns1 dx (fun y => if y = name then some v else m0 y) → R (.ok (.ret .none)) ⟨h', g, d, tk', os⟩) :
    codeAny (model prog w) A (.call (.builtin "object.__setattr__") ⟨[.ref x, .str name tk, v], []⟩) R ⟨hp, g, d, t, os⟩ := by
  obtain ⟨oD, esD, epD, hoD, hdD, _⟩ := hns.count hw
  have I : W.InstAt hp x { cls := .ref C, dict := some dx, data := .fields fv } C (some oD) := ⟨hx, rfl, rfl, hoD⟩
  have SF := F.store_object
  have sub : W.Looks (model prog w) hp (isInstance (.ref x) (.type "object")) true := by
    refine I.type.andThen (W.looks_mroIn X ?_)
    unfold W.mroIn
    rw [hcd, Option.bind_some, if_neg (by rw [L.some]; decide), L.obj]
  refine codeAny_call_builtin SF.slot.plain SF.entry (@W.check_slot (model prog w) _ _ ⟨hp, g, d, t, os⟩
    "object.__setattr__" "object" "__setattr__" (.ref x) [.str name tk, v] [] _ SF.kind SF.split sub
    (SF.args (.ref x) (.str name tk) v) ?_)
  have hmr : W.Looks (model prog w) hp (mroOf (.ref C)) cd.mro := (W.looks_clsIn X hcd).andThen .now
  have taker : W.Looks (model prog w) hp (storeTaker? none) none := .now
  have hcls : W.Looks (model prog w) hp (classData C) cd := W.looks_clsIn X hcd
  rw [W.osa_eq, refuse_eq]
  refine wpAny_bind (wpAny_bind (I.type.at (wpAny_bind (hmr.at ?_))))
  rw [L.pass]
  refine wpAny_pure (wpAny_bind (I.type.at (wpAny_bind ?_)))
  refine (W.looks_findIn X ha).at (wpAny_bind (taker.at ?_))
  show wpAny _ _ (storeInOwnDict (.ref x) (.ref C) (.str name tk) name v false) _ _ _
  obtain ⟨nm, bs, mro, ns, qn, hd, sn, sb, ab, col, del⟩ := cd
  dsimp only at hh
  subst hh
  unfold storeInOwnDict ownDictForStores
  repeat (first
    | with_reducible refine PySem.OEX.store_in_old hns hw hz ?_
    | with_reducible refine wpAny_loadPart_at hx ?_
    | with_reducible refine hcls.at ?_
    | wp_step)
  intro h' tk' hn' hs
  exact hq h' tk' (fun b o hb ho => (hs.2 b hb).trans ho) hn'
end
end E98
set_option Elab.async false
set_option linter.all false
set_option maxRecDepth 100000
set_option maxHeartbeats 4000000
set_option autoImplicit false
/-! E3: such exceptions over the hand layer: stored to, made. -/
namespace E98
open PySem PySem.Spec L2
/-- what the written part says of an own exception class -/
structure ExK (K : PySem.W.Frag) (C : Addr) : Prop where
  cls : ∃ nm q N bs bm sn sub ab col dd k0 k1 k2 k3 k5 B newId initId bmB,
    K.lookup C = some (excClassObj nm q C N bs bm true sn sub ab col dd k0 k1 k2 k3 k5 newId) ∧
    ExcBaseFacts B newId initId bmB ∧ TailOk B bm ∧ LineOk (.ref C :: bm)
  sa : PySem.W.findIn K (.ref C) "__setattr__" = some (some (.builtin "object.__setattr__"))
  kC : PySem.W.keepIn K (.ref C) = true
section
variable {X : Cx} {pins : List (Addr × Obj)} {σ : L2.St} {H : Hp} {s : Shared} {a C : Addr} {f : Str} {y : V} {u : Value} {fs : List (Str × V)} {Q : Unit → Shared → Prop} {E : Value → Shared → Prop} {A : Around}
theorem st1 (T : ExK X.K C) (I : Inv X pins σ H s) (e : H a = some (exo a C none)) (hno : PySem.W.findIn X.K (.ref C) f = some none) (ry : RelV y u)
    (h : ∀ dx s', H dx = none → dx ≠ a → Inv X pins σ (upd (upd H dx (exd dx [(f, y)])) a (exo a C (some dx))) s' → Q () s') :
    wpAny (model X.prog X.w) A (setAttr (.ref a) f u) Q E s := by
  obtain ⟨nm, q, N, bs, bm, sn, sub, ab, col, dd, k0, k1, k2, k3, k5, _, _, _, _, hC, _, _, L⟩ := T.cls
  obtain ⟨cd, hcl, hmro, hdic⟩ : ∃ cd, PySem.W.clsIn X.K C = some cd ∧ cd.mro = .ref C :: bm ∧ cd.hasDict = true := by
    unfold PySem.W.clsIn
    rw [hC]
    exact ⟨_, rfl, rfl, rfl⟩
  rw [← hmro] at L
  obtain ⟨t1, ho⟩ := exo_at I.hok e
  obtain ⟨hp, g, d, t, os⟩ := s
  refine PySem.W.set_plain I.kIn (od := none)
    (ox := { cls := .ref C, dict := none, data := .fields #[.ref t1, .none, .none, .none, .bool false, .none] })
    ⟨ho, rfl, rfl, trivial⟩ T.sa ?_
  refine store1 I.kIn ho hcl L hdic hno fun h' tk' dx k dn dne hx hn => ?_
  have fresh : H dx = none := I.hok.fresh dn
  have notd : ∀ {b : Addr} {o : Obj}, hp.get? b = some o → b ≠ dx :=
    fun {b o} z => Nat.ne_of_lt (Nat.lt_of_lt_of_le (Heap.lt_size z) dn)
  have nota : ∀ {b : Addr}, H b = none → b ≠ a := fun {b} n z => by
    rw [z, e] at n
    cases n
  have U : Un X.fs [] H (upd (upd H dx (exd dx [(f, y)])) a (exo a C (some dx))) hp h' := by
    constructor
    · exact fun b o z n _ _ => k b o (nota n) z
    · exact fun b o z n _ _ => ⟨o.slots, k b o (nota n) z⟩
    · intro b o z n _
      rw [upd_ne (nota n), upd_ne (notd z)]
      exact n
    · intro b o z _
      by_cases hb : b = a
      · exact ⟨_, by rw [hb]; exact hx⟩
      · exact ⟨o, k b o hb z⟩
    · intro b xs z
      rw [upd_ne (at_ne e z exo_tup), upd_ne (ne_of_none z fresh)]
      exact z
    · intro b o v z
      rw [upd_ne (at_ne e z exo_frz), upd_ne (ne_of_none z fresh)]
      exact z
    · intro b ps z
      refine ⟨#[], ?_⟩
      rw [upd_ne (at_ne e z exo_tbl), upd_ne (ne_of_none z fresh), z]
      simp
  refine h dx _ fresh dne (I.un (t' := tk') U fun b o z => ?_)
  by_cases hb : b = a
  · subst hb
    rw [upd_same] at z
    cases z
    exact exo_ok hx
  · rw [upd_ne hb] at z
    by_cases hd : b = dx
    · subst hd
      rw [upd_same] at z
      cases z
      exact exd_ok hn (relO_put (fs := []) ry fun g => True.intro)
    · rw [upd_ne hd] at z
      refine (I.hok b o z).stay (fun c v hc w => k c v ?_ w) (fun c hc => ?_) fun c xs hc => ?_
      · rcases hc with hc | hc
        · rw [hc]
          exact hb
        · exact at_ne e hc exo_own
      · rw [upd_ne (at_ne e hc exo_own), upd_ne (ne_of_none hc fresh)]
        exact hc
      · rw [upd_ne (at_ne e hc exo_tup), upd_ne (ne_of_none hc fresh)]
        exact hc
theorem st2 {dx : Addr} (T : ExK X.K C) (I : Inv X pins σ H s) (e : H a = some (exo a C (some dx))) (ed : H dx = some (exd dx fs)) (hl : fs.length ≤ 900)
    (hno : PySem.W.findIn X.K (.ref C) f = some none) (ry : RelV y u) (h : ∀ s', Inv X pins σ (upd H dx (exd dx ((f, y) :: fs))) s' → Q () s') :
    wpAny (model X.prog X.w) A (setAttr (.ref a) f u) Q E s := by
  obtain ⟨nm, q, N, bs, bm, sn, sub, ab, col, dd, k0, k1, k2, k3, k5, _, _, _, _, hC, _, _, L⟩ := T.cls
  obtain ⟨cd, hcl, hmro, hdic⟩ : ∃ cd, PySem.W.clsIn X.K C = some cd ∧ cd.mro = .ref C :: bm ∧ cd.hasDict = true := by
    unfold PySem.W.clsIn
    rw [hC]
    exact ⟨_, rfl, rfl, rfl⟩
  rw [← hmro] at L
  obtain ⟨t1, ho⟩ := exo_at I.hok e
  obtain ⟨mA, hns, rel⟩ := exd_at I.hok ed
  have hw := within_of rel
  obtain ⟨hp, g, d, t, os⟩ := s
  obtain ⟨oD, _, _, hoD, _, _⟩ := hns.count hw
  refine PySem.W.set_plain I.kIn (od := some oD)
    (ox := { cls := .ref C, dict := some dx, data := .fields #[.ref t1, .none, .none, .none, .bool false, .none] })
    ⟨ho, rfl, rfl, hoD⟩ T.sa ?_
  refine store2 I.kIn ho hns hw (by rw [List.length_map]; omega) hcl L hdic hno fun h' tk' k hn => ?_
  have there : ∃ o, h'.get? dx = some o := by
    obtain ⟨o, _, _, e', _⟩ := hn
    exact ⟨o, e'⟩
  refine h _ (I.write (t' := tk') (x := dx) (e := dx) (o := exd dx ((f, y) :: fs)) ?_ (.inl rfl) k there (exd_ok hn (relO_put ry rel)))
  rw [ed]
  exact True.intro
end
/-- self.f = e -/
def tSt (K : PySem.W.Frag) (f : Str) (to te : TE) : TS := fun D σ H => te σ H fun y H1 => to σ H1 fun x H2 => ∃ a C : Addr, x = .ref a ∧ ExK K C ∧ PySem.W.findIn K (.ref C) f = some none ∧
  ((H2 a = some (exo a C none) ∧ ∀ dx, H2 dx = none → dx ≠ a → D.nx σ (upd (upd H2 dx (exd dx [(f, y)])) a (exo a C (some dx)))) ∨
   (∃ (dx : Addr) (fs : List (Str × V)), H2 a = some (exo a C (some dx)) ∧ H2 dx = some (exd dx fs) ∧ fs.length ≤ 900 ∧ D.nx σ (upd H2 dx (exd dx ((f, y) :: fs)))))
section
variable {X : Cx} {o e : Expr} {es : List Expr} {to te : TE} {ta tk : TA} {f : Str} {p p' pos : Pos} {kws : List Keyword}
theorem ps_st (ho : PE X o to) (he : PE X e te) (hs : swapsWith e (some (.Attribute o f p')) pos.line X.env = pure false := by rfl) :
    PS X (.Assign [.Attribute o f p'] e pos) (tSt X.K f to te) := by
  refine ⟨fun pins s σ H D I h => ?_⟩
  refine plainObj_wpAny_Assign_Attribute (thn (he.run pins s σ H _ I h) fun v s1 hv => ?_) hs
  obtain ⟨y, H1, I1, r1, q1⟩ := hv
  refine thn (ho.run pins s1 σ H1 _ I1 q1) fun u s2 hu => ?_
  obtain ⟨x, H2, I2, r2, a, C, ex, T, hno, q⟩ := hu
  subst ex
  obtain rfl : u = Value.ref a := r2
  rcases q with ⟨ea, q⟩ | ⟨dx, fs, ea, ed, hl, q⟩
  · exact st1 T I2 ea hno r1 fun dx s' n ne J => ⟨σ, _, J, q dx n ne⟩
  · exact st2 T I2 ea ed hl hno r1 fun s' J => ⟨σ, _, J, q⟩
/-! ### C(..) -/
def tMkX (C : Addr) (n m : Nat) (sp : Sp) (gV : List V → List V → List V) (t tk : TA) : TE := fun σ H Q => t σ H fun vs H1 => tk σ H1 fun zs H2 => vs.length = n ∧ zs.length = m ∧
  ∀ a, H2 a = none → sp (gV (.ref a :: vs) zs) (upd H2 a (exo a C none)) (fun v H3 => v = .non ∧ Q (.ref a) H3) (fun _ _ _ => False)
variable {C fI : Addr} {k n : Nat} {fd : FuncData} {ps ks : List Str} {sp : Sp} {x : Str} {g : List Value → List Value → List Value} {gV : List V → List V → List V} {CX : CXT}
theorem runX {pins : List (Addr × Obj)} {σ : L2.St} {H : Hp} {s : Shared} {Q : VK} {us ws : List Value} {vs zs : List V} (T : ExK X.K C) (iC : PySem.W.findIn X.K (.ref C) "__init__" = some (some (.ref fI)))
    (tI : PySem.W.typeIn X.K (.ref fI) = some (.type "function")) (F : FnOk X.prog X.w X.K X.mg X.base CX k fI fd ps sp) (hr : Room (k + 1) X.A) (hb : KBn X.K fd ps (n + 1) ks g gV)
    (hx : Passes CX X (fun _ _ _ => False)) (hn : n ≤ 1000) (I : Inv X pins σ H s) (r : Vals vs us) (rz : Vals zs ws) (l1 : vs.length = n) (l2 : zs.length = ks.length)
    (h : ∀ a, H a = none → sp (gV (.ref a :: vs) zs) (upd H a (exo a C none)) (fun v H2 => v = .non ∧ Q (.ref a) H2) (fun _ _ _ => False)) :
    wpAny (model X.prog X.w) X.A (call (.ref C) us (ks.zip ws)) (EP X pins σ Q) X.xe s := by
  obtain ⟨nm, q, N, bs, bm, sn, sub, ab, col, dd, k0, k1, k2, k3, k5, B, newId, initId, bmB, hC, F0, T0, L⟩ := T.cls
  obtain ⟨hp, g0, dr, tk, os⟩ := s
  have hsz : hp.objs.size ≤ hp.objs.size + 1 := Nat.le_succ _
  have new : H (hp.objs.size + 1) = none := I.hok.fresh hsz
  have hq := h _ new
  have kk : ∀ b o, hp.get? b = some o → ((hp.push (PySem.W.kdv_tup us)).push (PySem.HandSPX.excO C hp.objs.size)).get? b = some o :=
    fun b o e => Heap.get?_push_of_some _ (Heap.get?_push_of_some _ e)
  have hget : ((hp.push (PySem.W.kdv_tup us)).push (PySem.HandSPX.excO C hp.objs.size)).get? (hp.objs.size + 1) = some (PySem.HandSPX.excO C hp.objs.size) := by
    heap_get
  have I2 : Inv X pins σ (upd H (hp.objs.size + 1) (exo (hp.objs.size + 1) C none)) ⟨(hp.push (PySem.W.kdv_tup us)).push (PySem.HandSPX.excO C hp.objs.size), g0, dr, tk, os⟩ :=
    I.laid (t' := tk) kk hsz (exo_ok hget)
  have r1 : Vals (V.ref (hp.objs.size + 1) :: vs) (Value.ref (hp.objs.size + 1) :: us) := .cons rfl r
  have r2 := hb.rel r1 rz
  have n1 : (Value.ref (hp.objs.size + 1) :: us).length = n + 1 := r1.length.symm.trans (congrArg Nat.succ l1)
  have n2 : ws.length = ks.length := rz.length.symm.trans l2
  have short : us.length ≤ sizeLine := by
    have := r.length
    rw [sizeLine_eq]
    omega
  refine wpAny_call (made F0 T0 (I.kIn _ _ hC) (PySem.W.looks_findIn I.kIn iC) (fun self => PySem.W.bind_fn I.kIn self tI) short ?_)
  refine codeAny_mono (F.run _ X.stack _ _ ⟨Value.ref (hp.objs.size + 1) :: us, ks.zip ws⟩ (g (Value.ref (hp.objs.size + 1) :: us) ws) _ _ (fun _ _ _ => False)
    (hr.make C us (ks.zip ws)) (I2.env0.make C us (ks.zip ws)) (hb.to _ (Value.ref (hp.objs.size + 1) :: us) ws I2.kIn n1 n2) r2 hq) fun rr s' z => ?_
  cases rr with
  | error er => exact hx pins σ _ _ er s' I2 z
  | ok fl =>
    cases fl
    case ret u =>
      obtain ⟨v', H', I3, rv, ev, q3⟩ := I2.after z
      subst ev
      exact ⟨rv, V.ref (hp.objs.size + 1), H', I3, rfl, q3⟩
    all_goals exact False.elim z
end
end E98
set_option Elab.async false
set_option linter.all false
set_option maxRecDepth 100000
set_option maxHeartbeats 4000000
set_option autoImplicit false
/-! E4: exceptions as data: made. -/
namespace E98
open PySem PySem.Spec L2 Y
section
variable {X : Cx} {e : Expr} {es : List Expr} {ta tk : TA} {f : Str} {p pos : Pos} {kws : List Keyword} {C fI : Addr} {k n : Nat} {fd : FuncData} {ps ks : List Str} {sp : Sp} {x : Str} {g : List Value → List Value → List Value} {gV : List V → List V → List V} {CX : CXT}
theorem pe_mkx (T : ExK X.K C) (iC : PySem.W.findIn X.K (.ref C) "__init__" = some (some (.ref fI))) (tI : PySem.W.typeIn X.K (.ref fI) = some (.type "function"))
    (F : FnOk X.prog X.w X.K X.mg X.base CX k fI fd ps sp) (hr : Room (k + 1) X.A) (hb : KBn X.K fd ps (n + 1) [] g gV) (hx : Passes CX X (fun _ _ _ => False)) (hn : n ≤ 1000) (hg : Gl X x) (hm : X.mg x = some (.ref C))
    (ha : PA X (e :: es) ta) (hdb : (x == ("__debug__" : Str)) = false) (he : starEach (e :: es) X.env = (false, eval e X.env) :: starEach es X.env) (hpl : (backTo pos (starEach es X.env)).any (·.1) = false) :
    PE X (.Call (.Name x p) (e :: es) [] pos) (tMkX C n 0 sp gV ta tNil) := by
  refine ⟨fun pins s σ H Q I h => ?_⟩
  refine wpAny_Call_Name_kw (ld_glob I hg hm ?_ hdb)
  refine PySem.W.callWith_K (h₀ := X.base) I.ok.mod.kin T.kC (thn (ha.run pos pins s σ H _ I h) fun us s1 hu => ?_) he hpl
  obtain ⟨vs, H1, I1, r, l1, _, q⟩ := hu
  exact ⟨I1.kIn, runX (ks := []) (ws := []) (zs := []) T iC tI F hr hb hx hn I1 r .nil l1 rfl q⟩
theorem pe_mkx0 (T : ExK X.K C) (iC : PySem.W.findIn X.K (.ref C) "__init__" = some (some (.ref fI))) (tI : PySem.W.typeIn X.K (.ref fI) = some (.type "function"))
    (F : FnOk X.prog X.w X.K X.mg X.base CX k fI fd ps sp) (hr : Room (k + 1) X.A) (hb : KBn X.K fd ps 1 [] g gV) (hx : Passes CX X (fun _ _ _ => False)) (hg : Gl X x) (hm : X.mg x = some (.ref C)) (hdb : (x == ("__debug__" : Str)) = false) :
    PE X (.Call (.Name x p) [] [] pos) (tMkX C 0 0 sp gV tNil tNil) := by
  refine ⟨fun pins s σ H Q I h => ?_⟩
  refine wpAny_Call_Name_kw (ld_glob I hg hm ?_ hdb)
  obtain ⟨_, _, q⟩ := h
  exact PySem.W.callWith_K0 I.kIn T.kC (runX (us := []) (vs := []) (ks := []) (ws := []) (zs := []) T iC tI F hr hb hx (Nat.zero_le _) I .nil .nil rfl rfl q)
theorem pe_mkxK (T : ExK X.K C) (iC : PySem.W.findIn X.K (.ref C) "__init__" = some (some (.ref fI))) (tI : PySem.W.typeIn X.K (.ref fI) = some (.type "function"))
    (F : FnOk X.prog X.w X.K X.mg X.base CX k fI fd ps sp) (hr : Room (k + 1) X.A) (hb : KBn X.K fd ps 1 ks g gV) (hx : Passes CX X (fun _ _ _ => False)) (hg : Gl X x) (hm : X.mg x = some (.ref C))
    (hkw : PK X kws tk) (hall : (backToKw pos (keywordEach kws X.env)).all (·.1.isSome) = true) (hks : (backToKw pos (keywordEach kws X.env)).filterMap (·.1) = ks) (hdb : (x == ("__debug__" : Str)) = false)
    (hpl : ((backTo pos (starEach [] X.env)).any (·.1) || (backToKw pos (keywordEach kws X.env)).any (·.1.isNone)) = false) :
    PE X (.Call (.Name x p) [] kws pos) (tMkX C 0 ks.length sp gV tNil tk) := by
  refine ⟨fun pins s σ H Q I h => ?_⟩
  refine wpAny_Call_Name_kw (ld_glob I hg hm ?_ hdb)
  refine PySem.W.callWith_KW0 (h₀ := X.base) I.ok.mod.kin T.kC hall ?_ hpl
  refine thn (hkw.run pos pins s σ H _ I h) fun ws s2 hw => ?_
  obtain ⟨zs, H2, I2, rz, _, l2, q⟩ := hw
  rw [hks]
  exact ⟨I2.kIn, runX (us := []) (vs := []) T iC tI F hr hb hx (Nat.zero_le _) I2 .nil rz rfl l2 q⟩
end
/-! ### as data -/
def excD (C : Addr) (fl : List Str) (ds : List PyData) : PyData := .dict ((.none, .int C) :: ((fl.zip ds).reverse.map fun q => (.str q.1, q.2)))
theorem rpkv_snoc {K : PySem.W.Frag} {H : Hp} : ∀ {vs : List (Key × V)} {ds : List (PyData × PyData)} {kk : Key} {v : V} {d : PyData}, RpKv K H vs ds → Rp K H v d → RpKv K H (vs ++ [(kk, v)]) (ds ++ [(keyD kk, d)])
  | _, _, _, _, _, .nil, r => .cons r .nil
  | _, _, _, _, _, .cons h t, r => .cons h (rpkv_snoc t r)
theorem rp_fields {K : PySem.W.Frag} {H : Hp} : ∀ {fl : List Str} {vs : List V} {ds : List PyData}, RpAll K H vs ds →
    RpKv K H ((fl.zip vs).reverse.map fun q => (Sum.inr q.1, q.2)) ((fl.zip ds).reverse.map fun q => (.str q.1, q.2))
  | [], _, _, _ => .nil
  | _ :: _, _, _, .nil => .nil
  | f :: fl, _, _, .cons h t => by
    simp only [List.zip_cons_cons, List.reverse_cons, List.map_append, List.map_cons, List.map_nil]
    exact rpkv_snoc (kk := .inr f) (rp_fields t) h
def spI (C : Addr) (fl : List Str) : Sp := fun vs H Q _ => ∃ a xs, vs = .ref a :: xs ∧ xs.length = fl.length ∧ H a = some (exo a C none) ∧
  ∀ dx, H dx = none → dx ≠ a → Q .non (upd (upd H dx (exd dx (fl.zip xs).reverse)) a (exo a C (some dx)))
def spI0 (C : Addr) : Sp := fun vs H Q _ => ∃ a, vs = [.ref a] ∧ H a = some (exo a C none) ∧ Q .non H
/-- a class of exceptions whose __init__ stores its parameters fl, each under its own name -/
structure XCls (P : Program) (w : World) (K : PySem.W.Frag) (mg : Str → Option Value) (base : Heap) (x : Str) (C : Addr) (fl : List Str) : Prop where
  ex : ∃ fI fd, FnOk P w K mg base CX0 1 fI fd ("self" :: fl) (spI C fl) ∧ PySem.W.findIn K (.ref C) "__init__" = some (some (.ref fI)) ∧ PySem.W.typeIn K (.ref fI) = some (.type "function") ∧
    KBn K fd ("self" :: fl) (fl.length + 1) [] (fun us _ => us) (fun vs _ => vs) ∧ KBn K fd ("self" :: fl) 1 fl (fun us ws => us ++ ws) (fun us ws => us ++ ws) ∧
    KBn K fd ("self" :: fl) 1 fl.reverse (fun us ws => us ++ ws.reverse) (fun us ws => us ++ ws.reverse)
  T : ExK K C
  hm : mg x = some (.ref C)
structure XCls0 (P : Program) (w : World) (K : PySem.W.Frag) (mg : Str → Option Value) (base : Heap) (x : Str) (C : Addr) : Prop where
  ex : ∃ fI fd, FnOk P w K mg base CX0 1 fI fd ["self"] (spI0 C) ∧ PySem.W.findIn K (.ref C) "__init__" = some (some (.ref fI)) ∧ PySem.W.typeIn K (.ref fI) = some (.type "function") ∧
    KBn K fd ["self"] 1 [] (fun us _ => us) (fun vs _ => vs)
  T : ExK K C
  hm : mg x = some (.ref C)
theorem upd_turn {H : Hp} {a dx : Addr} {o1 o2 o3 : HO} (h : dx ≠ a) : upd (upd (upd H a o1) dx o2) a o3 = upd (upd H dx o2) a o3 := by
  funext b
  by_cases hb : b = a
  · rw [hb, upd_same, upd_same]
  · rw [upd_ne hb, upd_ne hb]
    by_cases hd : b = dx
    · rw [hd, upd_same, upd_same]
    · rw [upd_ne hd, upd_ne hd, upd_ne hb]
section
variable {X : Cx} {e : Expr} {es : List Expr} {p pos : Pos} {kws : List Keyword} {C : Addr} {x : Str} {fl : List Str}
theorem laidX {B : Bs} {σ : L2.St} {H Hf : Hp} {ρ : Rho} {Q : VK} {vs : List V} {ds : List PyData} (R : Rel X.K B σ H Hf ρ) (hv : RpAll X.K Hf vs ds) {a : Addr} (ha : H a = none)
    (k : ∀ v H' Hf', Rel X.K B σ H' Hf' ρ → Same Hf Hf' → Rp X.K Hf' v (excD C fl ds) → Q v H') {dx : Addr} (hd : (upd H a (exo a C none)) dx = none) (ne : dx ≠ a) :
    Q (.ref a) (upd (upd (upd H a (exo a C none)) dx (exd dx (fl.zip vs).reverse)) a (exo a C (some dx))) := by
  rw [upd_turn ne]
  rw [upd_ne ne] at hd
  have R1 := R.froze hd (exd dx (fl.zip vs).reverse)
  have ha1 : upd H dx (exd dx (fl.zip vs).reverse) a = none := by rw [upd_ne (Ne.symm ne)]; exact ha
  have R2 := R1.froze ha1 (exo a C (some dx))
  have s1 : Same Hf (upd Hf dx (exd dx (fl.zip vs).reverse)) := same_upd (R.newF hd)
  have s2 : Same (upd Hf dx (exd dx (fl.zip vs).reverse)) _ := same_upd (o := exo a C (some dx)) (R1.newF ha1)
  refine k _ _ _ R2 (s1.trans s2) (.exc (dx := dx) upd_same ?_ ((rp_fields hv).mono (s1.trans s2)))
  rw [upd_ne ne, upd_same]
def fMk (C : Addr) (fl : List Str) (fa : FA) : FE := fun ρ => (fa ρ).bind fun p => (datas p.1).bind fun ds => if ds.length = fl.length then some (excD C fl ds, p.2) else none
theorem fMk_some {fa : FA} {ρ ρ' : Rho} {d : PyData} (h : fMk C fl fa ρ = some (d, ρ')) : ∃ avs ds, fa ρ = some (avs, ρ') ∧ datas avs = some ds ∧ ds.length = fl.length ∧ d = excD C fl ds := by
  unfold fMk at h
  cases e1 : fa ρ with
  | none => rw [e1] at h; cases h
  | some q =>
    obtain ⟨avs, ρ1⟩ := q
    cases e2 : datas avs with
    | none => simp [e1, e2] at h
    | some ds =>
      simp [e1, e2] at h
      obtain ⟨h1, h2, h3⟩ := h
      subst h3
      exact ⟨avs, ds, rfl, e2, h1, h2.symm⟩
theorem de_mkx {fa : FA} (hX : XCls X.prog X.w X.K X.mg X.base x C fl) (hr : Room 2 X.A) (hfl : fl.length ≤ 1000) (hg : Gl X x) (ha : DA X (e :: es) fa) (hdb : (x == ("__debug__" : Str)) = false := by decide)
    (he : starEach (e :: es) X.env = (false, eval e X.env) :: starEach es X.env := by rfl) (hpl : (backTo pos (starEach es X.env)).any (·.1) = false := by rfl) :
    DE X (.Call (.Name x p) (e :: es) [] pos) (fMk C fl fa) := by
  obtain ⟨fI, fd, F, iC, tI, b1, _, _⟩ := hX.ex
  obtain ⟨t, pa, q⟩ := ha.ex
  refine ⟨_, pe_mkx hX.T iC tI F hr b1 pass0 hfl hg hX.hm pa hdb he hpl, fun B σ H Hf ρ d ρ' Q R e0 k => ?_⟩
  obtain ⟨avs, ds, e1, e2, e3, rfl⟩ := fMk_some e0
  refine q B σ H Hf ρ avs ρ' _ R e1 fun vs H1 Hf1 R1 s1 a1 => ?_
  have hv := datas_rp a1 e2
  refine ⟨hv.length.trans e3, rfl, fun a ha => ⟨a, vs, rfl, hv.length.trans e3, upd_same, fun dx hd ne => ⟨rfl, ?_⟩⟩⟩
  exact laidX R1 hv ha (fun v H' Hf' R' s' r' => k v H' Hf' R' (s1.trans s') r') hd ne
theorem de_mkx0 (hX : XCls0 X.prog X.w X.K X.mg X.base x C) (hr : Room 2 X.A) (hg : Gl X x) (hdb : (x == ("__debug__" : Str)) = false := by decide) :
    DE X (.Call (.Name x p) [] [] pos) (fun ρ => some (excD C [] [], ρ)) := by
  obtain ⟨fI, fd, F, iC, tI, b1⟩ := hX.ex
  refine ⟨_, pe_mkx0 hX.T iC tI F hr b1 pass0 hg hX.hm hdb, fun B σ H Hf ρ d ρ' Q R e0 k => ?_⟩
  cases e0
  refine ⟨rfl, rfl, fun a ha => ⟨a, rfl, upd_same, rfl, ?_⟩⟩
  exact k _ _ _ (R.froze ha _) (same_upd (R.newF ha)) (.ex0 upd_same)
/-- the values of keywords -/
structure DK (X : Cx) (kws : List Keyword) (f : FA) : Prop where
  ex : ∃ t, PK X kws t ∧ ∀ (B : Bs) (σ : L2.St) (H Hf : Hp) (ρ : Rho) (d : List AV) (ρ' : Rho) (Q : List V → Hp → Prop), Rel X.K B σ H Hf ρ → f ρ = some (d, ρ') →
    (∀ vs H' Hf', Rel X.K B σ H' Hf' ρ' → Same Hf Hf' → AVs X.K σ Hf' vs d → Q vs H') → t σ H Q
theorem dk_nil : DK X [] fANil := ⟨_, pk_nil, fun B σ H Hf ρ d ρ' Q R e k => by
  cases e
  exact k [] H Hf R (Same.refl _) .nil⟩
theorem dk_cons {f : FO} {g : FA} {nm : Option Str} {kpos : Pos} (h : DO X e f) (hr : DK X kws g) : DK X (⟨nm, e, kpos⟩ :: kws) (fACons f g) := by
  obtain ⟨t, p, q⟩ := h.ex
  obtain ⟨t2, p2, q2⟩ := hr.ex
  refine ⟨_, pk_cons p p2, fun B σ H Hf ρ d ρ' Q R e k => ?_⟩
  obtain ⟨a, ρ1, r, e1, e2, rfl⟩ := fACons_some e
  refine q B σ H Hf ρ a ρ1 _ R e1 fun v H1 Hf1 R1 s1 o1 => ?_
  exact q2 B σ H1 Hf1 ρ1 r ρ' _ R1 e2 fun vs H2 Hf2 R2 s2 o2 => k (v :: vs) H2 Hf2 R2 (s1.trans s2) (.cons (o1.mono s2) o2)
def fMkR (C : Addr) (fl : List Str) (fa : FA) : FE := fun ρ => (fa ρ).bind fun p => (datas p.1).bind fun ds => if ds.length = fl.length then some (excD C fl ds.reverse, p.2) else none
theorem fMkR_some {fa : FA} {ρ ρ' : Rho} {d : PyData} (h : fMkR C fl fa ρ = some (d, ρ')) : ∃ avs ds, fa ρ = some (avs, ρ') ∧ datas avs = some ds ∧ ds.length = fl.length ∧ d = excD C fl ds.reverse := by
  unfold fMkR at h
  cases e1 : fa ρ with
  | none => rw [e1] at h; cases h
  | some q =>
    obtain ⟨avs, ρ1⟩ := q
    cases e2 : datas avs with
    | none => simp [e1, e2] at h
    | some ds =>
      simp [e1, e2] at h
      obtain ⟨h1, h2, h3⟩ := h
      subst h3
      exact ⟨avs, ds, rfl, e2, h1, h2.symm⟩
theorem de_mkxK {fa : FA} (hX : XCls X.prog X.w X.K X.mg X.base x C fl) (hr : Room 2 X.A) (hg : Gl X x) (ha : DK X kws fa)
    (hks : (backToKw pos (keywordEach kws X.env)).filterMap (·.1) = fl := by rfl) (hdb : (x == ("__debug__" : Str)) = false := by decide)
    (hall : (backToKw pos (keywordEach kws X.env)).all (·.1.isSome) = true := by rfl) (hpl : ((backTo pos (starEach [] X.env)).any (·.1) || (backToKw pos (keywordEach kws X.env)).any (·.1.isNone)) = false := by rfl) :
    DE X (.Call (.Name x p) [] kws pos) (fMk C fl fa) := by
  obtain ⟨fI, fd, F, iC, tI, _, b2, _⟩ := hX.ex
  obtain ⟨t, pa, q⟩ := ha.ex
  refine ⟨_, pe_mkxK hX.T iC tI F hr b2 pass0 hg hX.hm pa hall hks hdb hpl, fun B σ H Hf ρ d ρ' Q R e0 k => ?_⟩
  obtain ⟨avs, ds, e1, e2, e3, rfl⟩ := fMk_some e0
  refine q B σ H Hf ρ avs ρ' _ R e1 fun vs H1 Hf1 R1 s1 a1 => ?_
  have hv := datas_rp a1 e2
  refine ⟨rfl, hv.length.trans e3, fun a ha => ⟨a, vs, rfl, hv.length.trans e3, upd_same, fun dx hd ne => ⟨rfl, ?_⟩⟩⟩
  exact laidX R1 hv ha (fun v H' Hf' R' s' r' => k v H' Hf' R' (s1.trans s') r') hd ne
theorem RpAll.reverse {K : PySem.W.Frag} {H : Hp} : ∀ {vs : List V} {ds : List PyData}, RpAll K H vs ds → RpAll K H vs.reverse ds.reverse
  | _, _, .nil => .nil
  | _, _, .cons h t => by
    rw [List.reverse_cons, List.reverse_cons]
    exact (RpAll.reverse t).append (.cons h .nil)
theorem de_mkxR {fa : FA} (hX : XCls X.prog X.w X.K X.mg X.base x C fl) (hr : Room 2 X.A) (hg : Gl X x) (ha : DK X kws fa)
    (hks : (backToKw pos (keywordEach kws X.env)).filterMap (·.1) = fl.reverse := by rfl) (hdb : (x == ("__debug__" : Str)) = false := by decide)
    (hall : (backToKw pos (keywordEach kws X.env)).all (·.1.isSome) = true := by rfl) (hpl : ((backTo pos (starEach [] X.env)).any (·.1) || (backToKw pos (keywordEach kws X.env)).any (·.1.isNone)) = false := by rfl) :
    DE X (.Call (.Name x p) [] kws pos) (fMkR C fl fa) := by
  obtain ⟨fI, fd, F, iC, tI, _, _, b3⟩ := hX.ex
  obtain ⟨t, pa, q⟩ := ha.ex
  refine ⟨_, pe_mkxK hX.T iC tI F hr b3 pass0 hg hX.hm pa hall hks hdb hpl, fun B σ H Hf ρ d ρ' Q R e0 k => ?_⟩
  obtain ⟨avs, ds, e1, e2, e3, rfl⟩ := fMkR_some e0
  refine q B σ H Hf ρ avs ρ' _ R e1 fun vs H1 Hf1 R1 s1 a1 => ?_
  have hv := datas_rp a1 e2
  refine ⟨rfl, (hv.length.trans e3).trans (by simp), fun a ha => ⟨a, vs.reverse, rfl, by simp; exact hv.length.trans e3, upd_same, fun dx hd ne => ⟨rfl, ?_⟩⟩⟩
  exact laidX R1 (RpAll.reverse hv) ha (fun v H' Hf' R' s' r' => k v H' Hf' R' (s1.trans s') r') hd ne
end
end E98
set_option Elab.async false
set_option linter.all false
set_option maxRecDepth 100000
set_option maxHeartbeats 4000000
set_option autoImplicit false
/-! E5: exceptions as data: their fields read, their classes asked. -/
namespace E98
open PySem PySem.Spec L2 Y
/-- what the written part says of a class C whose instances are asked -/
structure AskC (K : PySem.W.Frag) (C : Addr) : Prop where
  c0 : (PySem.W.clsIn K C).isSome = true
  ga : PySem.W.findIn K (.ref C) "__getattribute__" = some (some (.builtin "BaseException.__getattribute__"))
  gg : PySem.W.findIn K (.ref C) "__getattr__" = some none
  sb : PySem.W.subIn K (.ref C) (.type "BaseException") = some true
  cl : PySem.W.findIn K (.ref C) "__class__" = some (some (.builtin "object.__class__"))
  gt : PySem.W.specialIn K (.builtin "object.__class__") "__get__" = some (some (.builtin "getset_descriptor.__get__"))
  tk : PySem.W.takesIn K (.builtin "object.__class__") = some true
  mo : PySem.W.mroIn K C (.type "object") = some true
  hd : PySem.W.hasDictIn K C = true
/-- the exception that a data value tells of -/
def exOf : PyData → Option (Nat × List (PyData × PyData))
  | .dict ((.none, .int (.ofNat C)) :: ds) => some (C, ds)
  | _ => none
theorem exOf_some {d : PyData} {C : Nat} {ds : List (PyData × PyData)} (h : exOf d = some (C, ds)) : d = .dict ((.none, .int (C : Int)) :: ds) := by
  unfold exOf at h
  split at h
  · cases h
    rfl
  · cases h
theorem exOf_exc {C : Addr} {fl : List Str} {ds : List PyData} : exOf (excD C fl ds) = some (C, (fl.zip ds).reverse.map fun q => (.str q.1, q.2)) := rfl
theorem rp_ex {K : PySem.W.Frag} {H : Hp} {v : V} {d : PyData} {C : Nat} {ds : List (PyData × PyData)} (h : Rp K H v d) (e : exOf d = some (C, ds)) :
    ∃ (a : Addr) (od : Option Addr) (fs : List (Str × V)), v = .ref a ∧ H a = some (exo a C od) ∧ RpKv K H (fs.map fun q => (.inr q.1, q.2)) ds ∧ ((od = none ∧ fs = []) ∨ ∃ dx, od = some dx ∧ H dx = some (exd dx fs)) := by
  have ed := exOf_some e
  subst ed
  generalize eg : PyData.dict ((.none, .int (C : Int)) :: ds) = dd at h
  cases h with
  | dct h1 h2 =>
    injection eg with eg
    subst eg
    generalize ek : (PyData.none, PyData.int (C : Int)) :: ds = kk at h2
    cases h2 with
    | nil => cases ek
    | @cons kx vv vs d' ds' h3 h4 =>
      have := congrArg Prod.fst (List.cons.inj ek).1
      cases kx <;> cases this
  | @ex0 a C' h1 =>
    injection eg with eg
    obtain ⟨e1, e2⟩ := List.cons.inj eg
    have e3 : C = C' := by
      have := congrArg Prod.snd e1
      injection this with this
      exact Int.ofNat.inj this
    subst e3 e2
    exact ⟨a, none, [], rfl, h1, .nil, .inl ⟨rfl, rfl⟩⟩
  | @exc a C' dx fs ds' h1 h2 h3 =>
    injection eg with eg
    obtain ⟨e1, e2⟩ := List.cons.inj eg
    have e3 : C = C' := by
      have := congrArg Prod.snd e1
      injection this with this
      exact Int.ofNat.inj this
    subst e3 e2
    exact ⟨a, some dx, fs, rfl, h1, h3, .inr ⟨dx, rfl, h2⟩⟩
  | _ => cases eg
def fldD (f : Str) : List (PyData × PyData) → Option PyData
  | [] => none
  | (.str g, d) :: r => if f = g then some d else fldD f r
  | _ :: _ => none
theorem fld_rp {K : PySem.W.Frag} {H : Hp} {f : Str} {d : PyData} : ∀ {fs : List (Str × V)} {ds : List (PyData × PyData)}, RpKv K H (fs.map fun q => (.inr q.1, q.2)) ds → fldD f ds = some d → ∃ v, fs.lookup f = some v ∧ Rp K H v d
  | [], _, .nil, e => by cases e
  | (g, y) :: fs, _, .cons (k := Sum.inr _) h t, e => by
    unfold fldD at e
    rw [lookup_put]
    simp only [keyD] at e
    split at e
    · rename_i z
      cases e
      exact ⟨y, if_pos z, h⟩
    · rename_i z
      rw [if_neg z]
      exact fld_rp t e
def gFld (C : Nat) (f : Str) (d : PyData) : Option PyData := (exOf d).bind fun p => if p.1 = C then fldD f p.2 else none
section
variable {X : Cx} {e : Expr} {es : List Expr} {p pos : Pos} {C : Addr} {x f : Str}
/-- what stands at an exception -/
theorem at_ex {pins : List (Addr × Obj)} {σ : L2.St} {H : Hp} {s : Shared} {a : Addr} {od : Option Addr} {fs : List (Str × V)} (I : Inv X pins σ H s) (ha : H a = some (exo a C od)) (h : (od = none ∧ fs = []) ∨ ∃ dx, od = some dx ∧ H dx = some (exd dx fs)) :
    ∃ oe oo, PySem.W.InstAt s.heap a oe C oo ∧ (∀ dx, od = some dx → ∃ o mA, oo = some o ∧ s.heap.Ns1 dx mA ∧ (∀ g, RelO (fs.lookup g) (mA g)) ∧ s.heap.get? dx = some o) := by
  obtain ⟨t1, ho⟩ := exo_at I.hok ha
  rcases h with ⟨rfl, rfl⟩ | ⟨dx, rfl, hd⟩
  · exact ⟨_, none, ⟨ho, rfl, rfl, trivial⟩, fun dx z => nomatch z⟩
  · obtain ⟨mA, hns, rel⟩ := exd_at I.hok hd
    obtain ⟨oD, _, _, hoD, _, _⟩ := hns.count (within_of rel)
    refine ⟨_, some oD, ⟨ho, rfl, rfl, hoD⟩, fun dx' z => ?_⟩
    cases z
    exact ⟨oD, mA, rfl, hns, rel, hoD⟩
theorem de_fld {fo : FO} (T : AskC X.K C) (hno : PySem.W.findIn X.K (.ref C) f = some none) (he : DO X e fo) (hb : attributeBase e f X.env (eval e X.env) = eval e X.env := by rfl) :
    DE X (.Attribute e f pos) (f1 (gFld C f) fo) := by
  obtain ⟨t, pe, q⟩ := he.ex
  refine ⟨fun σ H Q => t σ H fun v H1 => ∃ (a dx : Addr) (fs : List (Str × V)) (y : V), v = .ref a ∧ H1 a = some (exo a C (some dx)) ∧ H1 dx = some (exd dx fs) ∧ fs.lookup f = some y ∧ Q y H1, ?_, ?_⟩
  · refine ⟨fun pins s σ H Q I h => ?_⟩
    refine attr_of hb (thn (pe.run pins s σ H _ I h) fun u s1 hh => ?_)
    obtain ⟨v, H1, I1, rv, a, dx, fs, y, ev, ha, hd, hl, q1⟩ := hh
    subst ev
    obtain rfl : u = Value.ref a := rv
    obtain ⟨t1, ho⟩ := exo_at I1.hok ha
    obtain ⟨mA, hns, rel⟩ := exd_at I1.hok hd
    obtain ⟨od, hod, hlk⟩ := lookIn_ns hns
    obtain ⟨u, hu, ru⟩ := RelO.some_of (v := y) (o := mA f) (by rw [← hl]; exact rel f)
    have J : PySem.W.InstAt s1.heap a _ C (some od) := ⟨ho, rfl, rfl, hod⟩
    exact HandSPX.exc_get I1.kIn J T.ga T.gg T.sb (PySem.W.findObj_own T.hd hno rfl (by rw [hlk, hu])) (handed_of ru) ⟨y, H1, I1.tok _, ru, q1⟩
  · intro B σ H Hf ρ d ρ' Q R e0 k
    obtain ⟨av, dd, e1, e2, e3⟩ := f1_some e0
    refine q B σ H Hf ρ av ρ' _ R e1 fun v H1 Hf1 R1 s1 o1 => ?_
    have rv := (av_get R1 o1 e2).rp R1.fz
    unfold gFld at e3
    cases e4 : exOf dd with
    | none => rw [e4] at e3; cases e3
    | some z =>
      obtain ⟨C', ds⟩ := z
      rw [e4] at e3
      simp only [Option.bind_some] at e3
      split at e3
      · rename_i ec
        subst ec
        obtain ⟨a, od, fs, rfl, ha, hk, hz⟩ := rp_ex rv e4
        obtain ⟨y, hl, _⟩ := fld_rp hk e3
        rcases hz with ⟨_, rfl⟩ | ⟨dx, rfl, hd⟩
        · cases hl
        · have rv2 := (av_get R1 o1 e2)
          have rv3 : Rp X.K Hf1 (.ref a) dd := by
            cases rv2 with
            | d r => exact r
            | @o a' o' r =>
              exfalso
              cases o' with
              | lst ys =>
                have := exOf_some e4
                cases this
              | dct kvs =>
                have := exOf_some e4
                injection this with this
                cases kvs with
                | nil => cases this
                | cons kv kvs =>
                  have := congrArg Prod.fst (List.cons.inj this).1
                  obtain ⟨k1, d1⟩ := kv
                  cases k1 <;> cases this
          obtain ⟨a2, od2, fs2, ea2, ha2, hk2, hz2⟩ := rp_ex rv3 e4
          cases ea2
          obtain ⟨y2, hl2, ry2⟩ := fld_rp hk2 e3
          rcases hz2 with ⟨_, rfl⟩ | ⟨dx2, rfl, hd2⟩
          · cases hl2
          · exact ⟨a, dx2, fs2, y2, rfl, R1.fz _ _ ha2, R1.fz _ _ hd2, hl2, k y2 H1 Hf1 R1 s1 ry2⟩
      · cases e3
/-! ### isinstance(e, C) -/
def tabB (tb : List (Nat × Bool)) (d : PyData) : Option PyData := (exOf d).bind fun p => (tb.lookup p.1).map .bool
theorem lookup_mem {tb : List (Nat × Bool)} {C : Nat} {b : Bool} : tb.lookup C = some b → (C, b) ∈ tb := by
  induction tb with
  | nil => intro h; cases h
  | cons q tb ih =>
    intro h
    obtain ⟨D, b'⟩ := q
    rw [List.lookup_cons] at h
    split at h
    · rename_i z
      cases h
      rw [beq_iff_eq.mp z]
      exact List.mem_cons_self
    · exact List.mem_cons_of_mem _ (ih h)
def rIsX (K : PySem.W.Frag) : List V → Hp → VK → Prop := fun xs H Q => ∃ (a C : Addr) (od : Option Addr) (fs : List (Str × V)) (c : V) (cv : Value) (b : Bool), xs = [.ref a, c] ∧ H a = some (exo a C od) ∧
  ((od = none ∧ fs = []) ∨ ∃ dx, od = some dx ∧ H dx = some (exd dx fs)) ∧ AskC K C ∧ ClsV c cv ∧ PySem.W.kitOne K (.ref C) cv = some b ∧ Q (.bl b) H
theorem call_isX : CallR X (.builtin "isinstance") (rIsX X.K) := by
  intro pins s σ H xs us Q I r h
  obtain ⟨a, C, od, fs, c, cv, b, rfl, ha, hz, T, hc, e, q⟩ := h
  obtain ⟨u1, u2, rfl, r1, r2⟩ := vals2 r
  have e2 := hc.eq r2
  subst e2
  obtain rfl : u1 = Value.ref a := r1
  obtain ⟨oe, oo, J, _⟩ := at_ex I ha hz
  exact PySem.W.kia_one (PySem.W.kitx_exc T.c0 T.ga T.gg T.sb T.cl T.gt T.tk T.mo) I.kIn J e (fun z => nomatch z) fun tk => ⟨.bl b, H, I.tok tk, rfl, q⟩
theorem de_isX0 {e2 : Expr} {te : TE} {c : V} {cv : Value} {fo : FO} {tb : List (Nat × Bool)} (hc : ClsV c cv) (htb : ∀ q ∈ tb, AskC X.K q.1 ∧ PySem.W.kitOne X.K (.ref q.1) cv = some q.2)
    (hg : Gl X "isinstance") (hm : X.mg "isinstance" = none) (he : DO X e fo) (h2 : PE X e2 te) (hte : ∀ (σ : L2.St) (H : Hp) (Q : VK), Q c H → te σ H Q)
    (hs : starEach (e :: [e2]) X.env = (false, eval e X.env) :: starEach [e2] X.env) (hs2 : starEach [e2] X.env = (false, eval e2 X.env) :: starEach [] X.env)
    (hpl : (backTo pos (starEach [e2] X.env)).any (·.1) = false) :
    DE X (.Call (.Name "isinstance" p) [e, e2] [] pos) (f1 (tabB tb) fo) := by
  obtain ⟨t, pe, q⟩ := he.ex
  refine ⟨_, pe_callB call_isX hg hm (by decide +kernel) (pa_cons pe (pa_cons h2 pa_nil hs2) hs) (by decide) (by decide) hs hpl, fun B σ H Hf ρ d ρ' Q R e0 k => ?_⟩
  obtain ⟨av, dd, e1, e3, e4⟩ := f1_some e0
  refine q B σ H Hf ρ av ρ' _ R e1 fun v H1 Hf1 R1 s1 o1 => ?_
  refine hte σ H1 _ ?_
  have rv := (av_get R1 o1 e3).rp R1.fz
  unfold tabB at e4
  cases e5 : exOf dd with
  | none => rw [e5] at e4; cases e4
  | some z =>
    obtain ⟨C', ds⟩ := z
    rw [e5] at e4
    simp only [Option.bind_some] at e4
    cases e6 : tb.lookup C' with
    | none => rw [e6] at e4; cases e4
    | some b =>
      rw [e6] at e4
      cases e4
      obtain ⟨a, od, fs, rfl, ha, hk, hz⟩ := rp_ex rv e5
      obtain ⟨T, hb⟩ := htb _ (lookup_mem e6)
      exact ⟨a, C', od, fs, c, cv, b, rfl, ha, hz, T, hc, hb, k _ H1 Hf1 R1 s1 (.bl _)⟩
end
end E98
set_option Elab.async false
set_option linter.all false
set_option maxRecDepth 100000
set_option maxHeartbeats 4000000
set_option autoImplicit false
/-! E6: isinstance over a table of classes; the __init__ that stores its parameters. -/
namespace E98
open PySem PySem.Spec L2 Y
def tabG (n : Nat) (c : Nat → Nat) (g : Nat → Bool) : List (Nat × Bool) := (List.range n).map fun i => (c i, g i)
theorem tab_lookup {c : Nat → Nat} {g : Nat → Bool} : ∀ {l : List Nat} {i : Nat}, (∀ a ∈ l, ∀ b ∈ l, c a = c b → a = b) → i ∈ l → (l.map fun i => (c i, g i)).lookup (c i) = some (g i)
  | [], i, _, h => by cases h
  | a :: l, i, hc, h => by
    rw [List.map_cons, List.lookup_cons]
    by_cases e : c i = c a
    · have e2 : (c i == c a) = true := by simpa using e
      rw [e2, hc i h a List.mem_cons_self e]
    · have e2 : (c i == c a) = false := by simpa using e
      rw [e2]
      rcases List.mem_cons.mp h with z | z
      · exact absurd (by rw [z]) e
      · exact tab_lookup (fun x hx y hy => hc x (List.mem_cons_of_mem _ hx) y (List.mem_cons_of_mem _ hy)) z
section
variable {X : Cx} {e : Expr} {p p2 pos : Pos} {x : Str} {n : Nat} {c : Nat → Nat} {g : Nat → Bool} {fo : FO}
theorem tab_all {cv : Value} (hA : ∀ i, i < n → AskC X.K (c i)) (hk : ∀ i, i < n → PySem.W.kitOne X.K (.ref (c i)) cv = some (g i)) :
    ∀ q ∈ tabG n c g, AskC X.K q.1 ∧ PySem.W.kitOne X.K (.ref q.1) cv = some q.2 := by
  intro q hq
  obtain ⟨i, hi, rfl⟩ := List.mem_map.mp hq
  exact ⟨hA i (List.mem_range.mp hi), hk i (List.mem_range.mp hi)⟩
theorem de_isO {D : Addr} (hA : ∀ i, i < n → AskC X.K (c i)) (hk : ∀ i, i < n → PySem.W.kitOne X.K (.ref (c i)) (.ref D) = some (g i)) (hg : Gl X "isinstance") (hm : X.mg "isinstance" = none)
    (hg2 : Gl X x) (hm2 : X.mg x = some (.ref D)) (he : DO X e fo) (hdb : (x == ("__debug__" : Str)) = false := by decide) (hs : starEach (e :: [.Name x p2]) X.env = (false, eval e X.env) :: starEach [.Name x p2] X.env := by rfl) :
    DE X (.Call (.Name "isinstance" p) [e, .Name x p2] [] pos) (f1 (tabB (tabG n c g)) fo) :=
  de_isX0 (.own D) (tab_all hA hk) hg hm he (pe_glob (v := .ref D) hg2 hm2 rfl hdb) (fun σ H Q h => h) hs rfl rfl
theorem de_isB {T : String} (hA : ∀ i, i < n → AskC X.K (c i)) (hk : ∀ i, i < n → PySem.W.kitOne X.K (.ref (c i)) (.type T) = some (g i)) (hg : Gl X "isinstance") (hm : X.mg "isinstance" = none)
    (hg2 : Gl X x) (hm2 : X.mg x = none) (hv : bootBuiltins x = some (.type T)) (he : DO X e fo) (hn : x ≠ "__name__" := by decide) (hdb : (x == ("__debug__" : Str)) = false := by decide)
    (hs : starEach (e :: [.Name x p2]) X.env = (false, eval e X.env) :: starEach [.Name x p2] X.env := by rfl) :
    DE X (.Call (.Name "isinstance" p) [e, .Name x p2] [] pos) (f1 (tabB (tabG n c g)) fo) :=
  de_isX0 (.ty T) (tab_all hA hk) hg hm he (pe_bltn (v := .ty T) hg2 hm2 hv rfl hn hdb) (fun σ H Q h => h) hs rfl rfl
end
/-! ### what a class's line of bases says of isinstance -/
theorem kit_own {K : PySem.W.Frag} {C D : Addr} {cd dd : ClassData} {bs : List String} (hC : PySem.W.clsIn K C = some cd) (hm : cd.mro = .ref C :: bs.map .type) (hD : PySem.W.clsIn K D = some dd) (tD : PySem.W.typeIn K (.ref D) = some (.type "type")) :
    PySem.W.kitOne K (.ref C) (.ref D) = some (C == D) := by
  unfold PySem.W.kitOne
  by_cases e : C = D
  · subst e
    rw [if_pos (by simp)]
    simp
  · rw [if_neg (by simpa using e)]
    show (if ((PySem.W.clsIn K D).isSome && PySem.W.typeIn K (.ref D) == some (.type "type")) = true then PySem.W.mroIn K C (.ref D) else none) = _
    rw [hD, tD, if_pos (by simp)]
    unfold PySem.W.mroIn
    rw [hC, Option.bind_some, hm]
    have e2 : ¬ D = C := fun z => e z.symm
    simp [e, e2]
theorem kit_typ {K : PySem.W.Frag} {C : Addr} {cd : ClassData} {bs : List String} {T : String} (hC : PySem.W.clsIn K C = some cd) (hm : cd.mro = .ref C :: bs.map .type) (hT : PySem.W.kitMeta T = true) :
    PySem.W.kitOne K (.ref C) (.type T) = some (bs.contains T) := by
  unfold PySem.W.kitOne
  rw [if_neg (by simp)]
  show (if PySem.W.kitMeta T = true then PySem.W.mroIn K C (.type T) else none) = _
  rw [if_pos hT]
  unfold PySem.W.mroIn
  rw [hC, Option.bind_some, hm]
  simp
end E98
set_option Elab.async false
set_option linter.all false
set_option maxRecDepth 100000
set_option maxHeartbeats 4000000
set_option autoImplicit false
/-! E7: what the written part says of a class, and what follows. -/
namespace E98
open PySem PySem.Spec L2 Y
structure ClT (K : PySem.W.Frag) (mg : Str → Option Value) (x : Str) (C : Addr) (bs : List String) (newId : String) : Prop where
  gC : mg x = some (.ref C)
  cls : ∃ nm q N bb sn sub ab col dd k0 k1 k2 k3 k5, K.lookup C = some (excClassObj nm q C N bb (bs.map .type) true sn sub ab col dd k0 k1 k2 k3 k5 newId)
  sa : PySem.W.findIn K (.ref C) "__setattr__" = some (some (.builtin "object.__setattr__"))
  ga : PySem.W.findIn K (.ref C) "__getattribute__" = some (some (.builtin "BaseException.__getattribute__"))
  gg : PySem.W.findIn K (.ref C) "__getattr__" = some none
  cl : PySem.W.findIn K (.ref C) "__class__" = some (some (.builtin "object.__class__"))
  kC : PySem.W.keepIn K (.ref C) = true
/-- the built-in parts that our classes have -/
inductive Base : String → List String → Prop
  | v : Base "ValueError.__new__" ["ValueError", "Exception", "BaseException", "object"]
  | l : Base "LookupError.__new__" ["LookupError", "Exception", "BaseException", "object"]
  | k : Base "LookupError.__new__" ["KeyError", "LookupError", "Exception", "BaseException", "object"]
  | r : Base "RuntimeError.__new__" ["RuntimeError", "Exception", "BaseException", "object"]
theorem pass_key (self : Value) : refuseLoop self "__setattr__" [.type "KeyError", .type "LookupError", .type "Exception", .type "BaseException", .type "object"] = pure () := by
  kernel_rfl
theorem base_ok {newId : String} {bs : List String} (h : Base newId bs) (C : Addr) : ∃ B initId bmB, ExcBaseFacts B newId initId bmB ∧ TailOk B (bs.map .type) ∧ LineOk (.ref C :: bs.map .type) := by
  have line : ∀ l : List Value, l.contains (.type "object") = true → (∀ self, refuseLoop self "__setattr__" l = pure ()) → LineOk (.ref C :: l) := fun l h1 h2 =>
    ⟨rfl, by rw [List.contains_cons, h1, Bool.or_true], fun self => by rw [refuseLoop_ref]; exact h2 self⟩
  cases h with
  | v => exact ⟨_, _, _, F.excBase_ValueError, ⟨by decide +kernel, by decide +kernel, by decide +kernel⟩, line _ (by decide +kernel) F.store_ValueError.passes⟩
  | l => exact ⟨_, _, _, F.excBase_LookupError, ⟨by decide +kernel, by decide +kernel, by decide +kernel⟩, line _ (by decide +kernel) F.store_LookupError.passes⟩
  | k => exact ⟨_, _, _, F.excBase_LookupError, ⟨by decide +kernel, by decide +kernel, by decide +kernel⟩, line _ (by decide +kernel) pass_key⟩
  | r => exact ⟨_, _, _, F.excBase_RuntimeError, ⟨by decide +kernel, by decide +kernel, by decide +kernel⟩, line _ (by decide +kernel) F.store_RuntimeError.passes⟩
section
variable {K : PySem.W.Frag} {mg : Str → Option Value} {x : Str} {C : Addr} {bs : List String} {newId : String}
theorem ClT.data (T : ClT K mg x C bs newId) : ∃ cd, PySem.W.clsIn K C = some cd ∧ cd.mro = .ref C :: bs.map .type ∧ cd.hasDict = true := by
  obtain ⟨nm, q, N, bb, sn, sub, ab, col, dd, k0, k1, k2, k3, k5, hC⟩ := T.cls
  unfold PySem.W.clsIn
  rw [hC]
  exact ⟨_, rfl, rfl, rfl⟩
theorem ClT.typ (T : ClT K mg x C bs newId) : PySem.W.typeIn K (.ref C) = some (.type "type") := by
  obtain ⟨nm, q, N, bb, sn, sub, ab, col, dd, k0, k1, k2, k3, k5, hC⟩ := T.cls
  show (K.lookup C).map (·.cls) = _
  rw [hC]
  rfl
theorem ClT.exk (T : ClT K mg x C bs newId) (h : Base newId bs) : ExK K C := by
  obtain ⟨nm, q, N, bb, sn, sub, ab, col, dd, k0, k1, k2, k3, k5, hC⟩ := T.cls
  obtain ⟨B, initId, bmB, h1, h2, h3⟩ := base_ok h C
  exact ⟨⟨nm, q, N, bb, _, sn, sub, ab, col, dd, k0, k1, k2, k3, k5, B, newId, initId, bmB, hC, h1, h2, h3⟩, T.sa, T.kC⟩
theorem ClT.ask (T : ClT K mg x C bs newId) (h : Base newId bs) (gt : PySem.W.specialIn K (.builtin "object.__class__") "__get__" = some (some (.builtin "getset_descriptor.__get__"))) (tk : PySem.W.takesIn K (.builtin "object.__class__") = some true) : AskC K C := by
  obtain ⟨cd, h1, h2, h3⟩ := T.data
  have hm : ∀ n : String, bs.contains n = true → PySem.W.mroIn K C (.type n) = some true := by
    intro n hn
    unfold PySem.W.mroIn
    rw [h1, Option.bind_some, h2]
    simp only [List.isEmpty_cons, Bool.false_eq_true, if_false]
    have : n ∈ bs := by simpa using hn
    simp [this]
  refine ⟨by rw [h1]; rfl, T.ga, T.gg, hm "BaseException" ?_, T.cl, gt, tk, hm "object" ?_, ?_⟩
  · cases h <;> decide +kernel
  · cases h <;> decide +kernel
  · unfold PySem.W.hasDictIn
    rw [h1]
    exact h3
end
/-! ### an __init__ that stores its parameters -/
section
variable {P : Program} {w : World} {K : PySem.W.Frag} {mg : Str → Option Value} {base : Heap} {qual : Str} {st : Stmt} {fI C : Addr} {fd : FuncData} {f g : Str} {p1 p2 p3 p4 q1 q2 q3 q4 : Pos}
theorem vis_of {N ps : List Str} {sc : Scope} (S : FnScope N ps sc) {y : Str} (hy : y ∈ ps) : Vis sc y := by
  rcases S.par y hy with h | h
  · exact .inl h
  · exact .inr (.inl h)
theorem init1 (F : Fun K "__init__" qual st fI fd) (S : FnScope ["self", f] ["self", f] (defScope st)) (hb : defBody st = [.Assign [.Attribute (.Name "self" p1) f p2] (.Name f p3) p4]) (T : ExK K C) (hno : PySem.W.findIn K (.ref C) f = some none)
    (hd : (f == ("__debug__" : Str)) = false) (hcd : (f == ("__classdict__" : Str)) = false) : FnOk P w K mg base CX0 1 fI fd ["self", f] (spI C [f]) := by
  refine F.ok S (fun vs H Q E h => ?_) fun cdv A outer s H vs Q E hr h => ?_
  · obtain ⟨a, xs, rfl, hl, _⟩ := h
    simpa using hl
  · obtain ⟨a, xs, rfl, hl, ha, k⟩ := h
    rw [hb]
    match xs, hl with
    | [y], _ =>
      refine ⟨_, pss_one (ps_st (pe_var (i := 0) rfl (vis_of S (by simp)) (by decide) (by decide)) (pe_var (i := 1) rfl (vis_of S (by simp)) hd hcd)), ?_⟩
      exact ⟨_, rfl, _, rfl, a, C, rfl, T, hno, .inl ⟨ha, fun dx h1 h2 => k dx h1 h2⟩⟩
theorem init2 (F : Fun K "__init__" qual st fI fd) (S : FnScope ["self", f, g] ["self", f, g] (defScope st)) (hb : defBody st = [.Assign [.Attribute (.Name "self" p1) f p2] (.Name f p3) p4, .Assign [.Attribute (.Name "self" q1) g q2] (.Name g q3) q4]) (T : ExK K C)
    (hno : PySem.W.findIn K (.ref C) f = some none) (hno2 : PySem.W.findIn K (.ref C) g = some none) (hd : (f == ("__debug__" : Str)) = false) (hcd : (f == ("__classdict__" : Str)) = false) (hd2 : (g == ("__debug__" : Str)) = false) (hcd2 : (g == ("__classdict__" : Str)) = false) : FnOk P w K mg base CX0 1 fI fd ["self", f, g] (spI C [f, g]) := by
  refine F.ok S (fun vs H Q E h => ?_) fun cdv A outer s H vs Q E hr h => ?_
  · obtain ⟨a, xs, rfl, hl, _⟩ := h
    simpa using hl
  · obtain ⟨a, xs, rfl, hl, ha, k⟩ := h
    rw [hb]
    match xs, hl with
    | [y, z], _ =>
      refine ⟨_, pss_cons (ps_st (pe_var (i := 0) rfl (vis_of S (by simp)) (by decide) (by decide)) (pe_var (i := 1) rfl (vis_of S (by simp)) hd hcd)) (pss_one (ps_st (pe_var (i := 0) rfl (vis_of S (by simp)) (by decide) (by decide)) (pe_var (i := 2) rfl (vis_of S (by simp)) hd2 hcd2))), ?_⟩
      refine ⟨_, rfl, _, rfl, a, C, rfl, T, hno, .inl ⟨ha, fun dx h1 h2 => ?_⟩⟩
      refine ⟨_, rfl, _, rfl, a, C, rfl, T, hno2, .inr ⟨dx, [(f, y)], upd_same, by rw [upd_ne h2, upd_same], by simp, ?_⟩⟩
      have e : upd (upd (upd H dx (exd dx [(f, y)])) a (exo a C (some dx))) dx (exd dx [(g, z), (f, y)]) = upd (upd H dx (exd dx [(g, z), (f, y)])) a (exo a C (some dx)) := by
        funext b
        by_cases hb : b = dx
        · rw [hb, upd_same, upd_ne h2, upd_same]
        · rw [upd_ne hb]
          by_cases hba : b = a
          · rw [hba, upd_same, upd_same]
          · rw [upd_ne hba, upd_ne hba, upd_ne hb, upd_ne hb]
      rw [e]
      exact k dx h1 h2
end
end E98
set_option Elab.async false
set_option linter.all false
set_option maxRecDepth 100000
set_option maxHeartbeats 4000000
set_option autoImplicit false
/-! E8: the facts of the written part, one class, one def at a time. -/
namespace E98
open PySem PySem.Spec L2 Y
structure RawC (K : PySem.W.Frag) (mg : Str → Option Value) (x qual : Str) (C fI : Addr) (bs : List String) (newId : String) (st : Stmt) : Prop where
  T : ClT K mg x C bs newId
  nm : ∃ q N bb sn sub ab col dd k0 k1 k2 k3 k5, K.lookup C = some (excClassObj x q C N bb (bs.map .type) true sn sub ab col dd k0 k1 k2 k3 k5 newId)
  iC : PySem.W.findIn K (.ref C) "__init__" = some (some (.ref fI))
  tI : PySem.W.typeIn K (.ref fI) = some (.type "function")
  F : ∃ fd, Fun K "__init__" qual st fI fd
section
variable {K : PySem.W.Frag} {h : Heap} {mg : Str → Option Value} {G : Prop}
theorem raw_in (X : K.In h) (Gm : h.Ns mainGlobals mg) (x qual : Str) (bs : List String) (bm : List Value) (newId : String) (st : Stmt) (hbm : bm = bs.map .type)
    {C fI N : Addr} {q : Str} {bb : List Value} {sn : List Str} {sub : List Value} {ab : Bool} {col : Option Bool} {dd od an : Option Addr} {k0 k1 k2 k3 k5 : Option Value} {oc kV doc pm cdv ct : Value} {osl : Array (Option Value)}
    (aC : PySem.W.nsIn K mainGlobals x = some (some (.ref C))) (xL : K.lookup C = some (excClassObj x q C N bb bm true sn sub ab col dd k0 k1 k2 k3 k5 newId))
    (sa : PySem.W.findIn K (.ref C) "__setattr__" = some (some (.builtin "object.__setattr__"))) (ga : PySem.W.findIn K (.ref C) "__getattribute__" = some (some (.builtin "BaseException.__getattribute__"))) (gg : PySem.W.findIn K (.ref C) "__getattr__" = some none)
    (cl : PySem.W.findIn K (.ref C) "__class__" = some (some (.builtin "object.__class__"))) (kC : PySem.W.keepIn K (.ref C) = true) (iC : PySem.W.findIn K (.ref C) "__init__" = some (some (.ref fI))) (tI : PySem.W.typeIn K (.ref fI) = some (.type "function"))
    (lI : K.lookup fI = some ⟨oc, od, .func (PySem.W.fnOf "__init__" qual (defArgs st) (defBody st) (defScope st) .none kV doc pm an cdv ct), osl⟩) (cI : PySem.W.codeIn K cdv qual = true) (kI : PySem.W.keepIn K (.ref fI) = true)
    (go : RawC K mg x qual C fI bs newId st → G) : G := by
  subst hbm
  exact go ⟨⟨PySem.W.mg_of X Gm aC, ⟨x, q, N, bb, sn, sub, ab, col, dd, k0, k1, k2, k3, k5, xL⟩, sa, ga, gg, cl, kC⟩, ⟨q, N, bb, sn, sub, ab, col, dd, k0, k1, k2, k3, k5, xL⟩, iC, tI, ⟨_, fun_mk lI cI kI⟩⟩
theorem dfn_in (X : K.In h) (Gm : h.Ns mainGlobals mg) (x : Str) (st : Stmt) (ps : List Str) {f : Addr} {oc kV doc pm cdv ct : Value} {od an : Option Addr} {osl : Array (Option Value)}
    (hb : ∀ (kV doc pm : Value) (an : Option Addr) (cdv ct : Value) (us : List Value), us.length = ps.length → bindArgs (PySem.W.fnOf x x (defArgs st) (defBody st) (defScope st) .none kV doc pm an cdv ct) ⟨us, []⟩ = pure (ps.zip us))
    (aD : PySem.W.nsIn K mainGlobals x = some (some (.ref f))) (lD : K.lookup f = some ⟨oc, od, .func (PySem.W.fnOf x x (defArgs st) (defBody st) (defScope st) .none kV doc pm an cdv ct), osl⟩) (cD : PySem.W.codeIn K cdv x = true) (kD : PySem.W.keepIn K (.ref f) = true)
    (go : Dfn K mg x st ps → G) : G := by
  have F := fun_mk (st := st) lD cD kD
  exact go ⟨f, _, F, PySem.W.mg_of X Gm aD, F.binds hb⟩
theorem none_in (X : K.In h) (Gm : h.Ns mainGlobals mg) (x : Str) (z : PySem.W.nsIn K mainGlobals x = some none) (go : mg x = none → G) : G := go (PySem.W.mg_none_of X Gm z)
end
/-! how the classes' arguments bind -/
section
variable {K : PySem.W.Frag} {x qual : Str} {st : Stmt} {f : Addr} {fd : FuncData} {ps : List Str}
theorem kb_pos (F : Fun K x qual st f fd) (n : Nat) (h : ∀ (kV doc pm : Value) (an : Option Addr) (cdv ct : Value) (us : List Value), us.length = n → bindArgs (PySem.W.fnOf x qual (defArgs st) (defBody st) (defScope st) .none kV doc pm an cdv ct) ⟨us, []⟩ = pure (ps.zip us)) :
    KBn K fd ps n [] (fun us _ => us) (fun vs _ => vs) := by
  obtain ⟨oc, od, kV, doc, pm, an, cdv, ct, osl, rfl, lk, hcd⟩ := F.ex
  exact ⟨fun s us ws X l1 l2 => .of_eq (h kV doc pm an cdv ct us l1), fun r1 _ => r1⟩
theorem kb_kw (F : Fun K x qual st f fd) (ks : List Str) (h : ∀ (kV doc pm : Value) (an : Option Addr) (cdv ct : Value) (us ws : List Value), us.length = 1 → ws.length = ks.length → bindArgs (PySem.W.fnOf x qual (defArgs st) (defBody st) (defScope st) .none kV doc pm an cdv ct) ⟨us, ks.zip ws⟩ = pure (ps.zip (us ++ ws))) :
    KBn K fd ps 1 ks (fun us ws => us ++ ws) (fun us ws => us ++ ws) := by
  obtain ⟨oc, od, kV, doc, pm, an, cdv, ct, osl, rfl, lk, hcd⟩ := F.ex
  exact ⟨fun s us ws X l1 l2 => .of_eq (h kV doc pm an cdv ct us ws l1 l2), fun r1 r2 => r1.append r2⟩
theorem vals_rev : ∀ {vs : List V} {us : List Value}, Vals vs us → Vals vs.reverse us.reverse
  | _, _, .nil => .nil
  | _, _, .cons a b => by
    rw [List.reverse_cons, List.reverse_cons]
    exact (vals_rev b).append (.cons a .nil)
theorem kb_kr (F : Fun K x qual st f fd) (ks : List Str) (h : ∀ (kV doc pm : Value) (an : Option Addr) (cdv ct : Value) (us ws : List Value), us.length = 1 → ws.length = ks.length → bindArgs (PySem.W.fnOf x qual (defArgs st) (defBody st) (defScope st) .none kV doc pm an cdv ct) ⟨us, ks.reverse.zip ws⟩ = pure (ps.zip (us ++ ws.reverse))) :
    KBn K fd ps 1 ks.reverse (fun us ws => us ++ ws.reverse) (fun us ws => us ++ ws.reverse) := by
  obtain ⟨oc, od, kV, doc, pm, an, cdv, ct, osl, rfl, lk, hcd⟩ := F.ex
  refine ⟨fun s us ws X l1 l2 => .of_eq (h kV doc pm an cdv ct us ws l1 (by rw [l2, List.length_reverse])), fun r1 r2 => r1.append (vals_rev r2)⟩
end
theorem OexC.of {K : PySem.W.Frag} {mg : Str → Option Value} {x : Str} {C : Addr} (T : ClT K mg x C ["ValueError", "Exception", "BaseException", "object"] "ValueError.__new__") (A : AskC K C) : OexC K C := by
  obtain ⟨nm, q, N, bb, sn, sub, ab, col, dd, k0, k1, k2, k3, k5, hC⟩ := T.cls
  exact ⟨⟨nm, q, N, bb, _, sn, sub, ab, col, dd, k0, k1, k2, k3, k5, hC, by decide +kernel⟩, T.sa, A.sb, T.typ, T.kC⟩
/-- two classes of unlike names lie apart -/
theorem apart_of {K : PySem.W.Frag} {mg : Str → Option Value} {x y qx qy : Str} {C fC fD : Addr} {b1 b2 : List String} {n1 n2 : String} {s1 s2 : Stmt} (R1 : RawC K mg x qx C fC b1 n1 s1) (R2 : RawC K mg y qy C fD b2 n2 s2) : x = y := by
  obtain ⟨q, N, bb, sn, sub, ab, col, dd, k0, k1, k2, k3, k5, h1⟩ := R1.nm
  obtain ⟨q', N', bb', sn', sub', ab', col', dd', k0', k1', k2', k3', k5', h2⟩ := R2.nm
  have e := Option.some.inj (h1.symm.trans h2)
  have e2 : (excClassObj x q C N bb (b1.map .type) true sn sub ab col dd k0 k1 k2 k3 k5 n1).data = (excClassObj y q' C N' bb' (b2.map .type) true sn' sub' ab' col' dd' k0' k1' k2' k3' k5' n2).data := congrArg Obj.data e
  unfold excClassObj at e2
  injection e2 with e3
  exact congrArg ClassData.name e3
end E98
set_option Elab.async false
set_option linter.all false
set_option maxRecDepth 100000
set_option maxHeartbeats 8000000
set_option autoImplicit false
namespace K98
open PySem PySem.Spec L2 Y E98
def topS (i : Nat) : Stmt := PySem.Challenge.pw_clobberwalk_k98_errors_and_limits.main.body.getD i (.Pass ⟨0, 0, 0, 0⟩)
structure Bn (mg : Str → Option Value) : Prop where
  n_KeyError : mg "KeyError" = none
  n_LookupError : mg "LookupError" = none
  n_RuntimeError : mg "RuntimeError" = none
  n_ValueError : mg "ValueError" = none
  n_abs : mg "abs" = none
  n_int : mg "int" = none
  n_isinstance : mg "isinstance" = none
  n_len : mg "len" = none
  n_list : mg "list" = none
  n_range : mg "range" = none
  n_repr : mg "repr" = none
def wd_ValueError (i : Nat) : Bool := i == 0 || i == 1 || i == 2 || i == 3 || i == 4 || i == 5 || i == 6 || i == 7 || i == 8 || i == 9
def wd_KeyError (i : Nat) : Bool := i == 10 || i == 11
def wd_LookupError (i : Nat) : Bool := i == 10 || i == 11 || i == 12
def wd_RuntimeError (i : Nat) : Bool := i == 13
structure Wd (P : Program) (w : World) (K : PySem.W.Frag) (mg : Str → Option Value) (base : Heap) (c : Nat → Nat) : Prop where
  x_InvalidModule : XCls P w K mg base "InvalidModule" (c 0) ["reason"]
  f_InvalidModule_reason : PySem.W.findIn K (.ref (c 0)) "reason" = some none
  x_InvalidInputs : XCls P w K mg base "InvalidInputs" (c 1) ["value"]
  f_InvalidInputs_value : PySem.W.findIn K (.ref (c 1)) "value" = some none
  x_InvalidNumber : XCls P w K mg base "InvalidNumber" (c 2) ["value"]
  f_InvalidNumber_value : PySem.W.findIn K (.ref (c 2)) "value" = some none
  x_InvalidThings : XCls P w K mg base "InvalidThings" (c 3) ["value"]
  f_InvalidThings_value : PySem.W.findIn K (.ref (c 3)) "value" = some none
  x_InvalidView : XCls P w K mg base "InvalidView" (c 4) ["value"]
  f_InvalidView_value : PySem.W.findIn K (.ref (c 4)) "value" = some none
  x_InvalidStep : XCls P w K mg base "InvalidStep" (c 5) ["value"]
  f_InvalidStep_value : PySem.W.findIn K (.ref (c 5)) "value" = some none
  x_InvalidEdit : XCls P w K mg base "InvalidEdit" (c 6) ["index"]
  f_InvalidEdit_index : PySem.W.findIn K (.ref (c 6)) "index" = some none
  x_InvalidRow : XCls P w K mg base "InvalidRow" (c 7) ["value"]
  f_InvalidRow_value : PySem.W.findIn K (.ref (c 7)) "value" = some none
  x_ParseError : XCls P w K mg base "ParseError" (c 8) ["line", "word"]
  f_ParseError_line : PySem.W.findIn K (.ref (c 8)) "line" = some none
  f_ParseError_word : PySem.W.findIn K (.ref (c 8)) "word" = some none
  x_WrongInputs : XCls0 P w K mg base "WrongInputs" (c 9)
  x_UnknownName : XCls P w K mg base "UnknownName" (c 10) ["value"]
  f_UnknownName_value : PySem.W.findIn K (.ref (c 10)) "value" = some none
  x_UnknownPlace : XCls P w K mg base "UnknownPlace" (c 11) ["value"]
  f_UnknownPlace_value : PySem.W.findIn K (.ref (c 11)) "value" = some none
  x_WrongPlace : XCls P w K mg base "WrongPlace" (c 12) ["place"]
  f_WrongPlace_place : PySem.W.findIn K (.ref (c 12)) "place" = some none
  x_Broken : XCls P w K mg base "Broken" (c 13) ["index"]
  f_Broken_index : PySem.W.findIn K (.ref (c 13)) "index" = some none
  a : ∀ i, i < 14 → AskC K (c i)
  kk : ∀ j, j < 14 → ∀ i, i < 14 → PySem.W.kitOne K (.ref (c i)) (.ref (c j)) = some (i == j)
  kt_ValueError : ∀ i, i < 14 → PySem.W.kitOne K (.ref (c i)) (.type "ValueError") = some (wd_ValueError i)
  kt_KeyError : ∀ i, i < 14 → PySem.W.kitOne K (.ref (c i)) (.type "KeyError") = some (wd_KeyError i)
  kt_LookupError : ∀ i, i < 14 → PySem.W.kitOne K (.ref (c i)) (.type "LookupError") = some (wd_LookupError i)
  kt_RuntimeError : ∀ i, i < 14 → PySem.W.kitOne K (.ref (c i)) (.type "RuntimeError") = some (wd_RuntimeError i)
  l_m : mg "Limits" = some (.ref (c 14))
  l_r : ClX.CRead K (c 14) (.type "type")
  l_MOST_KINDS : ∃ u, ClX.CVal K (c 14) (.type "type") "MOST_KINDS" (.int 8) u
  l_MOST_FIELDS : ∃ u, ClX.CVal K (c 14) (.type "type") "MOST_FIELDS" (.int 6) u
  l_MOST_FUNCTIONS : ∃ u, ClX.CVal K (c 14) (.type "type") "MOST_FUNCTIONS" (.int 8) u
  l_MOST_PARAMETERS : ∃ u, ClX.CVal K (c 14) (.type "type") "MOST_PARAMETERS" (.int 4) u
  l_MOST_BLOCKS : ∃ u, ClX.CVal K (c 14) (.type "type") "MOST_BLOCKS" (.int 12) u
  l_MOST_BLOCK_PARAMETERS : ∃ u, ClX.CVal K (c 14) (.type "type") "MOST_BLOCK_PARAMETERS" (.int 6) u
  l_MOST_INSTRUCTIONS : ∃ u, ClX.CVal K (c 14) (.type "type") "MOST_INSTRUCTIONS" (.int 40) u
  l_MOST_PLACES : ∃ u, ClX.CVal K (c 14) (.type "type") "MOST_PLACES" (.int 120) u
  l_MOST_ELEMENTS : ∃ u, ClX.CVal K (c 14) (.type "type") "MOST_ELEMENTS" (.int 60) u
  l_MOST_STEPS : ∃ u, ClX.CVal K (c 14) (.type "type") "MOST_STEPS" (.int 20000) u
  l_MOST_CALLS : ∃ u, ClX.CVal K (c 14) (.type "type") "MOST_CALLS" (.int 40) u
section
variable {P : Program} {w : World} {K : PySem.W.Frag} {mg : Str → Option Value} {base : Heap}
/-! _law_pen -/
abbrev s__law_pen : Stmt := topS 18
abbrev N__law_pen : List Str := ["_law_script"]
theorem sc__law_pen : FnScope N__law_pen ["_law_script"] (defScope s__law_pen) := ⟨rfl, rfl, rfl, by decide +kernel, rfl, by decide +kernel, by decide +kernel⟩
def fb__law_pen : FF := (fDct (fPCons (fC (.str "cells")) (f1 gList (oE (fSlS 0 fPno (fPart (fC (.int 63)))))) (fPCons (fC (.str "used")) (fC (.int 0)) (fPCons (fC (.str "left")) (fC (.int 0)) fPNil))))
theorem cal__law_pen (D : Dfn K mg "_law_pen" s__law_pen ["_law_script"]) (Bn : Bn mg) : CalF P w K mg base "_law_pen" ["_law_script"] 1 (fDefF 1 fb__law_pen) := by
  refine calF_mk D sc__law_pen (by rfl) fun X f hX hr hgd => ?_
  obtain ⟨cdv, A, outer, s, H, E, rfl⟩ := hX
  have hnd := sc__law_pen.nd
  have hu1 := hu_of hr
  have hu64 := hr.units
  have hu65 := hu65 hr
  exact (df_dct (dps_cons de_str (de_t1 cd_list (by rfl) Bn.n_list (by decide +kernel) (do_of (de_slS 0 (pv 0) dp_no (dp_some de_int)))) (dps_cons de_str de_int (dps_cons de_str de_int dps_nil))))
/-! _law_draw -/
abbrev s__law_draw : Stmt := topS 19
abbrev N__law_draw : List Str := ["_law_pen_here", "_law_many", "_law_digit", "_law_k", "_law_cell", "_law_mixed"]
theorem sc__law_draw : FnScope N__law_draw ["_law_pen_here", "_law_many"] (defScope s__law_draw) := ⟨rfl, rfl, rfl, by decide +kernel, rfl, by decide +kernel, by decide +kernel⟩
def fb__law_draw : FS := (fSeq (fIfS (fT2 (f2 gGt (oE (f2 gIx (fVar 0) (oE (fC (.str "left"))))) (oE (fC (.int 0))))) (fSeq (fSet 2 (gE (f2 gMod (oE (f1 gInt (oE (f2 gIx (fVar 0) (oE (fC (.str "left"))))))) (fVar 1)))) (fSeq (fDPut 0 (fC (.str "left")) (f2 gFdiv (oE (f2 gIx (fVar 0) (oE (fC (.str "left"))))) (fVar 1))) (fRet (eO (fVar 2))))) fNil) (fSeq (fSet 3 (gE (f2 gIx (fVar 0) (oE (fC (.str "used")))))) (fSeq (fDPut 0 (fC (.str "used")) (f2 gAdd (fVar 3) (oE (fC (.int 1))))) (fSeq (fSet 4 (gE (f2 gAdd (oE (f2 gMul (oE (fC (.int 59))) (fVar 3))) (oE (fC (.int 17)))))) (fSeq (fIfS (fT2 (f2 gNe (oE (f2 gIx (fVar 0) (oE (fC (.str "cells"))))) (oE (fFz (fLstF fANil))))) (fSet 4 (gE (f2 gIx (oE (f2 gIx (fVar 0) (oE (fC (.str "cells"))))) (oE (f2 gMod (oE (f1 gInt (fVar 3))) (oE (f1 gLen (oE (f2 gIx (fVar 0) (oE (fC (.str "cells")))))))))))) fNil) (fSeq (fIfS (fTAnd (fT2 (f2 gLt (fVar 3) (oE (f1 gLen (oE (f2 gIx (fVar 0) (oE (fC (.str "cells"))))))))) (fT2 (f2 gGe (oE (f1 gAbs (fVar 4))) (oE (f2 gPow (oE (fC (.int 10))) (oE (fC (.int 18)))))))) (fSeq (fDPut 0 (fC (.str "left")) (f2 gFdiv (oE (f2 gSub (oE (f1 gAbs (fVar 4))) (oE (f2 gPow (oE (fC (.int 10))) (oE (fC (.int 18))))))) (fVar 1))) (fRet (f2 gMod (oE (f2 gSub (oE (f1 gAbs (fVar 4))) (oE (f2 gPow (oE (fC (.int 10))) (oE (fC (.int 18))))))) (fVar 1)))) fNil) (fSeq (fSet 5 (gE (f2 gMod (oE (f1 gInt (oE (f2 gAdd (oE (f2 gAdd (oE (f2 gAdd (oE (f2 gMul (oE (f2 gMod (oE (f1 gInt (fVar 4))) (oE (fC (.int 4294967279))))) (oE (fC (.int 48271))))) (oE (f2 gMul (oE (f2 gMul (oE (fC (.int 50021))) (fVar 3))) (fVar 3))))) (oE (f2 gMul (oE (fC (.int 69621))) (fVar 3))))) (oE (fC (.int 13))))))) (oE (fC (.int 4294967231)))))) (fSeq (fSet 5 (gE (f2 gMod (oE (f1 gInt (oE (f2 gAdd (oE (f2 gAdd (oE (f2 gAdd (oE (f2 gMul (fVar 5) (fVar 5))) (oE (f2 gMul (oE (fC (.int 40692))) (fVar 5))))) (oE (f2 gMul (oE (fC (.int 7))) (fVar 3))))) (oE (fC (.int 5))))))) (oE (fC (.int 4294967197)))))) (fRet (f2 gMod (oE (f1 gInt (oE (f2 gFdiv (oE (f2 gMod (oE (f1 gInt (oE (f2 gMul (fVar 5) (oE (f2 gAdd (fVar 5) (oE (fC (.int 16777259))))))))) (oE (fC (.int 4294967189))))) (oE (fC (.int 32))))))) (fVar 1)))))))))))
theorem cal__law_draw (D : Dfn K mg "_law_draw" s__law_draw ["_law_pen_here", "_law_many"]) (Bn : Bn mg) : Cal P w K mg base "_law_draw" ["_law_pen_here", "_law_many"] 1 (fDef 6 fb__law_draw) := by
  refine cal_mk D sc__law_draw fun X f hX hr hgd => ?_
  obtain ⟨cdv, A, outer, s, H, E, rfl⟩ := hX
  have hnd := sc__law_draw.nd
  have hu1 := hu_of hr
  have hu64 := hr.units
  have hu65 := hu65 hr
  exact (dss_cons (ds_if (dt_cmp od_gt (do_of (de_ix (ov 0) (do_of de_str))) (do_of de_int) (nomark _)) (dss_cons (ds_set hnd (by rfl) (by first | exact .inl rfl | exact .inr rfl) (dg_e (de_op od_mod (do_of (de_t1 cd_int (by rfl) Bn.n_int (by decide +kernel) (do_of (de_ix (ov 0) (do_of de_str))))) (ov 1)))) (dss_cons (ds_dput 0 hu1 (pv 0) de_str (de_op od_fdiv (do_of (de_ix (ov 0) (do_of de_str))) (ov 1))) (dss_one (ds_ret (de_of (ov 2)))))) dss_nil) (dss_cons (ds_set hnd (by rfl) (by first | exact .inl rfl | exact .inr rfl) (dg_e (de_ix (ov 0) (do_of de_str)))) (dss_cons (ds_dput 0 hu1 (pv 0) de_str (de_op od_add (ov 3) (do_of de_int))) (dss_cons (ds_set hnd (by rfl) (by first | exact .inl rfl | exact .inr rfl) (dg_e (de_op od_add (do_of (de_op od_mul (do_of de_int) (ov 3))) (do_of de_int)))) (dss_cons (ds_if (dt_cmp (od_ne hu64) (do_of (de_ix (ov 0) (do_of de_str))) (do_of (de_fz (df_lst da_nil))) (nomark _)) (dss_one (ds_set hnd (by rfl) (by first | exact .inl rfl | exact .inr rfl) (dg_e (de_ix (do_of (de_ix (ov 0) (do_of de_str))) (do_of (de_op od_mod (do_of (de_t1 cd_int (by rfl) Bn.n_int (by decide +kernel) (ov 3))) (do_of (de_b1 cd_len (by rfl) Bn.n_len (by decide +kernel) (do_of (de_ix (ov 0) (do_of de_str))))))))))) dss_nil) (dss_cons (ds_if (dt_w (dw_and (dt_cmp od_lt (ov 3) (do_of (de_b1 cd_len (by rfl) Bn.n_len (by decide +kernel) (do_of (de_ix (ov 0) (do_of de_str))))) (nomark _)) (dw_and1 (dt_cmp od_ge (do_of (de_b1 cd_abs (by rfl) Bn.n_abs (by decide +kernel) (ov 4))) (do_of (de_op od_pow (do_of de_int) (do_of de_int))) (nomark _))))) (dss_cons (ds_dput 0 hu1 (pv 0) de_str (de_op od_fdiv (do_of (de_op od_sub (do_of (de_b1 cd_abs (by rfl) Bn.n_abs (by decide +kernel) (ov 4))) (do_of (de_op od_pow (do_of de_int) (do_of de_int))))) (ov 1))) (dss_one (ds_ret (de_op od_mod (do_of (de_op od_sub (do_of (de_b1 cd_abs (by rfl) Bn.n_abs (by decide +kernel) (ov 4))) (do_of (de_op od_pow (do_of de_int) (do_of de_int))))) (ov 1))))) dss_nil) (dss_cons (ds_set hnd (by rfl) (by first | exact .inl rfl | exact .inr rfl) (dg_e (de_op od_mod (do_of (de_t1 cd_int (by rfl) Bn.n_int (by decide +kernel) (do_of (de_op od_add (do_of (de_op od_add (do_of (de_op od_add (do_of (de_op od_mul (do_of (de_op od_mod (do_of (de_t1 cd_int (by rfl) Bn.n_int (by decide +kernel) (ov 4))) (do_of de_int))) (do_of de_int))) (do_of (de_op od_mul (do_of (de_op od_mul (do_of de_int) (ov 3))) (ov 3))))) (do_of (de_op od_mul (do_of de_int) (ov 3))))) (do_of de_int))))) (do_of de_int)))) (dss_cons (ds_set hnd (by rfl) (by first | exact .inl rfl | exact .inr rfl) (dg_e (de_op od_mod (do_of (de_t1 cd_int (by rfl) Bn.n_int (by decide +kernel) (do_of (de_op od_add (do_of (de_op od_add (do_of (de_op od_add (do_of (de_op od_mul (ov 5) (ov 5))) (do_of (de_op od_mul (do_of de_int) (ov 5))))) (do_of (de_op od_mul (do_of de_int) (ov 3))))) (do_of de_int))))) (do_of de_int)))) (dss_one (ds_ret (de_op od_mod (do_of (de_t1 cd_int (by rfl) Bn.n_int (by decide +kernel) (do_of (de_op od_fdiv (do_of (de_op od_mod (do_of (de_t1 cd_int (by rfl) Bn.n_int (by decide +kernel) (do_of (de_op od_mul (ov 5) (do_of (de_op od_add (ov 5) (do_of de_int))))))) (do_of de_int))) (do_of de_int))))) (ov 1))))))))))))
/-! _law_pick -/
abbrev s__law_pick : Stmt := topS 20
abbrev N__law_pick : List Str := ["_law_pen_here", "_law_options"]
theorem sc__law_pick : FnScope N__law_pick ["_law_pen_here", "_law_options"] (defScope s__law_pick) := ⟨rfl, rfl, rfl, by decide +kernel, rfl, by decide +kernel, by decide +kernel⟩
def fb__law_pick (F__law_draw : FD) : FS := (fRet (f2 gIx (fVar 1) (oE (fCall F__law_draw (fACons (fVar 0) (fACons (oE (f1 gLen (fVar 1))) fANil))))))
theorem cal__law_pick (D : Dfn K mg "_law_pick" s__law_pick ["_law_pen_here", "_law_options"]) (Bn : Bn mg) {F__law_draw : FD} (C__law_draw : Cal P w K mg base "_law_draw" ["_law_pen_here", "_law_many"] 1 F__law_draw) : Cal P w K mg base "_law_pick" ["_law_pen_here", "_law_options"] 2 (fDef 2 (fb__law_pick F__law_draw)) := by
  refine cal_mk D sc__law_pick fun X f hX hr hgd => ?_
  obtain ⟨cdv, A, outer, s, H, E, rfl⟩ := hX
  have hnd := sc__law_pick.nd
  have hu1 := hu_of hr
  have hu64 := hr.units
  have hu65 := hu65 hr
  exact (dss_one (ds_ret (de_ix (ov 1) (do_of (de_cal C__law_draw hr hgd (by decide) (by rfl) (da_cons (ov 0) (da_cons (do_of (de_b1 cd_len (by rfl) Bn.n_len (by decide +kernel) (ov 1))) da_nil)) (by rfl) (acons_len (acons_len anil_len)))))))
/-! _law_any_value -/
abbrev s__law_any_value : Stmt := topS 21
abbrev N__law_any_value : List Str := ["_law_pen_here", "_law_some"]
theorem sc__law_any_value : FnScope N__law_any_value ["_law_pen_here"] (defScope s__law_any_value) := ⟨rfl, rfl, rfl, by decide +kernel, rfl, by decide +kernel, by decide +kernel⟩
def fb__law_any_value (F__law_pick : FD) : FS := (fSeq (fSet 1 (gE (fFz (fLstF (fACons (oE (fC .none)) (fACons (oE (fC (.bool true))) (fACons (oE (fC (.bool false))) (fACons (oE (fC (.int 0))) (fACons (oE (fC (.int 1))) (fACons (oE (f1 gNeg (oE (fC (.int 1))))) (fACons (oE (fC (.int 7))) (fACons (oE (f2 gPow (oE (fC (.int 10))) (oE (fC (.int 40))))) (fACons (oE (fC (.str ""))) (fACons (oE (fC (.str "a"))) (fACons (oE (fC (.str "main"))) (fACons (oE (fTup fANil)) (fACons (oE (fTup (fACons (oE (fC (.str "a"))) fANil))) (fACons (oE (fTup (fACons (oE (fC (.str "main"))) (fACons (oE (fC (.str "entry"))) (fACons (oE (fC (.int 0))) fANil))))) (fACons (oE (fFz (fLstF fANil))) (fACons (oE (fFz (fLstF (fACons (oE (fC (.str "x"))) (fACons (oE (fC (.int 1))) fANil))))) fANil)))))))))))))))))))) (fRet (fCall F__law_pick (fACons (fVar 0) (fACons (oE (f2 gAdd (fVar 1) (oE (fFz (fLstF (fACons (oE (fFz fNilD)) (fACons (oE (fFz (fDct (fPCons (fC (.str "a")) (fC (.int 1)) fPNil)))) (fACons (oE (fTup (fACons (oE (fC .none)) (fACons (oE (fTup (fACons (oE (fC (.str "form"))) fANil))) fANil)))) (fACons (oE (fFz (fLstF (fACons (oE (fTup (fACons (oE (fC (.str "num"))) (fACons (oE (fC (.str "r"))) (fACons (oE (fC (.int 1))) fANil))))) fANil)))) fANil))))))))) fANil)))))
theorem cal__law_any_value (D : Dfn K mg "_law_any_value" s__law_any_value ["_law_pen_here"]) (Bn : Bn mg) {F__law_pick : FD} (C__law_pick : Cal P w K mg base "_law_pick" ["_law_pen_here", "_law_options"] 2 F__law_pick) : Cal P w K mg base "_law_any_value" ["_law_pen_here"] 3 (fDef 2 (fb__law_any_value F__law_pick)) := by
  refine cal_mk D sc__law_any_value fun X f hX hr hgd => ?_
  obtain ⟨cdv, A, outer, s, H, E, rfl⟩ := hX
  have hnd := sc__law_any_value.nd
  have hu1 := hu_of hr
  have hu64 := hr.units
  have hu65 := hu65 hr
  exact (dss_cons (ds_set hnd (by rfl) (by first | exact .inl rfl | exact .inr rfl) (dg_e (de_fz (df_lst (da_cons (do_of de_non) (da_cons (do_of de_bl) (da_cons (do_of de_bl) (da_cons (do_of de_int) (da_cons (do_of de_int) (da_cons (do_of (de_neg (do_of de_int))) (da_cons (do_of de_int) (da_cons (do_of (de_op od_pow (do_of de_int) (do_of de_int))) (da_cons (do_of de_str) (da_cons (do_of de_str) (da_cons (do_of de_str) (da_cons (do_of (de_tup da_nil)) (da_cons (do_of (de_tup (da_cons (do_of de_str) da_nil))) (da_cons (do_of (de_tup (da_cons (do_of de_str) (da_cons (do_of de_str) (da_cons (do_of de_int) da_nil))))) (da_cons (do_of (de_fz (df_lst da_nil))) (da_cons (do_of (de_fz (df_lst (da_cons (do_of de_str) (da_cons (do_of de_int) da_nil))))) da_nil)))))))))))))))))))) (dss_one (ds_ret (de_cal C__law_pick hr hgd (by decide) (by rfl) (da_cons (ov 0) (da_cons (do_of (de_op od_add (ov 1) (do_of (de_fz (df_lst (da_cons (do_of (de_fz df_nild)) (da_cons (do_of (de_fz (df_dct (dps_cons de_str de_int dps_nil)))) (da_cons (do_of (de_tup (da_cons (do_of de_non) (da_cons (do_of (de_tup (da_cons (do_of de_str) da_nil))) da_nil)))) (da_cons (do_of (de_fz (df_lst (da_cons (do_of (de_tup (da_cons (do_of de_str) (da_cons (do_of de_str) (da_cons (do_of de_int) da_nil))))) da_nil)))) da_nil))))))))) da_nil)) (by rfl) (acons_len (acons_len anil_len))))))
/-! _law_fields -/
abbrev s__law_fields : Stmt := topS 22
abbrev N__law_fields : List Str := ["_law_thing", "_law_other", "_law_found"]
theorem sc__law_fields : FnScope N__law_fields ["_law_thing", "_law_other"] (defScope s__law_fields) := ⟨rfl, rfl, rfl, by decide +kernel, rfl, by decide +kernel, by decide +kernel⟩
def fb__law_fields (c : Nat → Nat) : FS := (fSeq (fSet 2 (gE (fFz (fLstF (fACons (oE (f1 (gFld (c 0) "reason") (oE (fMk (c 0) ["reason"] (fACons (fVar 0) fANil))))) (fACons (oE (f1 (gFld (c 0) "reason") (oE (fMk (c 0) ["reason"] (fACons (fVar 0) fANil))))) fANil)))))) (fSeq (fSet 2 (gE (f2 gAdd (fVar 2) (oE (fFz (fLstF (fACons (oE (f1 (gFld (c 1) "value") (oE (fMk (c 1) ["value"] (fACons (fVar 0) fANil))))) (fACons (oE (f1 (gFld (c 1) "value") (oE (fMk (c 1) ["value"] (fACons (fVar 0) fANil))))) fANil)))))))) (fSeq (fSet 2 (gE (f2 gAdd (fVar 2) (oE (fFz (fLstF (fACons (oE (f1 (gFld (c 2) "value") (oE (fMk (c 2) ["value"] (fACons (fVar 0) fANil))))) (fACons (oE (f1 (gFld (c 2) "value") (oE (fMk (c 2) ["value"] (fACons (fVar 0) fANil))))) fANil)))))))) (fSeq (fSet 2 (gE (f2 gAdd (fVar 2) (oE (fFz (fLstF (fACons (oE (f1 (gFld (c 3) "value") (oE (fMk (c 3) ["value"] (fACons (fVar 0) fANil))))) (fACons (oE (f1 (gFld (c 3) "value") (oE (fMk (c 3) ["value"] (fACons (fVar 0) fANil))))) fANil)))))))) (fSeq (fSet 2 (gE (f2 gAdd (fVar 2) (oE (fFz (fLstF (fACons (oE (f1 (gFld (c 4) "value") (oE (fMk (c 4) ["value"] (fACons (fVar 0) fANil))))) (fACons (oE (f1 (gFld (c 4) "value") (oE (fMk (c 4) ["value"] (fACons (fVar 0) fANil))))) fANil)))))))) (fSeq (fSet 2 (gE (f2 gAdd (fVar 2) (oE (fFz (fLstF (fACons (oE (f1 (gFld (c 5) "value") (oE (fMk (c 5) ["value"] (fACons (fVar 0) fANil))))) (fACons (oE (f1 (gFld (c 5) "value") (oE (fMk (c 5) ["value"] (fACons (fVar 0) fANil))))) fANil)))))))) (fSeq (fSet 2 (gE (f2 gAdd (fVar 2) (oE (fFz (fLstF (fACons (oE (f1 (gFld (c 6) "index") (oE (fMk (c 6) ["index"] (fACons (fVar 0) fANil))))) (fACons (oE (f1 (gFld (c 6) "index") (oE (fMk (c 6) ["index"] (fACons (fVar 0) fANil))))) fANil)))))))) (fSeq (fSet 2 (gE (f2 gAdd (fVar 2) (oE (fFz (fLstF (fACons (oE (f1 (gFld (c 7) "value") (oE (fMk (c 7) ["value"] (fACons (fVar 0) fANil))))) (fACons (oE (f1 (gFld (c 7) "value") (oE (fMk (c 7) ["value"] (fACons (fVar 0) fANil))))) fANil)))))))) (fSeq (fSet 2 (gE (f2 gAdd (fVar 2) (oE (fFz (fLstF (fACons (oE (f1 (gFld (c 8) "line") (oE (fMk (c 8) ["line", "word"] (fACons (fVar 0) (fACons (fVar 1) fANil)))))) (fACons (oE (f1 (gFld (c 8) "line") (oE (fMkR (c 8) ["line", "word"] (fACons (fVar 1) (fACons (fVar 0) fANil)))))) fANil)))))))) (fSeq (fSet 2 (gE (f2 gAdd (fVar 2) (oE (fFz (fLstF (fACons (oE (f1 (gFld (c 8) "word") (oE (fMk (c 8) ["line", "word"] (fACons (fVar 1) (fACons (fVar 0) fANil)))))) (fACons (oE (f1 (gFld (c 8) "word") (oE (fMk (c 8) ["line", "word"] (fACons (fVar 1) (fACons (fVar 0) fANil)))))) fANil)))))))) (fSeq (fSet 2 (gE (f2 gAdd (fVar 2) (oE (fFz (fLstF (fACons (oE (f1 (gFld (c 10) "value") (oE (fMk (c 10) ["value"] (fACons (fVar 0) fANil))))) (fACons (oE (f1 (gFld (c 10) "value") (oE (fMk (c 10) ["value"] (fACons (fVar 0) fANil))))) fANil)))))))) (fSeq (fSet 2 (gE (f2 gAdd (fVar 2) (oE (fFz (fLstF (fACons (oE (f1 (gFld (c 11) "value") (oE (fMk (c 11) ["value"] (fACons (fVar 0) fANil))))) (fACons (oE (f1 (gFld (c 11) "value") (oE (fMk (c 11) ["value"] (fACons (fVar 0) fANil))))) fANil)))))))) (fSeq (fSet 2 (gE (f2 gAdd (fVar 2) (oE (fFz (fLstF (fACons (oE (f1 (gFld (c 12) "place") (oE (fMk (c 12) ["place"] (fACons (fVar 0) fANil))))) (fACons (oE (f1 (gFld (c 12) "place") (oE (fMk (c 12) ["place"] (fACons (fVar 0) fANil))))) fANil)))))))) (fRet (f2 gAdd (fVar 2) (oE (fFz (fLstF (fACons (oE (f1 (gFld (c 13) "index") (oE (fMk (c 13) ["index"] (fACons (fVar 0) fANil))))) (fACons (oE (f1 (gFld (c 13) "index") (oE (fMk (c 13) ["index"] (fACons (fVar 0) fANil))))) fANil))))))))))))))))))))
theorem cal__law_fields {c : Nat → Nat} (W : Wd P w K mg base c) (D : Dfn K mg "_law_fields" s__law_fields ["_law_thing", "_law_other"]) (Bn : Bn mg) : Cal P w K mg base "_law_fields" ["_law_thing", "_law_other"] 3 (fDef 3 (fb__law_fields c)) := by
  refine cal_mk D sc__law_fields fun X f hX hr hgd => ?_
  obtain ⟨cdv, A, outer, s, H, E, rfl⟩ := hX
  have hnd := sc__law_fields.nd
  have hu1 := hu_of hr
  have hu64 := hr.units
  have hu65 := hu65 hr
  exact (dss_cons (ds_set hnd (by rfl) (by first | exact .inl rfl | exact .inr rfl) (dg_e (de_fz (df_lst (da_cons (do_of (de_fld (W.a 0 (by decide)) W.f_InvalidModule_reason (do_of (de_mkx W.x_InvalidModule (hr.mono (by decide)) (by decide) (by rfl) (da_cons (ov 0) da_nil))))) (da_cons (do_of (de_fld (W.a 0 (by decide)) W.f_InvalidModule_reason (do_of (de_mkxK W.x_InvalidModule (hr.mono (by decide)) (by rfl) (dk_cons (ov 0) dk_nil))))) da_nil)))))) (dss_cons (ds_set hnd (by rfl) (by first | exact .inl rfl | exact .inr rfl) (dg_e (de_op od_add (ov 2) (do_of (de_fz (df_lst (da_cons (do_of (de_fld (W.a 1 (by decide)) W.f_InvalidInputs_value (do_of (de_mkx W.x_InvalidInputs (hr.mono (by decide)) (by decide) (by rfl) (da_cons (ov 0) da_nil))))) (da_cons (do_of (de_fld (W.a 1 (by decide)) W.f_InvalidInputs_value (do_of (de_mkxK W.x_InvalidInputs (hr.mono (by decide)) (by rfl) (dk_cons (ov 0) dk_nil))))) da_nil)))))))) (dss_cons (ds_set hnd (by rfl) (by first | exact .inl rfl | exact .inr rfl) (dg_e (de_op od_add (ov 2) (do_of (de_fz (df_lst (da_cons (do_of (de_fld (W.a 2 (by decide)) W.f_InvalidNumber_value (do_of (de_mkx W.x_InvalidNumber (hr.mono (by decide)) (by decide) (by rfl) (da_cons (ov 0) da_nil))))) (da_cons (do_of (de_fld (W.a 2 (by decide)) W.f_InvalidNumber_value (do_of (de_mkxK W.x_InvalidNumber (hr.mono (by decide)) (by rfl) (dk_cons (ov 0) dk_nil))))) da_nil)))))))) (dss_cons (ds_set hnd (by rfl) (by first | exact .inl rfl | exact .inr rfl) (dg_e (de_op od_add (ov 2) (do_of (de_fz (df_lst (da_cons (do_of (de_fld (W.a 3 (by decide)) W.f_InvalidThings_value (do_of (de_mkx W.x_InvalidThings (hr.mono (by decide)) (by decide) (by rfl) (da_cons (ov 0) da_nil))))) (da_cons (do_of (de_fld (W.a 3 (by decide)) W.f_InvalidThings_value (do_of (de_mkxK W.x_InvalidThings (hr.mono (by decide)) (by rfl) (dk_cons (ov 0) dk_nil))))) da_nil)))))))) (dss_cons (ds_set hnd (by rfl) (by first | exact .inl rfl | exact .inr rfl) (dg_e (de_op od_add (ov 2) (do_of (de_fz (df_lst (da_cons (do_of (de_fld (W.a 4 (by decide)) W.f_InvalidView_value (do_of (de_mkx W.x_InvalidView (hr.mono (by decide)) (by decide) (by rfl) (da_cons (ov 0) da_nil))))) (da_cons (do_of (de_fld (W.a 4 (by decide)) W.f_InvalidView_value (do_of (de_mkxK W.x_InvalidView (hr.mono (by decide)) (by rfl) (dk_cons (ov 0) dk_nil))))) da_nil)))))))) (dss_cons (ds_set hnd (by rfl) (by first | exact .inl rfl | exact .inr rfl) (dg_e (de_op od_add (ov 2) (do_of (de_fz (df_lst (da_cons (do_of (de_fld (W.a 5 (by decide)) W.f_InvalidStep_value (do_of (de_mkx W.x_InvalidStep (hr.mono (by decide)) (by decide) (by rfl) (da_cons (ov 0) da_nil))))) (da_cons (do_of (de_fld (W.a 5 (by decide)) W.f_InvalidStep_value (do_of (de_mkxK W.x_InvalidStep (hr.mono (by decide)) (by rfl) (dk_cons (ov 0) dk_nil))))) da_nil)))))))) (dss_cons (ds_set hnd (by rfl) (by first | exact .inl rfl | exact .inr rfl) (dg_e (de_op od_add (ov 2) (do_of (de_fz (df_lst (da_cons (do_of (de_fld (W.a 6 (by decide)) W.f_InvalidEdit_index (do_of (de_mkx W.x_InvalidEdit (hr.mono (by decide)) (by decide) (by rfl) (da_cons (ov 0) da_nil))))) (da_cons (do_of (de_fld (W.a 6 (by decide)) W.f_InvalidEdit_index (do_of (de_mkxK W.x_InvalidEdit (hr.mono (by decide)) (by rfl) (dk_cons (ov 0) dk_nil))))) da_nil)))))))) (dss_cons (ds_set hnd (by rfl) (by first | exact .inl rfl | exact .inr rfl) (dg_e (de_op od_add (ov 2) (do_of (de_fz (df_lst (da_cons (do_of (de_fld (W.a 7 (by decide)) W.f_InvalidRow_value (do_of (de_mkx W.x_InvalidRow (hr.mono (by decide)) (by decide) (by rfl) (da_cons (ov 0) da_nil))))) (da_cons (do_of (de_fld (W.a 7 (by decide)) W.f_InvalidRow_value (do_of (de_mkxK W.x_InvalidRow (hr.mono (by decide)) (by rfl) (dk_cons (ov 0) dk_nil))))) da_nil)))))))) (dss_cons (ds_set hnd (by rfl) (by first | exact .inl rfl | exact .inr rfl) (dg_e (de_op od_add (ov 2) (do_of (de_fz (df_lst (da_cons (do_of (de_fld (W.a 8 (by decide)) W.f_ParseError_line (do_of (de_mkx W.x_ParseError (hr.mono (by decide)) (by decide) (by rfl) (da_cons (ov 0) (da_cons (ov 1) da_nil)))))) (da_cons (do_of (de_fld (W.a 8 (by decide)) W.f_ParseError_line (do_of (de_mkxR W.x_ParseError (hr.mono (by decide)) (by rfl) (dk_cons (ov 1) (dk_cons (ov 0) dk_nil)))))) da_nil)))))))) (dss_cons (ds_set hnd (by rfl) (by first | exact .inl rfl | exact .inr rfl) (dg_e (de_op od_add (ov 2) (do_of (de_fz (df_lst (da_cons (do_of (de_fld (W.a 8 (by decide)) W.f_ParseError_word (do_of (de_mkx W.x_ParseError (hr.mono (by decide)) (by decide) (by rfl) (da_cons (ov 1) (da_cons (ov 0) da_nil)))))) (da_cons (do_of (de_fld (W.a 8 (by decide)) W.f_ParseError_word (do_of (de_mkxK W.x_ParseError (hr.mono (by decide)) (by rfl) (dk_cons (ov 1) (dk_cons (ov 0) dk_nil)))))) da_nil)))))))) (dss_cons (ds_set hnd (by rfl) (by first | exact .inl rfl | exact .inr rfl) (dg_e (de_op od_add (ov 2) (do_of (de_fz (df_lst (da_cons (do_of (de_fld (W.a 10 (by decide)) W.f_UnknownName_value (do_of (de_mkx W.x_UnknownName (hr.mono (by decide)) (by decide) (by rfl) (da_cons (ov 0) da_nil))))) (da_cons (do_of (de_fld (W.a 10 (by decide)) W.f_UnknownName_value (do_of (de_mkxK W.x_UnknownName (hr.mono (by decide)) (by rfl) (dk_cons (ov 0) dk_nil))))) da_nil)))))))) (dss_cons (ds_set hnd (by rfl) (by first | exact .inl rfl | exact .inr rfl) (dg_e (de_op od_add (ov 2) (do_of (de_fz (df_lst (da_cons (do_of (de_fld (W.a 11 (by decide)) W.f_UnknownPlace_value (do_of (de_mkx W.x_UnknownPlace (hr.mono (by decide)) (by decide) (by rfl) (da_cons (ov 0) da_nil))))) (da_cons (do_of (de_fld (W.a 11 (by decide)) W.f_UnknownPlace_value (do_of (de_mkxK W.x_UnknownPlace (hr.mono (by decide)) (by rfl) (dk_cons (ov 0) dk_nil))))) da_nil)))))))) (dss_cons (ds_set hnd (by rfl) (by first | exact .inl rfl | exact .inr rfl) (dg_e (de_op od_add (ov 2) (do_of (de_fz (df_lst (da_cons (do_of (de_fld (W.a 12 (by decide)) W.f_WrongPlace_place (do_of (de_mkx W.x_WrongPlace (hr.mono (by decide)) (by decide) (by rfl) (da_cons (ov 0) da_nil))))) (da_cons (do_of (de_fld (W.a 12 (by decide)) W.f_WrongPlace_place (do_of (de_mkxK W.x_WrongPlace (hr.mono (by decide)) (by rfl) (dk_cons (ov 0) dk_nil))))) da_nil)))))))) (dss_one (ds_ret (de_op od_add (ov 2) (do_of (de_fz (df_lst (da_cons (do_of (de_fld (W.a 13 (by decide)) W.f_Broken_index (do_of (de_mkx W.x_Broken (hr.mono (by decide)) (by decide) (by rfl) (da_cons (ov 0) da_nil))))) (da_cons (do_of (de_fld (W.a 13 (by decide)) W.f_Broken_index (do_of (de_mkxK W.x_Broken (hr.mono (by decide)) (by rfl) (dk_cons (ov 0) dk_nil))))) da_nil)))))))))))))))))))))
/-! _law_all_errors -/
abbrev s__law_all_errors : Stmt := topS 23
abbrev N__law_all_errors : List Str := ["_law_thing", "_law_found"]
theorem sc__law_all_errors : FnScope N__law_all_errors ["_law_thing"] (defScope s__law_all_errors) := ⟨rfl, rfl, rfl, by decide +kernel, rfl, by decide +kernel, by decide +kernel⟩
def fb__law_all_errors (c : Nat → Nat) : FS := (fSeq (fSet 1 (gE (fFz (fLstF (fACons (oE (fMk (c 0) ["reason"] (fACons (fVar 0) fANil))) (fACons (oE (fMk (c 1) ["value"] (fACons (fVar 0) fANil))) (fACons (oE (fMk (c 2) ["value"] (fACons (fVar 0) fANil))) (fACons (oE (fMk (c 3) ["value"] (fACons (fVar 0) fANil))) (fACons (oE (fMk (c 4) ["value"] (fACons (fVar 0) fANil))) fANil))))))))) (fSeq (fSet 1 (gE (f2 gAdd (fVar 1) (oE (fFz (fLstF (fACons (oE (fMk (c 5) ["value"] (fACons (fVar 0) fANil))) (fACons (oE (fMk (c 6) ["index"] (fACons (fVar 0) fANil))) (fACons (oE (fMk (c 7) ["value"] (fACons (fVar 0) fANil))) (fACons (oE (fMk (c 8) ["line", "word"] (fACons (fVar 0) (fACons (oE (fC (.int 0))) fANil)))) (fACons (oE (fC (excD (c 9) [] []))) fANil))))))))))) (fRet (f2 gAdd (fVar 1) (oE (fFz (fLstF (fACons (oE (fMk (c 10) ["value"] (fACons (fVar 0) fANil))) (fACons (oE (fMk (c 11) ["value"] (fACons (fVar 0) fANil))) (fACons (oE (fMk (c 12) ["place"] (fACons (fVar 0) fANil))) (fACons (oE (fMk (c 13) ["index"] (fACons (fVar 0) fANil))) fANil)))))))))))
theorem cal__law_all_errors {c : Nat → Nat} (W : Wd P w K mg base c) (D : Dfn K mg "_law_all_errors" s__law_all_errors ["_law_thing"]) (Bn : Bn mg) : Cal P w K mg base "_law_all_errors" ["_law_thing"] 3 (fDef 2 (fb__law_all_errors c)) := by
  refine cal_mk D sc__law_all_errors fun X f hX hr hgd => ?_
  obtain ⟨cdv, A, outer, s, H, E, rfl⟩ := hX
  have hnd := sc__law_all_errors.nd
  have hu1 := hu_of hr
  have hu64 := hr.units
  have hu65 := hu65 hr
  exact (dss_cons (ds_set hnd (by rfl) (by first | exact .inl rfl | exact .inr rfl) (dg_e (de_fz (df_lst (da_cons (do_of (de_mkx W.x_InvalidModule (hr.mono (by decide)) (by decide) (by rfl) (da_cons (ov 0) da_nil))) (da_cons (do_of (de_mkx W.x_InvalidInputs (hr.mono (by decide)) (by decide) (by rfl) (da_cons (ov 0) da_nil))) (da_cons (do_of (de_mkx W.x_InvalidNumber (hr.mono (by decide)) (by decide) (by rfl) (da_cons (ov 0) da_nil))) (da_cons (do_of (de_mkx W.x_InvalidThings (hr.mono (by decide)) (by decide) (by rfl) (da_cons (ov 0) da_nil))) (da_cons (do_of (de_mkx W.x_InvalidView (hr.mono (by decide)) (by decide) (by rfl) (da_cons (ov 0) da_nil))) da_nil))))))))) (dss_cons (ds_set hnd (by rfl) (by first | exact .inl rfl | exact .inr rfl) (dg_e (de_op od_add (ov 1) (do_of (de_fz (df_lst (da_cons (do_of (de_mkx W.x_InvalidStep (hr.mono (by decide)) (by decide) (by rfl) (da_cons (ov 0) da_nil))) (da_cons (do_of (de_mkx W.x_InvalidEdit (hr.mono (by decide)) (by decide) (by rfl) (da_cons (ov 0) da_nil))) (da_cons (do_of (de_mkx W.x_InvalidRow (hr.mono (by decide)) (by decide) (by rfl) (da_cons (ov 0) da_nil))) (da_cons (do_of (de_mkx W.x_ParseError (hr.mono (by decide)) (by decide) (by rfl) (da_cons (ov 0) (da_cons (do_of de_int) da_nil)))) (da_cons (do_of (de_mkx0 W.x_WrongInputs (hr.mono (by decide)) (by rfl))) da_nil))))))))))) (dss_one (ds_ret (de_op od_add (ov 1) (do_of (de_fz (df_lst (da_cons (do_of (de_mkx W.x_UnknownName (hr.mono (by decide)) (by decide) (by rfl) (da_cons (ov 0) da_nil))) (da_cons (do_of (de_mkx W.x_UnknownPlace (hr.mono (by decide)) (by decide) (by rfl) (da_cons (ov 0) da_nil))) (da_cons (do_of (de_mkx W.x_WrongPlace (hr.mono (by decide)) (by decide) (by rfl) (da_cons (ov 0) da_nil))) (da_cons (do_of (de_mkx W.x_Broken (hr.mono (by decide)) (by decide) (by rfl) (da_cons (ov 0) da_nil))) da_nil))))))))))))
/-! _law_classes -/
abbrev s__law_classes : Stmt := topS 24
abbrev N__law_classes : List Str := ["_law_own", "_law_found"]
theorem sc__law_classes : FnScope N__law_classes ["_law_own"] (defScope s__law_classes) := ⟨rfl, rfl, rfl, by decide +kernel, rfl, by decide +kernel, by decide +kernel⟩
def fb__law_classes (c : Nat → Nat) : FS := (fSeq (fSet 1 (gE (fFz (fLstF (fACons (oE (f1 (tabB (tabG 14 c fun k => k == 0)) (fVar 0))) (fACons (oE (f1 (tabB (tabG 14 c fun k => k == 1)) (fVar 0))) (fACons (oE (f1 (tabB (tabG 14 c fun k => k == 2)) (fVar 0))) fANil))))))) (fSeq (fSet 1 (gE (f2 gAdd (fVar 1) (oE (fFz (fLstF (fACons (oE (f1 (tabB (tabG 14 c fun k => k == 3)) (fVar 0))) (fACons (oE (f1 (tabB (tabG 14 c fun k => k == 4)) (fVar 0))) (fACons (oE (f1 (tabB (tabG 14 c fun k => k == 5)) (fVar 0))) fANil))))))))) (fSeq (fSet 1 (gE (f2 gAdd (fVar 1) (oE (fFz (fLstF (fACons (oE (f1 (tabB (tabG 14 c fun k => k == 6)) (fVar 0))) (fACons (oE (f1 (tabB (tabG 14 c fun k => k == 7)) (fVar 0))) (fACons (oE (f1 (tabB (tabG 14 c fun k => k == 8)) (fVar 0))) fANil))))))))) (fSeq (fSet 1 (gE (f2 gAdd (fVar 1) (oE (fFz (fLstF (fACons (oE (f1 (tabB (tabG 14 c fun k => k == 9)) (fVar 0))) (fACons (oE (f1 (tabB (tabG 14 c fun k => k == 10)) (fVar 0))) (fACons (oE (f1 (tabB (tabG 14 c fun k => k == 11)) (fVar 0))) fANil))))))))) (fRet (f2 gAdd (fVar 1) (oE (fFz (fLstF (fACons (oE (f1 (tabB (tabG 14 c fun k => k == 12)) (fVar 0))) (fACons (oE (f1 (tabB (tabG 14 c fun k => k == 13)) (fVar 0))) fANil)))))))))))
theorem cal__law_classes {c : Nat → Nat} (W : Wd P w K mg base c) (D : Dfn K mg "_law_classes" s__law_classes ["_law_own"]) (Bn : Bn mg) : Cal P w K mg base "_law_classes" ["_law_own"] 1 (fDef 2 (fb__law_classes c)) := by
  refine cal_mk D sc__law_classes fun X f hX hr hgd => ?_
  obtain ⟨cdv, A, outer, s, H, E, rfl⟩ := hX
  have hnd := sc__law_classes.nd
  have hu1 := hu_of hr
  have hu64 := hr.units
  have hu65 := hu65 hr
  exact (dss_cons (ds_set hnd (by rfl) (by first | exact .inl rfl | exact .inr rfl) (dg_e (de_fz (df_lst (da_cons (do_of (de_isO W.a (W.kk 0 (by decide)) (by rfl) Bn.n_isinstance (by rfl) W.x_InvalidModule.hm (ov 0))) (da_cons (do_of (de_isO W.a (W.kk 1 (by decide)) (by rfl) Bn.n_isinstance (by rfl) W.x_InvalidInputs.hm (ov 0))) (da_cons (do_of (de_isO W.a (W.kk 2 (by decide)) (by rfl) Bn.n_isinstance (by rfl) W.x_InvalidNumber.hm (ov 0))) da_nil))))))) (dss_cons (ds_set hnd (by rfl) (by first | exact .inl rfl | exact .inr rfl) (dg_e (de_op od_add (ov 1) (do_of (de_fz (df_lst (da_cons (do_of (de_isO W.a (W.kk 3 (by decide)) (by rfl) Bn.n_isinstance (by rfl) W.x_InvalidThings.hm (ov 0))) (da_cons (do_of (de_isO W.a (W.kk 4 (by decide)) (by rfl) Bn.n_isinstance (by rfl) W.x_InvalidView.hm (ov 0))) (da_cons (do_of (de_isO W.a (W.kk 5 (by decide)) (by rfl) Bn.n_isinstance (by rfl) W.x_InvalidStep.hm (ov 0))) da_nil))))))))) (dss_cons (ds_set hnd (by rfl) (by first | exact .inl rfl | exact .inr rfl) (dg_e (de_op od_add (ov 1) (do_of (de_fz (df_lst (da_cons (do_of (de_isO W.a (W.kk 6 (by decide)) (by rfl) Bn.n_isinstance (by rfl) W.x_InvalidEdit.hm (ov 0))) (da_cons (do_of (de_isO W.a (W.kk 7 (by decide)) (by rfl) Bn.n_isinstance (by rfl) W.x_InvalidRow.hm (ov 0))) (da_cons (do_of (de_isO W.a (W.kk 8 (by decide)) (by rfl) Bn.n_isinstance (by rfl) W.x_ParseError.hm (ov 0))) da_nil))))))))) (dss_cons (ds_set hnd (by rfl) (by first | exact .inl rfl | exact .inr rfl) (dg_e (de_op od_add (ov 1) (do_of (de_fz (df_lst (da_cons (do_of (de_isO W.a (W.kk 9 (by decide)) (by rfl) Bn.n_isinstance (by rfl) W.x_WrongInputs.hm (ov 0))) (da_cons (do_of (de_isO W.a (W.kk 10 (by decide)) (by rfl) Bn.n_isinstance (by rfl) W.x_UnknownName.hm (ov 0))) (da_cons (do_of (de_isO W.a (W.kk 11 (by decide)) (by rfl) Bn.n_isinstance (by rfl) W.x_UnknownPlace.hm (ov 0))) da_nil))))))))) (dss_one (ds_ret (de_op od_add (ov 1) (do_of (de_fz (df_lst (da_cons (do_of (de_isO W.a (W.kk 12 (by decide)) (by rfl) Bn.n_isinstance (by rfl) W.x_WrongPlace.hm (ov 0))) (da_cons (do_of (de_isO W.a (W.kk 13 (by decide)) (by rfl) Bn.n_isinstance (by rfl) W.x_Broken.hm (ov 0))) da_nil))))))))))))
/-! _law_wide_ones -/
abbrev s__law_wide_ones : Stmt := topS 25
abbrev N__law_wide_ones : List Str := ["_law_own", "_law_found"]
theorem sc__law_wide_ones : FnScope N__law_wide_ones ["_law_own"] (defScope s__law_wide_ones) := ⟨rfl, rfl, rfl, by decide +kernel, rfl, by decide +kernel, by decide +kernel⟩
def fb__law_wide_ones (c : Nat → Nat) : FS := (fSeq (fSet 1 (gE (fFz (fLstF (fACons (oE (f1 (tabB (tabG 14 c wd_ValueError)) (fVar 0))) (fACons (oE (f1 (tabB (tabG 14 c wd_KeyError)) (fVar 0))) (fACons (oE (f1 (tabB (tabG 14 c wd_LookupError)) (fVar 0))) fANil))))))) (fRet (f2 gAdd (fVar 1) (oE (fFz (fLstF (fACons (oE (f1 (tabB (tabG 14 c wd_RuntimeError)) (fVar 0))) fANil)))))))
theorem cal__law_wide_ones {c : Nat → Nat} (W : Wd P w K mg base c) (D : Dfn K mg "_law_wide_ones" s__law_wide_ones ["_law_own"]) (Bn : Bn mg) : Cal P w K mg base "_law_wide_ones" ["_law_own"] 1 (fDef 2 (fb__law_wide_ones c)) := by
  refine cal_mk D sc__law_wide_ones fun X f hX hr hgd => ?_
  obtain ⟨cdv, A, outer, s, H, E, rfl⟩ := hX
  have hnd := sc__law_wide_ones.nd
  have hu1 := hu_of hr
  have hu64 := hr.units
  have hu65 := hu65 hr
  exact (dss_cons (ds_set hnd (by rfl) (by first | exact .inl rfl | exact .inr rfl) (dg_e (de_fz (df_lst (da_cons (do_of (de_isB W.a W.kt_ValueError (by rfl) Bn.n_isinstance (by rfl) Bn.n_ValueError (by decide +kernel) (ov 0))) (da_cons (do_of (de_isB W.a W.kt_KeyError (by rfl) Bn.n_isinstance (by rfl) Bn.n_KeyError (by decide +kernel) (ov 0))) (da_cons (do_of (de_isB W.a W.kt_LookupError (by rfl) Bn.n_isinstance (by rfl) Bn.n_LookupError (by decide +kernel) (ov 0))) da_nil))))))) (dss_one (ds_ret (de_op od_add (ov 1) (do_of (de_fz (df_lst (da_cons (do_of (de_isB W.a W.kt_RuntimeError (by rfl) Bn.n_isinstance (by rfl) Bn.n_RuntimeError (by decide +kernel) (ov 0))) da_nil))))))))
/-! _law_bounds -/
abbrev s__law_bounds : Stmt := topS 26
abbrev N__law_bounds : List Str := ["_law_found"]
theorem sc__law_bounds : FnScope N__law_bounds [] (defScope s__law_bounds) := ⟨rfl, rfl, rfl, by decide +kernel, rfl, by decide +kernel, by decide +kernel⟩
def fb__law_bounds (c : Nat → Nat) : FS := (fSeq (fSet 0 (gE (fFz (fLstF (fACons (oE (fC (.int 8))) (fACons (oE (fC (.int 6))) (fACons (oE (fC (.int 8))) (fACons (oE (fC (.int 4))) (fACons (oE (fC (.int 12))) fANil))))))))) (fSeq (fSet 0 (gE (f2 gAdd (fVar 0) (oE (fFz (fLstF (fACons (oE (fC (.int 6))) (fACons (oE (fC (.int 40))) (fACons (oE (fC (.int 120))) (fACons (oE (fC (.int 60))) fANil)))))))))) (fRet (f2 gAdd (fVar 0) (oE (fFz (fLstF (fACons (oE (fC (.int 20000))) (fACons (oE (fC (.int 40))) fANil)))))))))
theorem cal__law_bounds {c : Nat → Nat} (W : Wd P w K mg base c) (D : Dfn K mg "_law_bounds" s__law_bounds []) (Bn : Bn mg) : Cal P w K mg base "_law_bounds" [] 1 (fDef 1 (fb__law_bounds c)) := by
  refine cal_mk D sc__law_bounds fun X f hX hr hgd => ?_
  obtain ⟨cdv, A, outer, s, H, E, rfl⟩ := hX
  have hnd := sc__law_bounds.nd
  have hu1 := hu_of hr
  have hu64 := hr.units
  have hu65 := hu65 hr
  exact (dss_cons (ds_set hnd (by rfl) (by first | exact .inl rfl | exact .inr rfl) (dg_e (de_fz (df_lst (da_cons (do_of (de_cval (by rfl) W.l_m W.l_r W.l_MOST_KINDS)) (da_cons (do_of (de_cval (by rfl) W.l_m W.l_r W.l_MOST_FIELDS)) (da_cons (do_of (de_cval (by rfl) W.l_m W.l_r W.l_MOST_FUNCTIONS)) (da_cons (do_of (de_cval (by rfl) W.l_m W.l_r W.l_MOST_PARAMETERS)) (da_cons (do_of (de_cval (by rfl) W.l_m W.l_r W.l_MOST_BLOCKS)) da_nil))))))))) (dss_cons (ds_set hnd (by rfl) (by first | exact .inl rfl | exact .inr rfl) (dg_e (de_op od_add (ov 0) (do_of (de_fz (df_lst (da_cons (do_of (de_cval (by rfl) W.l_m W.l_r W.l_MOST_BLOCK_PARAMETERS)) (da_cons (do_of (de_cval (by rfl) W.l_m W.l_r W.l_MOST_INSTRUCTIONS)) (da_cons (do_of (de_cval (by rfl) W.l_m W.l_r W.l_MOST_PLACES)) (da_cons (do_of (de_cval (by rfl) W.l_m W.l_r W.l_MOST_ELEMENTS)) da_nil)))))))))) (dss_one (ds_ret (de_op od_add (ov 0) (do_of (de_fz (df_lst (da_cons (do_of (de_cval (by rfl) W.l_m W.l_r W.l_MOST_STEPS)) (da_cons (do_of (de_cval (by rfl) W.l_m W.l_r W.l_MOST_CALLS)) da_nil))))))))))
/-! law -/
abbrev s_law : Stmt := topS 27
abbrev N_law : List Str := ["_law_script", "_law_pen_here", "_law_plain", "_law_named", "_law_due", "_law_turn", "_law_thing", "_law_other", "_law_some", "_law_k", "_law_own", "_law_at"]
theorem sc_law : FnScope N_law ["_law_script"] (defScope s_law) := ⟨rfl, rfl, rfl, by decide +kernel, rfl, by decide +kernel, by decide +kernel⟩
def fb_law (F__law_pen : FDF) (F__law_any_value : FD) (F__law_fields : FD) (F__law_all_errors : FD) (F__law_classes : FD) (F__law_wide_ones : FD) (F__law_bounds : FD) : FS := (fSeq (fSet 1 (gF (fCallF F__law_pen (fACons (fVar 0) fANil)))) (fSeq (fPar2 2 3 (gE (fFz (fLstF (fACons (oE (fC (.bool true))) (fACons (oE (fC (.bool false))) (fACons (oE (fC (.bool false))) (fACons (oE (fC (.bool false))) fANil))))))) (gE (fFz (fLstF (fACons (oE (fC (.bool false))) (fACons (oE (fC (.bool true))) (fACons (oE (fC (.bool true))) (fACons (oE (fC (.bool false))) fANil)))))))) (fSeq (fSet 4 (gE (f2 gAdd (oE (f2 gMul2 (oE (fFz (fLstF (fACons (fVar 2) fANil)))) (oE (fC (.int 10))))) (oE (fFz (fLstF (fACons (fVar 3) (fACons (fVar 3) (fACons (oE (fFz (fLstF (fACons (oE (fC (.bool false))) (fACons (oE (fC (.bool false))) (fACons (oE (fC (.bool true))) (fACons (oE (fC (.bool false))) fANil))))))) (fACons (oE (fFz (fLstF (fACons (oE (fC (.bool false))) (fACons (oE (fC (.bool false))) (fACons (oE (fC (.bool false))) (fACons (oE (fC (.bool true))) fANil))))))) fANil)))))))))) (fSeq (fFor (iR (oE (fC (.int 3)))) (bName 5) (fSeq (fAsg (fTup (fACons (oE (fCall F__law_any_value (fACons (fVar 1) fANil))) (fACons (oE (fCall F__law_any_value (fACons (fVar 1) fANil))) fANil))) (bTup 2 (bCons (bName 6) (bCons (bName 7) bNil)))) (fSeq (fIfS (fT2 (f2 gNe (oE (fFz (fLc (iQ (fCall F__law_fields (fACons (fVar 6) (fACons (fVar 7) fANil)))) (bName 10) (fT2 (f2 gNe (oE (f1 gRepr (fVar 10))) (oE (f1 gRepr (fVar 6))))) (eO (fVar 10)) [10]))) (oE (fFz (fLstF fANil))))) (fRet (fC (.bool false))) fNil) (fSeq (fSet 8 (gE (fCall F__law_all_errors (fACons (fVar 6) fANil)))) (fSeq (fIfS (fT2 (f2 gNe (oE (fFz (fLc (iQ (eO (fVar 8))) (bName 10) fYes (fCall F__law_wide_ones (fACons (fVar 10) fANil)) [10]))) (fVar 4))) (fRet (fC (.bool false))) fNil) (fFor (iR (oE (f1 gLen (fVar 8)))) (bName 9) (fIfS (fT2 (f2 gNe (oE (fCall F__law_classes (fACons (oE (f2 gIx (fVar 8) (fVar 9))) fANil))) (oE (fFz (fLc (iR (oE (f1 gLen (fVar 8)))) (bName 11) fYes (f2 gEq (fVar 11) (fVar 9)) [11]))))) (fRet (fC (.bool false))) fNil))))))) (fRet (f2 gEq (oE (f1 gRepr (oE (fCall F__law_bounds fANil)))) (oE (f1 gRepr (oE (fFz (fLstF (fACons (oE (fC (.int 8))) (fACons (oE (fC (.int 6))) (fACons (oE (fC (.int 8))) (fACons (oE (fC (.int 4))) (fACons (oE (fC (.int 12))) (fACons (oE (fC (.int 6))) (fACons (oE (fC (.int 40))) (fACons (oE (fC (.int 120))) (fACons (oE (fC (.int 60))) (fACons (oE (fC (.int 20000))) (fACons (oE (fC (.int 40))) fANil))))))))))))))))))))))
theorem cal_law (D : Dfn K mg "law" s_law ["_law_script"]) (Bn : Bn mg) {F__law_pen : FDF} (C__law_pen : CalF P w K mg base "_law_pen" ["_law_script"] 1 F__law_pen) {F__law_any_value : FD} (C__law_any_value : Cal P w K mg base "_law_any_value" ["_law_pen_here"] 3 F__law_any_value) {F__law_fields : FD} (C__law_fields : Cal P w K mg base "_law_fields" ["_law_thing", "_law_other"] 3 F__law_fields) {F__law_all_errors : FD} (C__law_all_errors : Cal P w K mg base "_law_all_errors" ["_law_thing"] 3 F__law_all_errors) {F__law_classes : FD} (C__law_classes : Cal P w K mg base "_law_classes" ["_law_own"] 1 F__law_classes) {F__law_wide_ones : FD} (C__law_wide_ones : Cal P w K mg base "_law_wide_ones" ["_law_own"] 1 F__law_wide_ones) {F__law_bounds : FD} (C__law_bounds : Cal P w K mg base "_law_bounds" [] 1 F__law_bounds) : Cal P w K mg base "law" ["_law_script"] 4 (fDef 12 (fb_law F__law_pen F__law_any_value F__law_fields F__law_all_errors F__law_classes F__law_wide_ones F__law_bounds)) := by
  refine cal_mk D sc_law fun X f hX hr hgd => ?_
  obtain ⟨cdv, A, outer, s, H, E, rfl⟩ := hX
  have hnd := sc_law.nd
  have hu1 := hu_of hr
  have hu64 := hr.units
  have hu65 := hu65 hr
  exact (dss_cons (ds_set hnd (by rfl) (by first | exact .inl rfl | exact .inr rfl) (dg_f (df_cal C__law_pen hr hgd (by decide) (by rfl) (da_cons (ov 0) da_nil) (by rfl) (acons_len anil_len)))) (dss_cons (ds_par2 rfl hnd (by rfl) (by rfl) (by decide) (by rfl) (by rfl) (dg_e (de_fz (df_lst (da_cons (do_of de_bl) (da_cons (do_of de_bl) (da_cons (do_of de_bl) (da_cons (do_of de_bl) da_nil))))))) (dg_e (de_fz (df_lst (da_cons (do_of de_bl) (da_cons (do_of de_bl) (da_cons (do_of de_bl) (da_cons (do_of de_bl) da_nil))))))) (fun h => ps_par rfl hnd (by rfl) (by rfl) (by decide) (by rfl) (by rfl) h (by rfl))) (dss_cons (ds_set hnd (by rfl) (by first | exact .inl rfl | exact .inr rfl) (dg_e (de_op od_add (do_of (de_op od_mul2 (do_of (de_fz (df_lst (da_cons (ov 2) da_nil)))) (do_of de_int))) (do_of (de_fz (df_lst (da_cons (ov 3) (da_cons (ov 3) (da_cons (do_of (de_fz (df_lst (da_cons (do_of de_bl) (da_cons (do_of de_bl) (da_cons (do_of de_bl) (da_cons (do_of de_bl) da_nil))))))) (da_cons (do_of (de_fz (df_lst (da_cons (do_of de_bl) (da_cons (do_of de_bl) (da_cons (do_of de_bl) (da_cons (do_of de_bl) da_nil))))))) da_nil)))))))))) (dss_cons (ds_for PassesOwn.never rfl (di_range (by rfl) Bn.n_range (do_of de_int)) (db_name hnd (by rfl) (by first | exact .inl rfl | exact .inr rfl)) (dss_cons (ds_asg (de_tup (da_cons (do_of (de_cal C__law_any_value hr hgd (by decide) (by rfl) (da_cons (ov 1) da_nil) (by rfl) (acons_len anil_len))) (da_cons (do_of (de_cal C__law_any_value hr hgd (by decide) (by rfl) (da_cons (ov 1) da_nil) (by rfl) (acons_len anil_len))) da_nil))) (db_tup rfl (dbs_cons (db_name hnd (by rfl) (by first | exact .inl rfl | exact .inr rfl)) (dbs_cons (db_name hnd (by rfl) (by first | exact .inl rfl | exact .inr rfl)) dbs_nil)))) (dss_cons (ds_if (dt_cmp (od_ne hu64) (do_of (de_fz (df_lc (own := [("_law_own", 10)]) (js := [10]) rfl hnd (di_seq (de_cal C__law_fields hr hgd (by decide) (by rfl) (da_cons (ov 6) (da_cons (ov 7) da_nil)) (by rfl) (acons_len (acons_len anil_len)))) (blkOk_by (by kernel_rfl)) (fun _ _ _ _ _ => (db_name hnd (by rfl) (by first | exact .inl rfl | exact .inr rfl))) (fun _ _ _ _ _ => (dts_one (dt_cmp (od_ne hu64) (do_of (de_b1 (cd_repr hgd hu64) (by rfl) Bn.n_repr (by decide +kernel) (ov 10))) (do_of (de_b1 (cd_repr hgd hu64) (by rfl) Bn.n_repr (by decide +kernel) (ov 6))) (nomark _)))) (fun _ _ _ _ _ => (de_of (ov 10)))))) (do_of (de_fz (df_lst da_nil))) (nomark _)) (dss_one (ds_ret de_bl)) dss_nil) (dss_cons (ds_set hnd (by rfl) (by first | exact .inl rfl | exact .inr rfl) (dg_e (de_cal C__law_all_errors hr hgd (by decide) (by rfl) (da_cons (ov 6) da_nil) (by rfl) (acons_len anil_len)))) (dss_cons (ds_if (dt_cmp (od_ne hu64) (do_of (de_fz (df_lc (own := [("_law_own", 10)]) (js := [10]) rfl hnd (di_seq (de_of (ov 8))) (blkOk_by (by kernel_rfl)) (fun _ _ _ _ _ => (db_name hnd (by rfl) (by first | exact .inl rfl | exact .inr rfl))) (fun _ _ _ _ _ => dts_nil) (fun _ _ _ _ _ => (de_cal C__law_wide_ones hr hgd (by decide) (by rfl) (da_cons (ov 10) da_nil) (by rfl) (acons_len anil_len)))))) (ov 4) (nomark _)) (dss_one (ds_ret de_bl)) dss_nil) (dss_one (ds_for PassesOwn.never rfl (di_range (by rfl) Bn.n_range (do_of (de_b1 cd_len (by rfl) Bn.n_len (by decide +kernel) (ov 8)))) (db_name hnd (by rfl) (by first | exact .inl rfl | exact .inr rfl)) (dss_one (ds_if (dt_cmp (od_ne hu64) (do_of (de_cal C__law_classes hr hgd (by decide) (by rfl) (da_cons (do_of (de_ix (ov 8) (ov 9))) da_nil) (by rfl) (acons_len anil_len))) (do_of (de_fz (df_lc (own := [("_law_at", 11)]) (js := [11]) rfl hnd (di_range (by rfl) Bn.n_range (do_of (de_b1 cd_len (by rfl) Bn.n_len (by decide +kernel) (ov 8)))) (blkOk_by (by kernel_rfl)) (fun _ _ _ _ _ => (db_name hnd (by rfl) (by first | exact .inl rfl | exact .inr rfl))) (fun _ _ _ _ _ => dts_nil) (fun _ _ _ _ _ => (de_cmp (od_eq hu64) (ov 11) (ov 9) (nomark _)))))) (nomark _)) (dss_one (ds_ret de_bl)) dss_nil))))))))) (dss_one (ds_ret (de_cmp (od_eq hu64) (do_of (de_b1 (cd_repr hgd hu64) (by rfl) Bn.n_repr (by decide +kernel) (do_of (de_cal0 C__law_bounds hr hgd (by decide) (by rfl))))) (do_of (de_b1 (cd_repr hgd hu64) (by rfl) Bn.n_repr (by decide +kernel) (do_of (de_fz (df_lst (da_cons (do_of de_int) (da_cons (do_of de_int) (da_cons (do_of de_int) (da_cons (do_of de_int) (da_cons (do_of de_int) (da_cons (do_of de_int) (da_cons (do_of de_int) (da_cons (do_of de_int) (da_cons (do_of de_int) (da_cons (do_of de_int) (da_cons (do_of de_int) da_nil)))))))))))))))) (nomark _))))))))
end
end K98
set_option Elab.async false
set_option linter.all false
set_option maxRecDepth 100000
set_option maxHeartbeats 4000000
set_option autoImplicit false
namespace K98
open PySem PySem.Spec L2 Y E98
def penL (ns : List Int) (k l : Int) : List (Key × PyData) := [(.inr "cells", .list (ns.map .int)), (.inr "used", .int k), (.inr "left", .int l)]
def penM (ns : List Int) (k l : Int) : MO := .dct (penL ns k l)
section
variable (ns : List Int) (k l v : Int) (r : Rho)
theorem pen_left : gIx (mD (penM ns k l)) (.str "left") = some (.int l) := by rfl
theorem pen_used : gIx (mD (penM ns k l)) (.str "used") = some (.int k) := by rfl
theorem pen_cells : gIx (mD (penM ns k l)) (.str "cells") = some (.list (ns.map .int)) := by rfl
theorem pen_at : Y.dctAt (.p (penM ns k l) :: r) 0 = some (penL ns k l) := by rfl
theorem pen_len : (penL ns k l).length = 3 := by rfl
theorem put_left : MO.dct (Y.putD (penL ns k l) (.inr "left") (.int v)) = penM ns k v := by rfl
theorem put_used : MO.dct (Y.putD (penL ns k l) (.inr "used") (.int v)) = penM ns v l := by rfl
end
theorem three_lt : 3 < sizeLine := by decide
theorem draw_left (ns : List Int) (k l m : Int) (hl : 0 < l) (h0 : 0 < m) (h1 : m < 1073741824) :
    fDef 6 fb__law_draw [.m (penM ns k l), .d (.int m)] = some (.int (l % m), [.m (penM ns k (l / m)), .d (.int m)]) := by
  unfold fb__law_draw fDef
  simp [fSeq, fIfS, fT2, f2, f1, oE, eO, fVar, fC, AV.get, pen_left, gGt, Y.tB, hl, fSet, gE, gMod, gInt, h0, h1, notP, Arg.slot, gFdiv, fDPut, pen_at, pen_len, put_left, three_lt, Y.keyOf, Y.putAt, fRet, outA, Slot.put]
section
variable (x y : Int)
theorem mul59 : gMul (.int 59) (.int y) = some (.int (59 * y)) := by simp [gMul]
theorem mul50021 : gMul (.int 50021) (.int y) = some (.int (50021 * y)) := by simp [gMul]
theorem mul69621 : gMul (.int 69621) (.int y) = some (.int (69621 * y)) := by simp [gMul]
theorem mul40692 : gMul (.int 40692) (.int y) = some (.int (40692 * y)) := by simp [gMul]
theorem mul7 : gMul (.int 7) (.int y) = some (.int (7 * y)) := by simp [gMul]
theorem mul48271 : gMul (.int x) (.int 48271) = some (.int (x * 48271)) := by simp [gMul]
theorem mul_m1 : gMul (.int (x % 4294967231)) (.int y) = some (.int (x % 4294967231 * y)) := by
  simp only [gMul]
  rw [if_pos (by omega)]
theorem mul_m2 : gMul (.int (x % 4294967197)) (.int y) = some (.int (x % 4294967197 * y)) := by
  simp only [gMul]
  rw [if_pos (by omega)]
end
theorem depthAll_ints : ∀ ns : List Int, PyData.depthAll (ns.map PyData.int) = 0
  | [] => rfl
  | n :: ns => by
    rw [List.map_cons]
    show max (PyData.depth (.int n)) (PyData.depthAll (ns.map PyData.int)) = 0
    rw [depthAll_ints ns]
    rfl
theorem canLay_ints : ∀ ns : List Int, PyData.canLayAll0 (ns.map PyData.int) = true
  | [] => rfl
  | n :: ns => by
    rw [List.map_cons]
    show (PyData.canLay0 (.int n) && PyData.canLayAll0 (ns.map PyData.int)) = true
    rw [canLay_ints ns]
    rfl
theorem shaped_ints (ns : List Int) : SeqAt.shaped (.list (ns.map .int)) = true := by
  unfold SeqAt.shaped
  have h1 : PyData.canLay0 (.list (ns.map .int)) = true := canLay_ints ns
  have h2 : PyData.depth (.list (ns.map .int)) = 1 := by
    show PyData.depthAll (ns.map .int) + 1 = 1
    rw [depthAll_ints]
  rw [h1, h2]
  rfl
theorem ne_cells (ns : List Int) : gNe (.list (ns.map .int)) (.list []) = some (.bool (!ns.isEmpty)) := by
  unfold gNe
  rw [if_pos ⟨shaped_ints ns, by decide⟩]
  cases ns with
  | nil => rfl
  | cons n ns => rfl
theorem ix_cells {ns : List Int} (h : ns ≠ []) (k : Int) (hk : 0 ≤ k) : ∃ c, gIx (.list (ns.map .int)) (.int (k % (ns.length : Int))) = some (.int c) := by
  have hp : 0 < ns.length := List.length_pos_iff.mpr h
  have h1 : 0 ≤ k % (ns.length : Int) := Int.emod_nonneg _ (by omega)
  have h2 : k % (ns.length : Int) < ns.length := Int.emod_lt_of_pos _ (by omega)
  obtain ⟨j, hj⟩ := Int.eq_ofNat_of_zero_le h1
  rw [hj] at h2 ⊢
  have h3 : j < ns.length := by omega
  refine ⟨ns[j], ?_⟩
  show atI (ns.map PyData.int) (j : Int) = _
  rw [atI_nat]
  · rw [List.getElem?_map, List.getElem?_eq_getElem h3]
    rfl
theorem mul_k {k : Int} (h0 : 0 ≤ k) (h1 : k < 1073741824) (x : Int) : gMul (.int x) (.int k) = some (.int (x * k)) := by
  simp only [gMul]
  rw [if_pos (by omega)]
theorem ne_nil : gNe (.list []) (.list []) = some (.bool false) := by rfl
theorem mD_lst (xs : List PyData) : mD (.lst xs) = .list xs := rfl
def mixA (k c : Int) : Int := (c % 4294967279 * 48271 + 50021 * k * k + 69621 * k + 13) % 4294967231
def mixB (k c : Int) : Int := (mixA k c * mixA k c + 40692 * mixA k c + 7 * k + 5) % 4294967197
def mixC (k c : Int) : Int := mixB k c * (mixB k c + 16777259) % 4294967189 / 32
theorem draw_none (k l m : Int) (hk : 0 ≤ k) (hk1 : k < 1073741824) (hl : ¬ 0 < l) (h0 : 0 < m) (h1 : m < 1073741824) :
    fDef 6 fb__law_draw [.m (penM [] k l), .d (.int m)] = some (.int (mixC k (59 * k + 17) % m), [.m (penM [] (k + 1) l), .d (.int m)]) := by
  have mk := fun x => mul_k hk hk1 x
  have hk' : ¬ k < 0 := by omega
  unfold fb__law_draw fDef
  simp [fSeq, fIfS, fT2, fTAnd, f2, f1, oE, eO, fVar, fC, AV.get, pen_left, pen_used, pen_cells, ne_cells, ne_nil, gGt, gLt, gGe, gLen, gAbs, Y.gSub, gPow, Y.tB, fSet, gE, gMod, gInt, notP, Arg.slot, gFdiv, fDPut, pen_at, pen_len, put_left, put_used, three_lt, Y.keyOf, Y.putAt, fRet, outA, Slot.put, gAdd, mul59, mul50021, mul69621, mul40692, mul7, mul48271, mul_m1, mul_m2, fFz, fLstF, fANil, datas, mD_lst, fNil, mixC, mixB, mixA, hl, h0, h1, mk, hk']
theorem draw_small (ns : List Int) (hn : ns ≠ []) (k l m c : Int) (hk : 0 ≤ k) (hk1 : k < 1073741824) (hl : ¬ 0 < l) (h0 : 0 < m) (h1 : m < 1073741824) (hc : gIx (.list (ns.map .int)) (.int (k % (ns.length : Int))) = some (.int c))
    (hb : ¬ (k < ns.length ∧ 1000000000000000000 ≤ (if c < 0 then -c else c))) :
    fDef 6 fb__law_draw [.m (penM ns k l), .d (.int m)] = some (.int (mixC k c % m), [.m (penM ns (k + 1) l), .d (.int m)]) := by
  have mk := fun x => mul_k hk hk1 x
  have hp : 0 < ns.length := List.length_pos_iff.mpr hn
  have he : ns.isEmpty = false := by cases ns with | nil => exact absurd rfl hn | cons _ _ => rfl
  by_cases hkl : k < ns.length
  · have hb2 : ¬ 1000000000000000000 ≤ (if c < 0 then -c else c) := fun z => hb ⟨hkl, z⟩
    unfold fb__law_draw fDef
    simp [fSeq, fIfS, fT2, fTAnd, f2, f1, oE, eO, fVar, fC, AV.get, pen_left, pen_used, pen_cells, ne_cells, ne_nil, gGt, gLt, gGe, gLen, gAbs, Y.gSub, gPow, Y.tB, fSet, gE, gMod, gInt, notP, Arg.slot, gFdiv, fDPut, pen_at, pen_len, put_left, put_used, three_lt, Y.keyOf, Y.putAt, fRet, outA, Slot.put, gAdd, mul59, mul50021, mul69621, mul40692, mul7, mul48271, mul_m1, mul_m2, fFz, fLstF, fANil, datas, mD_lst, fNil, mixC, mixB, mixA, hl, h0, h1, mk, hc, hp, he, hkl, hb2]
  · unfold fb__law_draw fDef
    simp [fSeq, fIfS, fT2, fTAnd, f2, f1, oE, eO, fVar, fC, AV.get, pen_left, pen_used, pen_cells, ne_cells, ne_nil, gGt, gLt, gGe, gLen, gAbs, Y.gSub, gPow, Y.tB, fSet, gE, gMod, gInt, notP, Arg.slot, gFdiv, fDPut, pen_at, pen_len, put_left, put_used, three_lt, Y.keyOf, Y.putAt, fRet, outA, Slot.put, gAdd, mul59, mul50021, mul69621, mul40692, mul7, mul48271, mul_m1, mul_m2, fFz, fLstF, fANil, datas, mD_lst, fNil, mixC, mixB, mixA, hl, h0, h1, mk, hc, hp, he, hkl]
theorem draw_great (ns : List Int) (hn : ns ≠ []) (k l m c : Int) (hk : 0 ≤ k) (hk1 : k < 1073741824) (hl : ¬ 0 < l) (h0 : 0 < m) (h1 : m < 1073741824) (hc : gIx (.list (ns.map .int)) (.int (k % (ns.length : Int))) = some (.int c))
    (hkl : k < ns.length) (hb : 1000000000000000000 ≤ (if c < 0 then -c else c)) :
    fDef 6 fb__law_draw [.m (penM ns k l), .d (.int m)] = some (.int (((if c < 0 then -c else c) - 1000000000000000000) % m), [.m (penM ns (k + 1) (((if c < 0 then -c else c) - 1000000000000000000) / m)), .d (.int m)]) := by
  have mk := fun x => mul_k hk hk1 x
  have hp : 0 < ns.length := List.length_pos_iff.mpr hn
  have he : ns.isEmpty = false := by cases ns with | nil => exact absurd rfl hn | cons _ _ => rfl
  unfold fb__law_draw fDef
  simp [fSeq, fIfS, fT2, fTAnd, f2, f1, oE, eO, fVar, fC, AV.get, pen_left, pen_used, pen_cells, ne_cells, ne_nil, gGt, gLt, gGe, gLen, gAbs, Y.gSub, gPow, Y.tB, fSet, gE, gMod, gInt, notP, Arg.slot, gFdiv, fDPut, pen_at, pen_len, put_left, put_used, three_lt, Y.keyOf, Y.putAt, fRet, outA, Slot.put, gAdd, mul59, mul50021, mul69621, mul40692, mul7, mul48271, mul_m1, mul_m2, fFz, fLstF, fANil, datas, mD_lst, fNil, mixC, mixB, mixA, hl, h0, h1, mk, hc, hp, he, hkl, hb]
end K98
set_option Elab.async false
set_option linter.all false
set_option maxRecDepth 100000
set_option maxHeartbeats 4000000
set_option autoImplicit false
namespace K98
open PySem PySem.Spec L2 Y E98
/-- the drawn number is below many; the pen goes on -/
theorem draw_ok (ns : List Int) (k l m : Int) (hk : 0 ≤ k) (hk1 : k < 1073741824) (hl : 0 ≤ l) (h0 : 0 < m) (h1 : m < 1073741824) : ∃ v k' l', 0 ≤ v ∧ v < m ∧ 0 ≤ l' ∧ k ≤ k' ∧ k' ≤ k + 1 ∧
    fDef 6 fb__law_draw [.m (penM ns k l), .d (.int m)] = some (.int v, [.m (penM ns k' l'), .d (.int m)]) := by
  by_cases hpos : 0 < l
  · exact ⟨l % m, k, l / m, Int.emod_nonneg _ (by omega), Int.emod_lt_of_pos _ h0, Int.ediv_nonneg hl (by omega), by omega, by omega, draw_left ns k l m hpos h0 h1⟩
  by_cases hn : ns = []
  · subst hn
    exact ⟨_, k + 1, l, Int.emod_nonneg _ (by omega), Int.emod_lt_of_pos _ h0, hl, by omega, by omega, draw_none k l m hk hk1 hpos h0 h1⟩
  obtain ⟨c, hc⟩ := ix_cells hn k hk
  by_cases hb : k < ns.length ∧ 1000000000000000000 ≤ (if c < 0 then -c else c)
  · exact ⟨_, k + 1, _, Int.emod_nonneg _ (by omega), Int.emod_lt_of_pos _ h0, Int.ediv_nonneg (by omega) (by omega), by omega, by omega, draw_great ns hn k l m c hk hk1 hpos h0 h1 hc hb.1 hb.2⟩
  · exact ⟨_, k + 1, l, Int.emod_nonneg _ (by omega), Int.emod_lt_of_pos _ h0, hl, by omega, by omega, draw_small ns hn k l m c hk hk1 hpos h0 h1 hc hb⟩
abbrev F_draw : FD := fDef 6 fb__law_draw
abbrev F_pick : FD := fDef 2 (fb__law_pick F_draw)
theorem ix_list {xs : List PyData} {v : Int} (h0 : 0 ≤ v) (h1 : v < xs.length) : ∃ d, d ∈ xs ∧ gIx (.list xs) (.int v) = some d := by
  obtain ⟨j, rfl⟩ := Int.eq_ofNat_of_zero_le h0
  have h3 : j < xs.length := by omega
  refine ⟨xs[j], List.getElem_mem h3, ?_⟩
  show atI xs (j : Int) = _
  exact atI_nat (List.getElem?_eq_getElem h3)
theorem pick_ok (ns : List Int) (k l : Int) (xs : List PyData) (hk : 0 ≤ k) (hk1 : k < 1073741824) (hl : 0 ≤ l) (h0 : 0 < xs.length) (h1 : xs.length < 1073741824) : ∃ d k' l', d ∈ xs ∧ 0 ≤ l' ∧ k ≤ k' ∧ k' ≤ k + 1 ∧
    F_pick [.m (penM ns k l), .d (.list xs)] = some (d, [.m (penM ns k' l'), .d (.list xs)]) := by
  obtain ⟨v, k', l', hv, hv1, hl', hk2, hk3, e⟩ := draw_ok ns k l xs.length hk hk1 hl (by omega) (by omega)
  obtain ⟨d, hd, ed⟩ := ix_list hv hv1
  refine ⟨d, k', l', hd, hl', hk2, hk3, ?_⟩
  unfold F_pick fb__law_pick fDef fRet f2 oE f1 fCall
  have e' : F_draw [.m (penM ns k l), .d (.int xs.length)] = some (.int v, [.m (penM ns k' l'), .d (.int xs.length)]) := e
  have ep : putB [AV.ow 0, AV.d (.int xs.length)] [Arg.m (penM ns k' l'), Arg.d (.int xs.length)] [Slot.p (penM ns k l), Slot.d (.list xs)] = [Slot.p (penM ns k' l'), Slot.d (.list xs)] := by rfl
  simp [Arg.slot, fVar, fACons, fANil, oE, f1, gLen, AV.get, argsOf, argOf, ows, e', ep, ed, outA]
def vals : List PyData := [.none, .bool true, .bool false, .int 0, .int 1, .int (-1), .int 7, .int 10000000000000000000000000000000000000000, .str "", .str "a", .str "main", .tuple [], .tuple [.str "a"], .tuple [.str "main", .str "entry", .int 0], .list [], .list [.str "x", .int 1],
  .dict [], .dict [(.str "a", .int 1)], .tuple [.none, .tuple [.str "form"]], .list [.tuple [.str "num", .str "r", .int 1]]]
abbrev F_any : FD := fDef 2 (fb__law_any_value F_pick)
theorem any_ok (ns : List Int) (k l : Int) (hk : 0 ≤ k) (hk1 : k < 1073741824) (hl : 0 ≤ l) : ∃ d k' l', d ∈ vals ∧ 0 ≤ l' ∧ k ≤ k' ∧ k' ≤ k + 1 ∧
    F_any [.m (penM ns k l)] = some (d, [.m (penM ns k' l')]) := by
  obtain ⟨d, k', l', hd, hl', hk2, hk3, e⟩ := pick_ok ns k l vals hk hk1 hl (by decide) (by decide)
  refine ⟨d, k', l', hd, hl', hk2, hk3, ?_⟩
  have ep : ∀ y, putB [AV.ow 0, AV.d (.list vals)] [Arg.m (penM ns k' l'), Arg.d (.list vals)] [Slot.p (penM ns k l), Slot.d y] = [Slot.p (penM ns k' l'), Slot.d y] := fun y => by rfl
  have h16 : (16 : Nat) ≤ sizeLine := by decide
  have h20 : (20 : Nat) ≤ sizeLine := by decide
  unfold F_any fb__law_any_value fDef
  simp [fSeq, fSet, gE, fFz, fLstF, fACons, fANil, oE, fC, f1, f2, gNeg, gPow, fTup, datas, mD_lst, notP, Arg.slot, fRet, fCall, fVar, AV.get, gAdd, fNilD, mD, fDct, fPCons, fPNil, tabOf, Y.keyOf, Y.putD, keyD, argsOf, argOf, ows, outA, sizeLine_eq]
  unfold vals at e ep
  rw [e]
  simp [ep, outA]
end K98
set_option Elab.async false
set_option linter.all false
set_option maxRecDepth 100000
set_option maxHeartbeats 4000000
set_option autoImplicit false
namespace K98
open PySem PySem.Spec L2 Y E98
section
variable (C : Nat) (f : Str) (t a b : PyData)
theorem fld1 : gFld C f (excD C [f] [t]) = some t := by simp [gFld, exOf_exc, fldD]
theorem fldL : gFld C "line" (excD C ["line", "word"] [a, b]) = some a := by
  simp only [gFld, exOf_exc, Option.bind_some, if_true]
  rfl
theorem fldW : gFld C "word" (excD C ["line", "word"] [a, b]) = some b := by
  simp only [gFld, exOf_exc, Option.bind_some, if_true]
  rfl
end
abbrev F_fields (c : Nat → Nat) : FD := fDef 3 (fb__law_fields c)
theorem fields_ok (c : Nat → Nat) (t o : PyData) : F_fields c [.d t, .d o] = some (.list (List.replicate 28 t), [.d t, .d o]) := by
  unfold F_fields fb__law_fields fDef
  simp [fSeq, fSet, gE, fFz, fLstF, fACons, fANil, oE, eO, fC, f1, f2, datas, mD_lst, notP, Arg.slot, fRet, fVar, AV.get, gAdd, outA, sizeLine_eq, fMk, fMkR, fld1, fldL, fldW, List.replicate]
def errs (c : Nat → Nat) (t : PyData) : List PyData := [excD (c 0) ["reason"] [t], excD (c 1) ["value"] [t], excD (c 2) ["value"] [t], excD (c 3) ["value"] [t], excD (c 4) ["value"] [t], excD (c 5) ["value"] [t], excD (c 6) ["index"] [t], excD (c 7) ["value"] [t], excD (c 8) ["line", "word"] [t, .int 0], excD (c 9) [] [],
  excD (c 10) ["value"] [t], excD (c 11) ["value"] [t], excD (c 12) ["place"] [t], excD (c 13) ["index"] [t]]
abbrev F_all (c : Nat → Nat) : FD := fDef 2 (fb__law_all_errors c)
theorem all_ok (c : Nat → Nat) (t : PyData) : F_all c [.d t] = some (.list (errs c t), [.d t]) := by
  unfold F_all fb__law_all_errors fDef errs
  simp [fSeq, fSet, gE, fFz, fLstF, fACons, fANil, oE, eO, fC, f1, f2, datas, mD_lst, notP, Arg.slot, fRet, fVar, AV.get, gAdd, outA, sizeLine_eq, fMk, fMkR]
/-- the classes lie apart -/
def Apart (c : Nat → Nat) : Prop := ∀ a ∈ List.range 14, ∀ b ∈ List.range 14, c a = c b → a = b
theorem tab_at {c : Nat → Nat} (hc : Apart c) {i : Nat} (hi : i < 14) {d : PyData} {ds : List (PyData × PyData)} (hd : exOf d = some (c i, ds)) (g : Nat → Bool) : tabB (tabG 14 c g) d = some (.bool (g i)) := by
  unfold tabB
  rw [hd, Option.bind_some]
  show ((tabG 14 c g).lookup (c i)).map PyData.bool = _
  unfold tabG
  rw [tab_lookup hc (List.mem_range.mpr hi)]
  rfl
abbrev F_classes (c : Nat → Nat) : FD := fDef 2 (fb__law_classes c)
theorem classes_ok {c : Nat → Nat} (hc : Apart c) {i : Nat} (hi : i < 14) {d : PyData} {ds : List (PyData × PyData)} (hd : exOf d = some (c i, ds)) :
    F_classes c [.d d] = some (.list ((List.range 14).map fun k => .bool (i == k)), [.d d]) := by
  have tb := fun g => tab_at hc hi hd g
  have er : List.range 14 = [0, 1, 2, 3, 4, 5, 6, 7, 8, 9, 10, 11, 12, 13] := by decide
  rw [er]
  unfold F_classes fb__law_classes fDef
  simp [fSeq, fSet, gE, fFz, fLstF, fACons, fANil, oE, eO, fC, f1, f2, datas, mD_lst, notP, Arg.slot, fRet, fVar, AV.get, gAdd, outA, sizeLine_eq, tb]
abbrev F_wide (c : Nat → Nat) : FD := fDef 2 (fb__law_wide_ones c)
def wides (i : Nat) : PyData := .list [.bool (wd_ValueError i), .bool (wd_KeyError i), .bool (wd_LookupError i), .bool (wd_RuntimeError i)]
theorem wide_ok {c : Nat → Nat} (hc : Apart c) {i : Nat} (hi : i < 14) {d : PyData} {ds : List (PyData × PyData)} (hd : exOf d = some (c i, ds)) : F_wide c [.d d] = some (wides i, [.d d]) := by
  have tb := fun g => tab_at hc hi hd g
  unfold F_wide fb__law_wide_ones fDef wides
  simp [fSeq, fSet, gE, fFz, fLstF, fACons, fANil, oE, eO, fC, f1, f2, datas, mD_lst, notP, Arg.slot, fRet, fVar, AV.get, gAdd, outA, sizeLine_eq, tb]
abbrev F_bounds (c : Nat → Nat) : FD := fDef 1 (fb__law_bounds c)
def bnds : PyData := .list [.int 8, .int 6, .int 8, .int 4, .int 12, .int 6, .int 40, .int 120, .int 60, .int 20000, .int 40]
theorem bounds_ok (c : Nat → Nat) : F_bounds c [] = some (bnds, []) := by
  unfold F_bounds fb__law_bounds fDef bnds
  simp [fSeq, fSet, gE, fFz, fLstF, fACons, fANil, oE, eO, fC, f1, f2, datas, mD_lst, notP, Arg.slot, fRet, fVar, AV.get, gAdd, outA, sizeLine_eq]
abbrev F_pen : FDF := fDefF 1 fb__law_pen
theorem pen_ok (ns : List Int) (h : ns.length ≤ 63) : F_pen [.scr ns] = some (penM ns 0 0, [.scr ns]) := by
  unfold F_pen fb__law_pen fDefF penM penL
  have hcut : cutD (ns.map PyData.int) none (some 63) = ns.map .int := by
    have e : HT.sIx (ns.map PyData.int).length (ns.map PyData.int).length (some 63) = ns.length := by
      show min 63 (ns.map PyData.int).length = _
      rw [List.length_map]
      omega
    unfold cutD
    rw [e]
    show (ns.map PyData.int).take (ns.length - 0) = _
    rw [List.take_of_length_le (by simp)]
  simp [fDct, fPCons, fPNil, fC, f1, oE, fSlS, fPno, fPart, toI, scrAt, Arg.slot, hcut, AV.get, gList, tabOf, Y.keyOf, Y.putD, outA]
  rfl
end K98
set_option Elab.async false
set_option linter.all false
set_option maxRecDepth 100000
set_option maxHeartbeats 4000000
set_option autoImplicit false
namespace K98
open PySem PySem.Spec L2 Y E98
/-! loops over data -/
theorem forL_all {g : FB} {body : FS} {I : Rho → Prop} : ∀ {ds : List PyData} {ρ : Rho}, (∀ d ∈ ds, ∀ ρ, I ρ → ∃ ρ1 ρ2, g d ρ = some ρ1 ∧ body ρ1 = some (.nx ρ2) ∧ I ρ2) → I ρ → ∃ ρ', forL g body ds ρ = some (.nx ρ') ∧ I ρ'
  | [], ρ, _, h => ⟨ρ, rfl, h⟩
  | d :: ds, ρ, hs, h => by
    obtain ⟨ρ1, ρ2, e1, e2, h2⟩ := hs d List.mem_cons_self ρ h
    obtain ⟨ρ', e3, h3⟩ := forL_all (fun d' m => hs d' (List.mem_cons_of_mem _ m)) h2
    refine ⟨ρ', ?_, h3⟩
    unfold forL
    rw [e1, Option.bind_some, e2]
    exact e3
theorem compL_none {g : FB} {t : FT} {f : FE} {vs : List Nat} {ρw : Rho} (hw : wipeR ρw vs = ρw) : ∀ {ds : List PyData}, (∀ d ∈ ds, ∃ ρ1 ρ2, g d ρw = some ρ1 ∧ t ρ1 = some (false, ρ2) ∧ wipeOk ρ2 vs = true ∧ wipeR ρ2 vs = ρw) → compL g t f vs ds ρw = some ([], ρw)
  | [], _ => rfl
  | d :: ds, h => by
    obtain ⟨ρ1, ρ2, e1, e2, e3, e4⟩ := h d List.mem_cons_self
    unfold compL
    rw [hw, e1, Option.bind_some, e2, Option.bind_some, if_neg (by simp), if_pos e3, e4]
    exact compL_none hw fun d' m => h d' (List.mem_cons_of_mem _ m)
inductive Each (R : PyData → PyData → Prop) : List PyData → List PyData → Prop
  | nil : Each R [] []
  | cons {d r : PyData} {ds rs : List PyData} : R d r → Each R ds rs → Each R (d :: ds) (r :: rs)
theorem compL_map {g : FB} {f : FE} {vs : List Nat} {ρw : Rho} (hw : wipeR ρw vs = ρw) : ∀ {ds rs : List PyData}, Each (fun d r => ∃ ρ1 ρ2, g d ρw = some ρ1 ∧ f ρ1 = some (r, ρ2) ∧ wipeOk ρ2 vs = true ∧ wipeR ρ2 vs = ρw) ds rs → compL g fYes f vs ds ρw = some (rs, ρw)
  | [], _, .nil => rfl
  | d :: ds, _, .cons h t => by
    obtain ⟨ρ1, ρ2, e1, e2, e3, e4⟩ := h
    have ih := compL_map hw t
    unfold compL
    have ey : fYes ρ1 = some (true, ρ1) := rfl
    rw [hw, e1, Option.bind_some, ey, Option.bind_some, if_pos rfl, e2, Option.bind_some, if_pos e3, e4, ih]
    rfl
/-! the values: their repr -/
def okT (t : PyData) : Bool := rpOk t && t.showable && decide (t.shown.length ≤ sizeLine) && decide (t.depth ≤ 60) && PyData.strOk t.shown
theorem okT_all : vals.all okT = true := by decide +kernel
theorem okT_bnds : okT bnds = true := by decide +kernel
theorem repr_ok {t : PyData} (h : okT t = true) : gRepr t = some (.str t.shown) ∧ gNe (.str t.shown) (.str t.shown) = some (.bool false) ∧ gEq (.str t.shown) (.str t.shown) = some (.bool true) := by
  unfold okT at h
  simp only [Bool.and_eq_true, decide_eq_true_eq] at h
  obtain ⟨⟨⟨⟨h1, h2⟩, h3⟩, h4⟩, h5⟩ := h
  have hs : SeqAt.shaped (.str t.shown) = true := by
    unfold SeqAt.shaped
    have : PyData.canLay0 (.str t.shown) = PyData.strOk t.shown := rfl
    rw [this, h5]
    rfl
  have he : PyData.eqv (.str t.shown) (.str t.shown) = true := by simp [PyData.eqv]
  refine ⟨?_, ?_, ?_⟩
  · unfold gRepr
    rw [if_pos ⟨h1, h2, h3, h4⟩]
  · unfold gNe
    rw [if_pos ⟨hs, hs⟩, he]
    rfl
  · unfold gEq
    rw [if_pos ⟨hs, hs⟩, he]
def dueD : PyData := .list ((List.range 14).map wides)
theorem due_ne : gNe dueD dueD = some (.bool false) := by
  unfold gNe
  have h1 : SeqAt.shaped dueD = true := by decide +kernel
  have h2 : PyData.eqv dueD dueD = true := by decide +kernel
  rw [if_pos ⟨h1, h1⟩, h2]
  rfl
theorem row_all : ((List.range 14).all fun i => SeqAt.shaped (.list ((List.range 14).map fun k => .bool (i == k))) && SeqAt.shaped (.list ((List.range 14).map fun k => .bool (k == i))) && PyData.eqv (.list ((List.range 14).map fun k => .bool (i == k))) (.list ((List.range 14).map fun k => .bool (k == i)))) = true := by decide +kernel
theorem row_ne {i : Nat} (hi : i < 14) : gNe (.list ((List.range 14).map fun k => .bool (i == k))) (.list ((List.range 14).map fun k => .bool (k == i))) = some (.bool false) := by
  have h := List.all_eq_true.mp row_all i (List.mem_range.mpr hi)
  simp only [Bool.and_eq_true] at h
  unfold gNe
  rw [if_pos ⟨h.1.1, h.1.2⟩, h.2]
  rfl
end K98
set_option Elab.async false
set_option linter.all false
set_option maxRecDepth 100000
set_option maxHeartbeats 4000000
set_option autoImplicit false
namespace K98
open PySem PySem.Spec L2 Y E98
def plainD : PyData := .list [.bool true, .bool false, .bool false, .bool false]
def namedD : PyData := .list [.bool false, .bool true, .bool true, .bool false]
abbrev np (s : Slot) : Prop := notP (some s) = true
/-- the state within the loop -/
structure InL (ns : List Int) (ρ : Rho) : Prop where
  ex : ∃ (k l : Int) (a5 a6 a7 a8 a9 a10 a11 : Slot), 0 ≤ k ∧ 0 ≤ l ∧ np a5 ∧ np a6 ∧ np a7 ∧ np a8 ∧ np a9 ∧ np a10 ∧ np a11 ∧
    ρ = [.scr ns, .m (penM ns k l), .d plainD, .d namedD, .d dueD, a5, a6, a7, a8, a9, a10, a11]
section
variable (c : Nat → Nat)
theorem f2_ev {g : PyData → PyData → Option PyData} {fa fb : FO} {ρ ρ1 ρ2 : Rho} {a b : AV} {x y z : PyData} (h1 : fa ρ = some (a, ρ1)) (h2 : fb ρ1 = some (b, ρ2)) (h3 : a.get ρ2 = some x) (h4 : b.get ρ2 = some y) (h5 : g x y = some z) : f2 g fa fb ρ = some (z, ρ2) := by
  unfold f2
  rw [h1, Option.bind_some, h2, Option.bind_some, h3, Option.bind_some, h4, Option.bind_some, h5]
  rfl
theorem oE_ev {f : FE} {ρ ρ1 : Rho} {d : PyData} (h : f ρ = some (d, ρ1)) : oE f ρ = some (.d d, ρ1) := by
  unfold oE
  rw [h]
  rfl
theorem if_no {f : FE} {A B : FS} {ρ ρ1 : Rho} (h : f ρ = some (.bool false, ρ1)) : fIfS (fT2 f) A B ρ = B ρ1 := by
  unfold fIfS fT2
  rw [h]
  rfl
def iff1 : FS := (fIfS (fT2 (f2 gNe (oE (fFz (fLc (iQ (fCall (F_fields c) (fACons (fVar 6) (fACons (fVar 7) fANil)))) (bName 10) (fT2 (f2 gNe (oE (f1 gRepr (fVar 10))) (oE (f1 gRepr (fVar 6))))) (eO (fVar 10)) [10]))) (oE (fFz (fLstF fANil))))) (fRet (fC (.bool false))) fNil)
def iff2 : FS := (fIfS (fT2 (f2 gNe (oE (fFz (fLc (iQ (eO (fVar 8))) (bName 10) fYes (fCall (F_wide c) (fACons (fVar 10) fANil)) [10]))) (fVar 4))) (fRet (fC (.bool false))) fNil)
def iff3 : FS := (fIfS (fT2 (f2 gNe (oE (fCall (F_classes c) (fACons (oE (f2 gIx (fVar 8) (fVar 9))) fANil))) (oE (fFz (fLc (iR (oE (f1 gLen (fVar 8)))) (bName 11) fYes (f2 gEq (fVar 11) (fVar 9)) [11]))))) (fRet (fC (.bool false))) fNil)
theorem ne_nil2 : gNe (.list []) (.list []) = some (.bool false) := by rfl
variable (s0 s1 s2 s3 s5 s9 s11 : Slot)
theorem iff1_ok {t o : PyData} (ht : okT t = true) (s4 s8 s10 : Slot) (h10 : np s10) : ∃ a10, np a10 ∧ iff1 c [s0, s1, s2, s3, s4, s5, .d t, .d o, s8, s9, s10, s11] = some (.nx [s0, s1, s2, s3, s4, s5, .d t, .d o, s8, s9, a10, s11]) := by
  obtain ⟨r1, r2, _⟩ := repr_ok ht
  refine ⟨.un, rfl, ?_⟩
  have hw : wipeR [s0, s1, s2, s3, s4, s5, .d t, .d o, s8, s9, .un, s11] [10] = [s0, s1, s2, s3, s4, s5, .d t, .d o, s8, s9, .un, s11] := rfl
  have hp : putB [AV.d t, AV.d o] [Arg.d t, Arg.d o] [s0, s1, s2, s3, s4, s5, .d t, .d o, s8, s9, s10, s11] = [s0, s1, s2, s3, s4, s5, .d t, .d o, s8, s9, s10, s11] := rfl
  have hc : compL (bName 10) (fT2 (f2 gNe (oE (f1 gRepr (fVar 10))) (oE (f1 gRepr (fVar 6))))) (eO (fVar 10)) [10] (List.replicate 28 t) [s0, s1, s2, s3, s4, s5, .d t, .d o, s8, s9, .un, s11] = some ([], [s0, s1, s2, s3, s4, s5, .d t, .d o, s8, s9, .un, s11]) := by
    refine compL_none hw fun d hd => ?_
    obtain rfl := (List.mem_replicate.mp hd).2
    refine ⟨[s0, s1, s2, s3, s4, s5, .d d, .d o, s8, s9, .d d, s11], [s0, s1, s2, s3, s4, s5, .d d, .d o, s8, s9, .d d, s11], rfl, ?_, rfl, rfl⟩
    simp [fT2, f2, f1, oE, fVar, AV.get, r1, r2, Y.tB]
  have hf := fields_ok c t o
  have hok : wipeOk [s0, s1, s2, s3, s4, s5, .d t, .d o, s8, s9, s10, s11] [10] = true := by
    show (notP (some s10) && true) = true
    rw [show notP (some s10) = true from h10]
    rfl
  have hwi : wipeR [s0, s1, s2, s3, s4, s5, .d t, .d o, s8, s9, s10, s11] [10] = [s0, s1, s2, s3, s4, s5, .d t, .d o, s8, s9, .un, s11] := rfl
  have h28 : (28 : Nat) ≤ sizeLine := by decide
  have h0 : (0 : Nat) ≤ sizeLine := by decide
  simp only [iff1, fIfS, fT2, f2, oE, fFz, fLc, iQ, fCall, fACons, fANil, fVar, List.getElem?_cons_succ, List.getElem?_cons_zero, Option.bind_some, Option.map_some, argsOf, argOf, ows, List.nodup_nil, if_true, hf, hp, List.length_replicate, h28, hok, and_self, hwi, hc, AV.get, mD_lst, fLstF, datas, List.length_nil, h0, ne_nil2, Y.tB, fNil, Bool.false_eq_true, if_false]
theorem errs_each {c : Nat → Nat} {t : PyData} {R : PyData → PyData → Prop} {h : Nat → PyData} (hR : ∀ i d ds, i < 14 → exOf d = some (c i, ds) → R d (h i)) : Each R (errs c t) ((List.range 14).map h) := by
  have er : List.range 14 = [0, 1, 2, 3, 4, 5, 6, 7, 8, 9, 10, 11, 12, 13] := by decide
  rw [er]
  exact .cons (hR 0 _ _ (by decide) exOf_exc) (.cons (hR 1 _ _ (by decide) exOf_exc) (.cons (hR 2 _ _ (by decide) exOf_exc) (.cons (hR 3 _ _ (by decide) exOf_exc) (.cons (hR 4 _ _ (by decide) exOf_exc) (.cons (hR 5 _ _ (by decide) exOf_exc) (.cons (hR 6 _ _ (by decide) exOf_exc)
    (.cons (hR 7 _ _ (by decide) exOf_exc) (.cons (hR 8 _ _ (by decide) exOf_exc) (.cons (hR 9 _ _ (by decide) exOf_exc) (.cons (hR 10 _ _ (by decide) exOf_exc) (.cons (hR 11 _ _ (by decide) exOf_exc) (.cons (hR 12 _ _ (by decide) exOf_exc) (.cons (hR 13 _ _ (by decide) exOf_exc) .nil)))))))))))))
theorem iff2_ok {c : Nat → Nat} (hc : Apart c) {t : PyData} (s6 s7 s10 : Slot) (h10 : np s10) : ∃ a10, np a10 ∧ iff2 c [s0, s1, s2, s3, .d dueD, s5, s6, s7, .d (.list (errs c t)), s9, s10, s11] = some (.nx [s0, s1, s2, s3, .d dueD, s5, s6, s7, .d (.list (errs c t)), s9, a10, s11]) := by
  refine ⟨.un, rfl, ?_⟩
  have hw : wipeR [s0, s1, s2, s3, .d dueD, s5, s6, s7, .d (.list (errs c t)), s9, .un, s11] [10] = [s0, s1, s2, s3, .d dueD, s5, s6, s7, .d (.list (errs c t)), s9, .un, s11] := rfl
  have hcm : compL (bName 10) fYes (fCall (F_wide c) (fACons (fVar 10) fANil)) [10] (errs c t) [s0, s1, s2, s3, .d dueD, s5, s6, s7, .d (.list (errs c t)), s9, .un, s11] = some ((List.range 14).map wides, [s0, s1, s2, s3, .d dueD, s5, s6, s7, .d (.list (errs c t)), s9, .un, s11]) := by
    refine compL_map hw (errs_each fun i d ds hi hd => ?_)
    have hwd := wide_ok hc hi hd
    refine ⟨[s0, s1, s2, s3, .d dueD, s5, s6, s7, .d (.list (errs c t)), s9, .d d, s11], [s0, s1, s2, s3, .d dueD, s5, s6, s7, .d (.list (errs c t)), s9, .d d, s11], rfl, ?_, rfl, rfl⟩
    have hp : putB [AV.d d] [Arg.d d] [s0, s1, s2, s3, .d dueD, s5, s6, s7, .d (.list (errs c t)), s9, .d d, s11] = [s0, s1, s2, s3, .d dueD, s5, s6, s7, .d (.list (errs c t)), s9, .d d, s11] := rfl
    simp only [fCall, fACons, fANil, fVar, List.getElem?_cons_succ, List.getElem?_cons_zero, Option.bind_some, Option.map_some, argsOf, argOf, ows, List.nodup_nil, if_true, hwd, hp]
  have hok : wipeOk [s0, s1, s2, s3, .d dueD, s5, s6, s7, .d (.list (errs c t)), s9, s10, s11] [10] = true := by
    show (notP (some s10) && true) = true
    rw [show notP (some s10) = true from h10]
    rfl
  have hwi : wipeR [s0, s1, s2, s3, .d dueD, s5, s6, s7, .d (.list (errs c t)), s9, s10, s11] [10] = [s0, s1, s2, s3, .d dueD, s5, s6, s7, .d (.list (errs c t)), s9, .un, s11] := rfl
  have h14 : (errs c t).length ≤ sizeLine := (by decide : (14 : Nat) ≤ sizeLine)
  have hd2 : PyData.list ((List.range 14).map wides) = dueD := rfl
  simp only [iff2, fIfS, fT2, f2, oE, eO, fFz, fLc, iQ, fVar, List.getElem?_cons_succ, List.getElem?_cons_zero, Option.bind_some, Option.map_some, if_true, h14, hok, and_self, hwi, hcm, AV.get, mD_lst, hd2, due_ne, Y.tB, fNil, Bool.false_eq_true, if_false]
theorem rng_each {R : PyData → PyData → Prop} {h : Nat → PyData} (hR : ∀ i : Nat, R (.int i) (h i)) : Each R (rngD 14) ((List.range 14).map h) := by
  have er : List.range 14 = [0, 1, 2, 3, 4, 5, 6, 7, 8, 9, 10, 11, 12, 13] := by decide
  have eg : rngD 14 = [.int 0, .int 1, .int 2, .int 3, .int 4, .int 5, .int 6, .int 7, .int 8, .int 9, .int 10, .int 11, .int 12, .int 13] := by rfl
  rw [er, eg]
  exact .cons (hR 0) (.cons (hR 1) (.cons (hR 2) (.cons (hR 3) (.cons (hR 4) (.cons (hR 5) (.cons (hR 6) (.cons (hR 7) (.cons (hR 8) (.cons (hR 9) (.cons (hR 10) (.cons (hR 11) (.cons (hR 12) (.cons (hR 13) .nil)))))))))))))
theorem eq_ints (a b : Nat) : gEq (.int a) (.int b) = some (.bool (a == b)) := by
  unfold gEq
  rw [if_pos ⟨by rfl, by rfl⟩]
  have h : PyData.eqv (.int a) (.int b) = (a == b) := by
    show ((a : Int) == (b : Int)) = (a == b)
    by_cases e : a = b
    · subst e
      simp
    · have e2 : (a == b) = false := by simpa using e
      rw [e2]
      simp
      omega
  rw [h]
theorem errs_at {c : Nat → Nat} {t : PyData} {i : Nat} (hi : i < 14) : ∃ d ds, gIx (.list (errs c t)) (.int i) = some d ∧ exOf d = some (c i, ds) := by
  have h : ∀ i, i < 14 → ∃ d ds, (errs c t)[i]? = some d ∧ exOf d = some (c i, ds) := by
    intro i hi
    match i, hi with
    | 0, _ => exact ⟨_, _, rfl, exOf_exc⟩
    | 1, _ => exact ⟨_, _, rfl, exOf_exc⟩
    | 2, _ => exact ⟨_, _, rfl, exOf_exc⟩
    | 3, _ => exact ⟨_, _, rfl, exOf_exc⟩
    | 4, _ => exact ⟨_, _, rfl, exOf_exc⟩
    | 5, _ => exact ⟨_, _, rfl, exOf_exc⟩
    | 6, _ => exact ⟨_, _, rfl, exOf_exc⟩
    | 7, _ => exact ⟨_, _, rfl, exOf_exc⟩
    | 8, _ => exact ⟨_, _, rfl, exOf_exc⟩
    | 9, _ => exact ⟨_, _, rfl, exOf_exc⟩
    | 10, _ => exact ⟨_, _, rfl, exOf_exc⟩
    | 11, _ => exact ⟨_, _, rfl, exOf_exc⟩
    | 12, _ => exact ⟨_, _, rfl, exOf_exc⟩
    | 13, _ => exact ⟨_, _, rfl, exOf_exc⟩
    | n + 14, h => omega
  obtain ⟨d, ds, h1, h2⟩ := h i hi
  exact ⟨d, ds, atI_nat h1, h2⟩
theorem iff3_ok {c : Nat → Nat} (hc : Apart c) {t : PyData} {i : Nat} (hi : i < 14) (s4 s6 s7 s10 : Slot) (h11 : np s11) : ∃ a11, np a11 ∧
    iff3 c [s0, s1, s2, s3, s4, s5, s6, s7, .d (.list (errs c t)), .d (.int i), s10, s11] = some (.nx [s0, s1, s2, s3, s4, s5, s6, s7, .d (.list (errs c t)), .d (.int i), s10, a11]) := by
  obtain ⟨d, ds, hix, hd⟩ := errs_at (c := c) (t := t) hi
  refine ⟨.un, rfl, ?_⟩
  have hcl := classes_ok hc hi hd
  have hp : putB [AV.d d] [Arg.d d] [s0, s1, s2, s3, s4, s5, s6, s7, .d (.list (errs c t)), .d (.int i), s10, s11] = [s0, s1, s2, s3, s4, s5, s6, s7, .d (.list (errs c t)), .d (.int i), s10, s11] := rfl
  have hw : wipeR [s0, s1, s2, s3, s4, s5, s6, s7, .d (.list (errs c t)), .d (.int i), s10, .un] [11] = [s0, s1, s2, s3, s4, s5, s6, s7, .d (.list (errs c t)), .d (.int i), s10, .un] := rfl
  have hcm : compL (bName 11) fYes (f2 gEq (fVar 11) (fVar 9)) [11] (rngD 14) [s0, s1, s2, s3, s4, s5, s6, s7, .d (.list (errs c t)), .d (.int i), s10, .un] = some ((List.range 14).map fun k => .bool (k == i), [s0, s1, s2, s3, s4, s5, s6, s7, .d (.list (errs c t)), .d (.int i), s10, .un]) := by
    refine compL_map hw (rng_each fun k => ?_)
    refine ⟨[s0, s1, s2, s3, s4, s5, s6, s7, .d (.list (errs c t)), .d (.int i), s10, .d (.int k)], [s0, s1, s2, s3, s4, s5, s6, s7, .d (.list (errs c t)), .d (.int i), s10, .d (.int k)], rfl, ?_, rfl, rfl⟩
    simp only [f2, fVar, List.getElem?_cons_succ, List.getElem?_cons_zero, Option.bind_some, Option.map_some, AV.get, eq_ints]
  have hok : wipeOk [s0, s1, s2, s3, s4, s5, s6, s7, .d (.list (errs c t)), .d (.int i), s10, s11] [11] = true := by
    show (notP (some s11) && true) = true
    rw [show notP (some s11) = true from h11]
    rfl
  have hwi : wipeR [s0, s1, s2, s3, s4, s5, s6, s7, .d (.list (errs c t)), .d (.int i), s10, s11] [11] = [s0, s1, s2, s3, s4, s5, s6, s7, .d (.list (errs c t)), .d (.int i), s10, .un] := rfl
  have h14 : (rngD 14).length ≤ sizeLine := (by decide : (14 : Nat) ≤ sizeLine)
  have hlen : gLen (.list (errs c t)) = some (.int 14) := rfl
  have hrng : iR (oE (f1 gLen (fVar 8))) [s0, s1, s2, s3, s4, s5, s6, s7, .d (.list (errs c t)), .d (.int i), s10, s11] = some (rngD 14, [s0, s1, s2, s3, s4, s5, s6, s7, .d (.list (errs c t)), .d (.int i), s10, s11]) := by
    simp only [iR, oE, f1, fVar, List.getElem?_cons_succ, List.getElem?_cons_zero, Option.bind_some, Option.map_some, AV.get, hlen]
    rfl
  have hfl : fLc (iR (oE (f1 gLen (fVar 8)))) (bName 11) fYes (f2 gEq (fVar 11) (fVar 9)) [11] [s0, s1, s2, s3, s4, s5, s6, s7, .d (.list (errs c t)), .d (.int i), s10, s11] = some (.lst ((List.range 14).map fun k => .bool (k == i)), [s0, s1, s2, s3, s4, s5, s6, s7, .d (.list (errs c t)), .d (.int i), s10, .un]) := by
    unfold fLc
    rw [hrng, Option.bind_some, if_pos ⟨h14, hok⟩, hwi, hcm]
    rfl
  have hcall : fCall (F_classes c) (fACons (oE (f2 gIx (fVar 8) (fVar 9))) fANil) [s0, s1, s2, s3, s4, s5, s6, s7, .d (.list (errs c t)), .d (.int i), s10, s11] = some (.list ((List.range 14).map fun k => .bool (i == k)), [s0, s1, s2, s3, s4, s5, s6, s7, .d (.list (errs c t)), .d (.int i), s10, s11]) := by
    simp only [fCall, fACons, fANil, oE, f2, fVar, List.getElem?_cons_succ, List.getElem?_cons_zero, Option.bind_some, Option.map_some, AV.get, hix, argsOf, argOf, ows, List.nodup_nil, if_true, hcl, hp]
  unfold iff3
  rw [if_no (f2_ev (oE_ev hcall) (oE_ev (show fFz _ _ = some (.list ((List.range 14).map fun k => .bool (k == i)), _) from by unfold fFz; rw [hfl]; rfl)) rfl rfl (row_ne hi))]
  rfl
end
end K98
set_option Elab.async false
set_option linter.all false
set_option maxRecDepth 100000
set_option maxHeartbeats 4000000
set_option autoImplicit false
namespace K98
open PySem PySem.Spec L2 Y E98
theorem aCons_ev {f : FO} {g : FA} {ρ ρ1 ρ2 : Rho} {a : AV} {r : List AV} (h1 : f ρ = some (a, ρ1)) (h2 : g ρ1 = some (r, ρ2)) : fACons f g ρ = some (a :: r, ρ2) := by
  unfold fACons
  rw [h1, Option.bind_some, h2]
  rfl
theorem seq_ev {f g : FS} {ρ ρ1 : Rho} (h : f ρ = some (.nx ρ1)) : fSeq f g ρ = g ρ1 := by
  unfold fSeq
  rw [h]
  rfl
def turnS (c : Nat → Nat) : FS := (fSeq (fAsg (fTup (fACons (oE (fCall F_any (fACons (fVar 1) fANil))) (fACons (oE (fCall F_any (fACons (fVar 1) fANil))) fANil))) (bTup 2 (bCons (bName 6) (bCons (bName 7) bNil)))) (fSeq (iff1 c) (fSeq (fSet 8 (gE (fCall (F_all c) (fACons (fVar 6) fANil)))) (fSeq (iff2 c) (fFor (iR (oE (f1 gLen (fVar 8)))) (bName 9) (iff3 c))))))
theorem turn_ok {c : Nat → Nat} (hc : Apart c) (ns : List Int) (k l : Int) (hk : 0 ≤ k) (hk1 : k < 1000) (hl : 0 ≤ l) (s5 s6 s7 s8 s9 s10 s11 : Slot) (h6 : np s6) (h7 : np s7) (h8 : np s8) (h9 : np s9) (h10 : np s10) (h11 : np s11) :
    ∃ (k' l' : Int) (a6 a7 a8 a9 a10 a11 : Slot), 0 ≤ l' ∧ k ≤ k' ∧ k' ≤ k + 2 ∧ np a6 ∧ np a7 ∧ np a8 ∧ np a9 ∧ np a10 ∧ np a11 ∧
      turnS c [.scr ns, .m (penM ns k l), .d plainD, .d namedD, .d dueD, s5, s6, s7, s8, s9, s10, s11] = some (.nx [.scr ns, .m (penM ns k' l'), .d plainD, .d namedD, .d dueD, s5, a6, a7, a8, a9, a10, a11]) := by
  obtain ⟨t, k1, l1, ht, hl1, hk2, hk3, e1⟩ := any_ok ns k l hk (by omega) hl
  obtain ⟨o, k2, l2, ho, hl2, hk4, hk5, e2⟩ := any_ok ns k1 l1 (by omega) (by omega) hl1
  have hok : okT t = true := List.all_eq_true.mp okT_all t ht
  -- the pair
  have p1 : ∀ (x : MO), putB [AV.ow 1] [Arg.m x] [.scr ns, .m (penM ns k l), .d plainD, .d namedD, .d dueD, s5, s6, s7, s8, s9, s10, s11] = [.scr ns, .m x, .d plainD, .d namedD, .d dueD, s5, s6, s7, s8, s9, s10, s11] := fun x => rfl
  have p2 : ∀ (x : MO), putB [AV.ow 1] [Arg.m x] [.scr ns, .m (penM ns k1 l1), .d plainD, .d namedD, .d dueD, s5, s6, s7, s8, s9, s10, s11] = [.scr ns, .m x, .d plainD, .d namedD, .d dueD, s5, s6, s7, s8, s9, s10, s11] := fun x => rfl
  have two : (2 : Nat) ≤ sizeLine := by decide
  have st1 : fAsg (fTup (fACons (oE (fCall F_any (fACons (fVar 1) fANil))) (fACons (oE (fCall F_any (fACons (fVar 1) fANil))) fANil))) (bTup 2 (bCons (bName 6) (bCons (bName 7) bNil))) [.scr ns, .m (penM ns k l), .d plainD, .d namedD, .d dueD, s5, s6, s7, s8, s9, s10, s11] =
      some (.nx [.scr ns, .m (penM ns k2 l2), .d plainD, .d namedD, .d dueD, s5, .d t, .d o, s8, s9, s10, s11]) := by
    have nd : (ows [AV.ow 1]).Nodup := by decide
    have c1 : fCall F_any (fACons (fVar 1) fANil) [.scr ns, .m (penM ns k l), .d plainD, .d namedD, .d dueD, s5, s6, s7, s8, s9, s10, s11] = some (t, [.scr ns, .m (penM ns k1 l1), .d plainD, .d namedD, .d dueD, s5, s6, s7, s8, s9, s10, s11]) := by
      simp only [fCall, fACons, fANil, fVar, List.getElem?_cons_succ, List.getElem?_cons_zero, Option.bind_some, Option.map_some, argsOf, argOf, nd, if_true, e1, p1]
    have c2 : fCall F_any (fACons (fVar 1) fANil) [.scr ns, .m (penM ns k1 l1), .d plainD, .d namedD, .d dueD, s5, s6, s7, s8, s9, s10, s11] = some (o, [.scr ns, .m (penM ns k2 l2), .d plainD, .d namedD, .d dueD, s5, s6, s7, s8, s9, s10, s11]) := by
      simp only [fCall, fACons, fANil, fVar, List.getElem?_cons_succ, List.getElem?_cons_zero, Option.bind_some, Option.map_some, argsOf, argOf, nd, if_true, e2, p2]
    have ft : fTup (fACons (oE (fCall F_any (fACons (fVar 1) fANil))) (fACons (oE (fCall F_any (fACons (fVar 1) fANil))) fANil)) [.scr ns, .m (penM ns k l), .d plainD, .d namedD, .d dueD, s5, s6, s7, s8, s9, s10, s11] = some (.tuple [t, o], [.scr ns, .m (penM ns k2 l2), .d plainD, .d namedD, .d dueD, s5, s6, s7, s8, s9, s10, s11]) := by
      unfold fTup
      have fa : fACons (oE (fCall F_any (fACons (fVar 1) fANil))) (fACons (oE (fCall F_any (fACons (fVar 1) fANil))) fANil) [.scr ns, .m (penM ns k l), .d plainD, .d namedD, .d dueD, s5, s6, s7, s8, s9, s10, s11] = some ([.d t, .d o], [.scr ns, .m (penM ns k2 l2), .d plainD, .d namedD, .d dueD, s5, s6, s7, s8, s9, s10, s11]) := by
        exact aCons_ev (oE_ev c1) (aCons_ev (oE_ev c2) rfl)
      rw [fa, Option.bind_some]
      exact if_pos (e := (none : Option (PyData × Rho))) two
    unfold fAsg
    rw [ft, Option.bind_some]
    have h6' : notP (some s6) = true := h6
    have h7' : notP (some s7) = true := h7
    simp [bTup, bCons, bNil, bName, h6', h7']
  obtain ⟨a10, ha10, st2⟩ := iff1_ok c (.scr ns) (.m (penM ns k2 l2)) (.d plainD) (.d namedD) s5 s9 s11 hok (o := o) (.d dueD) s8 s10 h10
  have st3 : fSet 8 (gE (fCall (F_all c) (fACons (fVar 6) fANil))) [.scr ns, .m (penM ns k2 l2), .d plainD, .d namedD, .d dueD, s5, .d t, .d o, s8, s9, a10, s11] = some (.nx [.scr ns, .m (penM ns k2 l2), .d plainD, .d namedD, .d dueD, s5, .d t, .d o, .d (.list (errs c t)), s9, a10, s11]) := by
    have p3 : putB [AV.d t] [Arg.d t] [.scr ns, .m (penM ns k2 l2), .d plainD, .d namedD, .d dueD, s5, .d t, .d o, s8, s9, a10, s11] = [.scr ns, .m (penM ns k2 l2), .d plainD, .d namedD, .d dueD, s5, .d t, .d o, s8, s9, a10, s11] := rfl
    have ha := all_ok c t
    have h8' : notP (some s8) = true := h8
    have nd : (ows [AV.d t]).Nodup := List.nodup_nil
    have c3 : fCall (F_all c) (fACons (fVar 6) fANil) [.scr ns, .m (penM ns k2 l2), .d plainD, .d namedD, .d dueD, s5, .d t, .d o, s8, s9, a10, s11] = some (.list (errs c t), [.scr ns, .m (penM ns k2 l2), .d plainD, .d namedD, .d dueD, s5, .d t, .d o, s8, s9, a10, s11]) := by
      simp only [fCall, fACons, fANil, fVar, List.getElem?_cons_succ, List.getElem?_cons_zero, Option.bind_some, Option.map_some, argsOf, argOf, nd, if_true, ha, p3]
    unfold fSet gE
    rw [c3]
    simp [h8']
  obtain ⟨b10, hb10, st4⟩ := iff2_ok (.scr ns) (.m (penM ns k2 l2)) (.d plainD) (.d namedD) s5 s9 s11 hc (t := t) (.d t) (.d o) a10 ha10
  -- the inner loop
  have st5 : ∃ a9 a11, np a9 ∧ np a11 ∧ fFor (iR (oE (f1 gLen (fVar 8)))) (bName 9) (iff3 c) [.scr ns, .m (penM ns k2 l2), .d plainD, .d namedD, .d dueD, s5, .d t, .d o, .d (.list (errs c t)), s9, b10, s11] =
      some (.nx [.scr ns, .m (penM ns k2 l2), .d plainD, .d namedD, .d dueD, s5, .d t, .d o, .d (.list (errs c t)), a9, b10, a11]) := by
    have hlen : gLen (.list (errs c t)) = some (.int 14) := rfl
    have hrng : iR (oE (f1 gLen (fVar 8))) [.scr ns, .m (penM ns k2 l2), .d plainD, .d namedD, .d dueD, s5, .d t, .d o, .d (.list (errs c t)), s9, b10, s11] = some (rngD 14, [.scr ns, .m (penM ns k2 l2), .d plainD, .d namedD, .d dueD, s5, .d t, .d o, .d (.list (errs c t)), s9, b10, s11]) := by
      simp only [iR, oE, f1, fVar, List.getElem?_cons_succ, List.getElem?_cons_zero, Option.bind_some, Option.map_some, AV.get, hlen]
      rfl
    unfold fFor
    rw [hrng, Option.bind_some]
    obtain ⟨ρ', e, a9, a11, n9, n11, er⟩ := forL_all (g := bName 9) (body := iff3 c) (ds := rngD 14) (I := fun ρ => ∃ a9 a11, np a9 ∧ np a11 ∧ ρ = [.scr ns, .m (penM ns k2 l2), .d plainD, .d namedD, .d dueD, s5, .d t, .d o, .d (.list (errs c t)), a9, b10, a11])
      (ρ := [.scr ns, .m (penM ns k2 l2), .d plainD, .d namedD, .d dueD, s5, .d t, .d o, .d (.list (errs c t)), s9, b10, s11]) (fun d hd ρ hρ => by
        obtain ⟨a9, a11, n9, n11, rfl⟩ := hρ
        have eg : rngD 14 = [.int 0, .int 1, .int 2, .int 3, .int 4, .int 5, .int 6, .int 7, .int 8, .int 9, .int 10, .int 11, .int 12, .int 13] := by rfl
        obtain ⟨i, hi, rfl⟩ : ∃ i : Nat, i < 14 ∧ d = .int i := by
          have er : rngD 14 = (List.range 14).map fun (i : Nat) => PyData.int (i : Int) := by rfl
          rw [er] at hd
          obtain ⟨i, hi, rfl⟩ := List.mem_map.mp hd
          exact ⟨i, List.mem_range.mp hi, rfl⟩
        obtain ⟨b11, m11, q⟩ := iff3_ok (.scr ns) (.m (penM ns k2 l2)) (.d plainD) (.d namedD) s5 a11 hc (t := t) hi (.d dueD) (.d t) (.d o) b10 n11
        refine ⟨_, _, ?_, q, .d (.int i), b11, rfl, m11, rfl⟩
        have n9' : notP (some a9) = true := n9
        simp [bName, n9']) ⟨s9, s11, h9, h11, rfl⟩
    subst er
    exact ⟨a9, a11, n9, n11, e⟩
  obtain ⟨a9, a11, n9, n11, st5⟩ := st5
  refine ⟨k2, l2, .d t, .d o, .d (.list (errs c t)), a9, b10, a11, hl2, by omega, by omega, rfl, rfl, rfl, n9, hb10, n11, ?_⟩
  unfold turnS
  rw [seq_ev st1, seq_ev st2, seq_ev st3, seq_ev st4]
  exact st5
theorem law_ok {c : Nat → Nat} (hc : Apart c) (ns : List Int) (h : ns.length ≤ 63) : ∃ as', fDef 12 (fb_law F_pen F_any (F_fields c) (F_all c) (F_classes c) (F_wide c) (F_bounds c)) [.scr ns] = some (.bool true, as') := by
  have hb : fb_law F_pen F_any (F_fields c) (F_all c) (F_classes c) (F_wide c) (F_bounds c) = (fSeq (fSet 1 (gF (fCallF F_pen (fACons (fVar 0) fANil)))) (fSeq (fPar2 2 3 (gE (fFz (fLstF (fACons (oE (fC (.bool true))) (fACons (oE (fC (.bool false))) (fACons (oE (fC (.bool false))) (fACons (oE (fC (.bool false))) fANil))))))) (gE (fFz (fLstF (fACons (oE (fC (.bool false))) (fACons (oE (fC (.bool true))) (fACons (oE (fC (.bool true))) (fACons (oE (fC (.bool false))) fANil)))))))) (fSeq (fSet 4 (gE (f2 gAdd (oE (f2 gMul2 (oE (fFz (fLstF (fACons (fVar 2) fANil)))) (oE (fC (.int 10))))) (oE (fFz (fLstF (fACons (fVar 3) (fACons (fVar 3) (fACons (oE (fFz (fLstF (fACons (oE (fC (.bool false))) (fACons (oE (fC (.bool false))) (fACons (oE (fC (.bool true))) (fACons (oE (fC (.bool false))) fANil))))))) (fACons (oE (fFz (fLstF (fACons (oE (fC (.bool false))) (fACons (oE (fC (.bool false))) (fACons (oE (fC (.bool false))) (fACons (oE (fC (.bool true))) fANil))))))) fANil)))))))))) (fSeq (fFor (iR (oE (fC (.int 3)))) (bName 5) (turnS c)) (fRet (f2 gEq (oE (f1 gRepr (oE (fCall (F_bounds c) fANil)))) (oE (f1 gRepr (oE (fFz (fLstF (fACons (oE (fC (.int 8))) (fACons (oE (fC (.int 6))) (fACons (oE (fC (.int 8))) (fACons (oE (fC (.int 4))) (fACons (oE (fC (.int 12))) (fACons (oE (fC (.int 6))) (fACons (oE (fC (.int 40))) (fACons (oE (fC (.int 120))) (fACons (oE (fC (.int 60))) (fACons (oE (fC (.int 20000))) (fACons (oE (fC (.int 40))) fANil)))))))))))))))))))))) := rfl
  have st1 : fSet 1 (gF (fCallF F_pen (fACons (fVar 0) fANil))) [.scr ns, .un, .un, .un, .un, .un, .un, .un, .un, .un, .un, .un] = some (.nx [.scr ns, .m (penM ns 0 0), .un, .un, .un, .un, .un, .un, .un, .un, .un, .un]) := by
    have hp := pen_ok ns h
    have p1 : putB [AV.ow 0] [Arg.scr ns] [.scr ns, .un, .un, .un, .un, .un, .un, .un, .un, .un, .un, .un] = [.scr ns, .un, .un, .un, .un, .un, .un, .un, .un, .un, .un, .un] := rfl
    have nd : (ows [AV.ow 0]).Nodup := by decide
    have c1 : fCallF F_pen (fACons (fVar 0) fANil) [.scr ns, .un, .un, .un, .un, .un, .un, .un, .un, .un, .un, .un] = some (penM ns 0 0, [.scr ns, .un, .un, .un, .un, .un, .un, .un, .un, .un, .un, .un]) := by
      simp only [fCallF, fACons, fANil, fVar, List.getElem?_cons_succ, List.getElem?_cons_zero, Option.bind_some, Option.map_some, argsOf, argOf, nd, if_true, hp, p1]
    unfold fSet gF
    rw [c1]
    rfl
  have st2 : (fPar2 2 3 (gE (fFz (fLstF (fACons (oE (fC (.bool true))) (fACons (oE (fC (.bool false))) (fACons (oE (fC (.bool false))) (fACons (oE (fC (.bool false))) fANil))))))) (gE (fFz (fLstF (fACons (oE (fC (.bool false))) (fACons (oE (fC (.bool true))) (fACons (oE (fC (.bool true))) (fACons (oE (fC (.bool false))) fANil)))))))) [.scr ns, .m (penM ns 0 0), .un, .un, .un, .un, .un, .un, .un, .un, .un, .un] = some (.nx [.scr ns, .m (penM ns 0 0), .d plainD, .d namedD, .un, .un, .un, .un, .un, .un, .un, .un]) := by
    simp [fPar2, gE, fFz, fLstF, fACons, fANil, oE, fC, datas, mD_lst, sizeLine_eq, notP, plainD, namedD]
  have st3 : (fSet 4 (gE (f2 gAdd (oE (f2 gMul2 (oE (fFz (fLstF (fACons (fVar 2) fANil)))) (oE (fC (.int 10))))) (oE (fFz (fLstF (fACons (fVar 3) (fACons (fVar 3) (fACons (oE (fFz (fLstF (fACons (oE (fC (.bool false))) (fACons (oE (fC (.bool false))) (fACons (oE (fC (.bool true))) (fACons (oE (fC (.bool false))) fANil))))))) (fACons (oE (fFz (fLstF (fACons (oE (fC (.bool false))) (fACons (oE (fC (.bool false))) (fACons (oE (fC (.bool false))) (fACons (oE (fC (.bool true))) fANil))))))) fANil)))))))))) [.scr ns, .m (penM ns 0 0), .d plainD, .d namedD, .un, .un, .un, .un, .un, .un, .un, .un] = some (.nx [.scr ns, .m (penM ns 0 0), .d plainD, .d namedD, .d dueD, .un, .un, .un, .un, .un, .un, .un]) := by
    have e : PyData.list ([plainD, plainD, plainD, plainD, plainD, plainD, plainD, plainD, plainD, plainD, namedD, namedD, .list [.bool false, .bool false, .bool true, .bool false], .list [.bool false, .bool false, .bool false, .bool true]]) = dueD := by rfl
    rw [← e]
    simp [fSet, gE, f2, gAdd, gMul2, fFz, fLstF, fACons, fANil, fVar, AV.get, oE, fC, datas, mD_lst, sizeLine_eq, notP, List.replicate]
  have st4 : ∃ ρ', fFor (iR (oE (fC (.int 3)))) (bName 5) (turnS c) [.scr ns, .m (penM ns 0 0), .d plainD, .d namedD, .d dueD, .un, .un, .un, .un, .un, .un, .un] = some (.nx ρ') := by
    obtain ⟨k1, l1, a6, a7, a8, a9, a10, a11, g1, g2, g3, n6, n7, n8, n9, n10, n11, e1⟩ := turn_ok hc ns 0 0 (by omega) (by omega) (by omega) (.d (.int 0)) .un .un .un .un .un .un rfl rfl rfl rfl rfl rfl
    obtain ⟨k2, l2, b6, b7, b8, b9, b10, b11, h1, h2, h3, m6, m7, m8, m9, m10, m11, e2⟩ := turn_ok hc ns k1 l1 (by omega) (by omega) (by omega) (.d (.int 1)) a6 a7 a8 a9 a10 a11 n6 n7 n8 n9 n10 n11
    obtain ⟨k3, l3, d6, d7, d8, d9, d10, d11, i1, i2, i3, o6, o7, o8, o9, o10, o11, e3⟩ := turn_ok hc ns k2 l2 (by omega) (by omega) (by omega) (.d (.int 2)) b6 b7 b8 b9 b10 b11 m6 m7 m8 m9 m10 m11
    have er : iR (oE (fC (.int 3))) [.scr ns, .m (penM ns 0 0), .d plainD, .d namedD, .d dueD, .un, .un, .un, .un, .un, .un, .un] = some ([.int 0, .int 1, .int 2], [.scr ns, .m (penM ns 0 0), .d plainD, .d namedD, .d dueD, .un, .un, .un, .un, .un, .un, .un]) := by rfl
    refine ⟨[.scr ns, .m (penM ns k3 l3), .d plainD, .d namedD, .d dueD, .d (.int 2), d6, d7, d8, d9, d10, d11], ?_⟩
    · unfold fFor
      rw [er, Option.bind_some]
      have b0 : bName 5 (.int 0) [.scr ns, .m (penM ns 0 0), .d plainD, .d namedD, .d dueD, .un, .un, .un, .un, .un, .un, .un] = some [.scr ns, .m (penM ns 0 0), .d plainD, .d namedD, .d dueD, .d (.int 0), .un, .un, .un, .un, .un, .un] := rfl
      have b1 : bName 5 (.int 1) [.scr ns, .m (penM ns k1 l1), .d plainD, .d namedD, .d dueD, .d (.int 0), a6, a7, a8, a9, a10, a11] = some [.scr ns, .m (penM ns k1 l1), .d plainD, .d namedD, .d dueD, .d (.int 1), a6, a7, a8, a9, a10, a11] := rfl
      have b2 : bName 5 (.int 2) [.scr ns, .m (penM ns k2 l2), .d plainD, .d namedD, .d dueD, .d (.int 1), b6, b7, b8, b9, b10, b11] = some [.scr ns, .m (penM ns k2 l2), .d plainD, .d namedD, .d dueD, .d (.int 2), b6, b7, b8, b9, b10, b11] := rfl
      simp only [forL, b0, b1, b2, e1, e2, e3, Option.bind_some]
  obtain ⟨ρ', st4⟩ := st4
  have st5 : (fRet (f2 gEq (oE (f1 gRepr (oE (fCall (F_bounds c) fANil)))) (oE (f1 gRepr (oE (fFz (fLstF (fACons (oE (fC (.int 8))) (fACons (oE (fC (.int 6))) (fACons (oE (fC (.int 8))) (fACons (oE (fC (.int 4))) (fACons (oE (fC (.int 12))) (fACons (oE (fC (.int 6))) (fACons (oE (fC (.int 40))) (fACons (oE (fC (.int 120))) (fACons (oE (fC (.int 60))) (fACons (oE (fC (.int 20000))) (fACons (oE (fC (.int 40))) fANil)))))))))))))))))) ρ' = some (.rt (.bool true) (putB [] [] ρ')) := by
    obtain ⟨r1, _, r3⟩ := repr_ok okT_bnds
    have hbd := bounds_ok c
    have c1 : fCall (F_bounds c) fANil ρ' = some (bnds, putB [] [] ρ') := by
      simp only [fCall, fANil, Option.bind_some, argsOf, ows, List.nodup_nil, if_true, hbd, Option.map_some]
    have c2 : ∀ ρ : Rho, (fFz (fLstF (fACons (oE (fC (.int 8))) (fACons (oE (fC (.int 6))) (fACons (oE (fC (.int 8))) (fACons (oE (fC (.int 4))) (fACons (oE (fC (.int 12))) (fACons (oE (fC (.int 6))) (fACons (oE (fC (.int 40))) (fACons (oE (fC (.int 120))) (fACons (oE (fC (.int 60))) (fACons (oE (fC (.int 20000))) (fACons (oE (fC (.int 40))) fANil))))))))))))) ρ = some (bnds, ρ) := by
      intro ρ
      simp [fFz, fLstF, fACons, fANil, oE, fC, datas, mD_lst, sizeLine_eq, bnds]
    have c3 : ∀ {f : FE} {ρ ρ1 : Rho}, f ρ = some (bnds, ρ1) → f1 gRepr (oE f) ρ = some (.str bnds.shown, ρ1) := by
      intro f ρ ρ1 h
      unfold f1
      rw [oE_ev h, Option.bind_some]
      show (some bnds).bind _ = _
      rw [Option.bind_some, r1]
      rfl
    unfold fRet
    rw [f2_ev (oE_ev (c3 c1)) (oE_ev (c3 (c2 _))) rfl rfl r3]
    rfl
  refine ⟨outA [.scr ns] (putB [] [] ρ'), ?_⟩
  · unfold fDef
    rw [hb]
    show (fSeq _ _ [.scr ns, .un, .un, .un, .un, .un, .un, .un, .un, .un, .un, .un]).bind _ = _
    rw [seq_ev st1, seq_ev st2, seq_ev st3, seq_ev st4, st5]
    rfl
end K98
set_option Elab.async false
set_option linter.all false
set_option maxRecDepth 100000
set_option maxHeartbeats 8000000
set_option autoImplicit false
namespace K98
open PySem PySem.Spec L2 Y E98
def cOf (l : List Nat) (i : Nat) : Nat := l.getD i 0
section
variable {P : Program} {w : World} {K : PySem.W.Frag} {mg : Str → Option Value} {base : Heap} {C fI : Addr}
abbrev st_InvalidModule : Stmt := inClass (topS 1) 0
theorem scI_InvalidModule : FnScope ["self", "reason"] ["self", "reason"] (defScope st_InvalidModule) := ⟨rfl, rfl, rfl, by decide +kernel, rfl, by decide +kernel, by decide +kernel⟩
theorem xc_InvalidModule (R : RawC K mg "InvalidModule" "InvalidModule.__init__" C fI ["ValueError", "Exception", "BaseException", "object"] "ValueError.__new__" st_InvalidModule) (n0 : PySem.W.findIn K (.ref C) "reason" = some none) : XCls P w K mg base "InvalidModule" C ["reason"] := by
  obtain ⟨fd, F⟩ := R.F
  have T := R.T.exk .v
  refine ⟨⟨fI, fd, init1 F scI_InvalidModule (by rfl) T n0 (by decide) (by decide), R.iC, R.tI, kb_pos F 2 (fun _ _ _ _ _ _ us hl => match us, hl with | [_, _], _ => rfl), kb_kw F ["reason"] (fun _ _ _ _ _ _ us ws h1 h2 => match us, ws, h1, h2 with | [_], [_], _, _ => rfl), kb_kr F ["reason"] (fun _ _ _ _ _ _ us ws h1 h2 => match us, ws, h1, h2 with | [_], [_], _, _ => rfl)⟩, T, R.T.gC⟩
abbrev st_InvalidInputs : Stmt := inClass (topS 2) 0
theorem scI_InvalidInputs : FnScope ["self", "value"] ["self", "value"] (defScope st_InvalidInputs) := ⟨rfl, rfl, rfl, by decide +kernel, rfl, by decide +kernel, by decide +kernel⟩
theorem xc_InvalidInputs (R : RawC K mg "InvalidInputs" "InvalidInputs.__init__" C fI ["ValueError", "Exception", "BaseException", "object"] "ValueError.__new__" st_InvalidInputs) (n0 : PySem.W.findIn K (.ref C) "value" = some none) : XCls P w K mg base "InvalidInputs" C ["value"] := by
  obtain ⟨fd, F⟩ := R.F
  have T := R.T.exk .v
  refine ⟨⟨fI, fd, init1 F scI_InvalidInputs (by rfl) T n0 (by decide) (by decide), R.iC, R.tI, kb_pos F 2 (fun _ _ _ _ _ _ us hl => match us, hl with | [_, _], _ => rfl), kb_kw F ["value"] (fun _ _ _ _ _ _ us ws h1 h2 => match us, ws, h1, h2 with | [_], [_], _, _ => rfl), kb_kr F ["value"] (fun _ _ _ _ _ _ us ws h1 h2 => match us, ws, h1, h2 with | [_], [_], _, _ => rfl)⟩, T, R.T.gC⟩
abbrev st_InvalidNumber : Stmt := inClass (topS 3) 0
theorem scI_InvalidNumber : FnScope ["self", "value"] ["self", "value"] (defScope st_InvalidNumber) := ⟨rfl, rfl, rfl, by decide +kernel, rfl, by decide +kernel, by decide +kernel⟩
theorem xc_InvalidNumber (R : RawC K mg "InvalidNumber" "InvalidNumber.__init__" C fI ["ValueError", "Exception", "BaseException", "object"] "ValueError.__new__" st_InvalidNumber) (n0 : PySem.W.findIn K (.ref C) "value" = some none) : XCls P w K mg base "InvalidNumber" C ["value"] := by
  obtain ⟨fd, F⟩ := R.F
  have T := R.T.exk .v
  refine ⟨⟨fI, fd, init1 F scI_InvalidNumber (by rfl) T n0 (by decide) (by decide), R.iC, R.tI, kb_pos F 2 (fun _ _ _ _ _ _ us hl => match us, hl with | [_, _], _ => rfl), kb_kw F ["value"] (fun _ _ _ _ _ _ us ws h1 h2 => match us, ws, h1, h2 with | [_], [_], _, _ => rfl), kb_kr F ["value"] (fun _ _ _ _ _ _ us ws h1 h2 => match us, ws, h1, h2 with | [_], [_], _, _ => rfl)⟩, T, R.T.gC⟩
abbrev st_InvalidThings : Stmt := inClass (topS 4) 0
theorem scI_InvalidThings : FnScope ["self", "value"] ["self", "value"] (defScope st_InvalidThings) := ⟨rfl, rfl, rfl, by decide +kernel, rfl, by decide +kernel, by decide +kernel⟩
theorem xc_InvalidThings (R : RawC K mg "InvalidThings" "InvalidThings.__init__" C fI ["ValueError", "Exception", "BaseException", "object"] "ValueError.__new__" st_InvalidThings) (n0 : PySem.W.findIn K (.ref C) "value" = some none) : XCls P w K mg base "InvalidThings" C ["value"] := by
  obtain ⟨fd, F⟩ := R.F
  have T := R.T.exk .v
  refine ⟨⟨fI, fd, init1 F scI_InvalidThings (by rfl) T n0 (by decide) (by decide), R.iC, R.tI, kb_pos F 2 (fun _ _ _ _ _ _ us hl => match us, hl with | [_, _], _ => rfl), kb_kw F ["value"] (fun _ _ _ _ _ _ us ws h1 h2 => match us, ws, h1, h2 with | [_], [_], _, _ => rfl), kb_kr F ["value"] (fun _ _ _ _ _ _ us ws h1 h2 => match us, ws, h1, h2 with | [_], [_], _, _ => rfl)⟩, T, R.T.gC⟩
abbrev st_InvalidView : Stmt := inClass (topS 5) 0
theorem scI_InvalidView : FnScope ["self", "value"] ["self", "value"] (defScope st_InvalidView) := ⟨rfl, rfl, rfl, by decide +kernel, rfl, by decide +kernel, by decide +kernel⟩
theorem xc_InvalidView (R : RawC K mg "InvalidView" "InvalidView.__init__" C fI ["ValueError", "Exception", "BaseException", "object"] "ValueError.__new__" st_InvalidView) (n0 : PySem.W.findIn K (.ref C) "value" = some none) : XCls P w K mg base "InvalidView" C ["value"] := by
  obtain ⟨fd, F⟩ := R.F
  have T := R.T.exk .v
  refine ⟨⟨fI, fd, init1 F scI_InvalidView (by rfl) T n0 (by decide) (by decide), R.iC, R.tI, kb_pos F 2 (fun _ _ _ _ _ _ us hl => match us, hl with | [_, _], _ => rfl), kb_kw F ["value"] (fun _ _ _ _ _ _ us ws h1 h2 => match us, ws, h1, h2 with | [_], [_], _, _ => rfl), kb_kr F ["value"] (fun _ _ _ _ _ _ us ws h1 h2 => match us, ws, h1, h2 with | [_], [_], _, _ => rfl)⟩, T, R.T.gC⟩
abbrev st_InvalidStep : Stmt := inClass (topS 6) 0
theorem scI_InvalidStep : FnScope ["self", "value"] ["self", "value"] (defScope st_InvalidStep) := ⟨rfl, rfl, rfl, by decide +kernel, rfl, by decide +kernel, by decide +kernel⟩
theorem xc_InvalidStep (R : RawC K mg "InvalidStep" "InvalidStep.__init__" C fI ["ValueError", "Exception", "BaseException", "object"] "ValueError.__new__" st_InvalidStep) (n0 : PySem.W.findIn K (.ref C) "value" = some none) : XCls P w K mg base "InvalidStep" C ["value"] := by
  obtain ⟨fd, F⟩ := R.F
  have T := R.T.exk .v
  refine ⟨⟨fI, fd, init1 F scI_InvalidStep (by rfl) T n0 (by decide) (by decide), R.iC, R.tI, kb_pos F 2 (fun _ _ _ _ _ _ us hl => match us, hl with | [_, _], _ => rfl), kb_kw F ["value"] (fun _ _ _ _ _ _ us ws h1 h2 => match us, ws, h1, h2 with | [_], [_], _, _ => rfl), kb_kr F ["value"] (fun _ _ _ _ _ _ us ws h1 h2 => match us, ws, h1, h2 with | [_], [_], _, _ => rfl)⟩, T, R.T.gC⟩
abbrev st_InvalidEdit : Stmt := inClass (topS 7) 0
theorem scI_InvalidEdit : FnScope ["self", "index"] ["self", "index"] (defScope st_InvalidEdit) := ⟨rfl, rfl, rfl, by decide +kernel, rfl, by decide +kernel, by decide +kernel⟩
theorem xc_InvalidEdit (R : RawC K mg "InvalidEdit" "InvalidEdit.__init__" C fI ["ValueError", "Exception", "BaseException", "object"] "ValueError.__new__" st_InvalidEdit) (n0 : PySem.W.findIn K (.ref C) "index" = some none) : XCls P w K mg base "InvalidEdit" C ["index"] := by
  obtain ⟨fd, F⟩ := R.F
  have T := R.T.exk .v
  refine ⟨⟨fI, fd, init1 F scI_InvalidEdit (by rfl) T n0 (by decide) (by decide), R.iC, R.tI, kb_pos F 2 (fun _ _ _ _ _ _ us hl => match us, hl with | [_, _], _ => rfl), kb_kw F ["index"] (fun _ _ _ _ _ _ us ws h1 h2 => match us, ws, h1, h2 with | [_], [_], _, _ => rfl), kb_kr F ["index"] (fun _ _ _ _ _ _ us ws h1 h2 => match us, ws, h1, h2 with | [_], [_], _, _ => rfl)⟩, T, R.T.gC⟩
abbrev st_InvalidRow : Stmt := inClass (topS 8) 0
theorem scI_InvalidRow : FnScope ["self", "value"] ["self", "value"] (defScope st_InvalidRow) := ⟨rfl, rfl, rfl, by decide +kernel, rfl, by decide +kernel, by decide +kernel⟩
theorem xc_InvalidRow (R : RawC K mg "InvalidRow" "InvalidRow.__init__" C fI ["ValueError", "Exception", "BaseException", "object"] "ValueError.__new__" st_InvalidRow) (n0 : PySem.W.findIn K (.ref C) "value" = some none) : XCls P w K mg base "InvalidRow" C ["value"] := by
  obtain ⟨fd, F⟩ := R.F
  have T := R.T.exk .v
  refine ⟨⟨fI, fd, init1 F scI_InvalidRow (by rfl) T n0 (by decide) (by decide), R.iC, R.tI, kb_pos F 2 (fun _ _ _ _ _ _ us hl => match us, hl with | [_, _], _ => rfl), kb_kw F ["value"] (fun _ _ _ _ _ _ us ws h1 h2 => match us, ws, h1, h2 with | [_], [_], _, _ => rfl), kb_kr F ["value"] (fun _ _ _ _ _ _ us ws h1 h2 => match us, ws, h1, h2 with | [_], [_], _, _ => rfl)⟩, T, R.T.gC⟩
abbrev st_ParseError : Stmt := inClass (topS 10) 0
theorem scI_ParseError : FnScope ["self", "line", "word"] ["self", "line", "word"] (defScope st_ParseError) := ⟨rfl, rfl, rfl, by decide +kernel, rfl, by decide +kernel, by decide +kernel⟩
theorem xc_ParseError (R : RawC K mg "ParseError" "ParseError.__init__" C fI ["ValueError", "Exception", "BaseException", "object"] "ValueError.__new__" st_ParseError) (n0 : PySem.W.findIn K (.ref C) "line" = some none) (n1 : PySem.W.findIn K (.ref C) "word" = some none) : XCls P w K mg base "ParseError" C ["line", "word"] := by
  obtain ⟨fd, F⟩ := R.F
  have T := R.T.exk .v
  refine ⟨⟨fI, fd, init2 F scI_ParseError (by rfl) T n0 n1 (by decide) (by decide) (by decide) (by decide), R.iC, R.tI, kb_pos F 3 (fun _ _ _ _ _ _ us hl => match us, hl with | [_, _, _], _ => rfl), kb_kw F ["line", "word"] (fun _ _ _ _ _ _ us ws h1 h2 => match us, ws, h1, h2 with | [_], [_, _], _, _ => rfl), kb_kr F ["line", "word"] (fun _ _ _ _ _ _ us ws h1 h2 => match us, ws, h1, h2 with | [_], [_, _], _, _ => rfl)⟩, T, R.T.gC⟩
abbrev st_WrongInputs : Stmt := inClass (topS 9) 0
theorem scI_WrongInputs : FnScope ["self"] ["self"] (defScope st_WrongInputs) := ⟨rfl, rfl, rfl, by decide +kernel, rfl, by decide +kernel, by decide +kernel⟩
theorem xc_WrongInputs (R : RawC K mg "WrongInputs" "WrongInputs.__init__" C fI ["ValueError", "Exception", "BaseException", "object"] "ValueError.__new__" st_WrongInputs) (A : AskC K C) (hm : mg "ValueError" = none) (vV : PySem.W.findCls K (.type "ValueError") (.type "type") "__init__" = some (.val (.builtin "ValueError.__init__"))) : XCls0 P w K mg base "WrongInputs" C := by
  obtain ⟨fd, F⟩ := R.F
  have T := R.T.exk .v
  have O : OexC K C := OexC.of R.T A
  refine ⟨⟨fI, fd, F.ok scI_WrongInputs (fun vs H Q E h => ?_) fun cdv A outer s H vs Q E hr h => ?_, R.iC, R.tI, kb_pos F 1 (fun _ _ _ _ _ _ us hl => match us, hl with | [_], _ => rfl)⟩, T, R.T.gC⟩
  · obtain ⟨a, rfl, _⟩ := h
    rfl
  · obtain ⟨a, rfl, ha, q⟩ := h
    refine ⟨_, pss_one (ps_expr (pe_veinit (by rfl) hm vV (pa_cons (pv 0) (pa_cons pe_str pa_nil)))), ?_⟩
    exact ⟨_, rfl, a, C, _, rfl, by decide, O, ha, q⟩
abbrev st_UnknownName : Stmt := inClass (topS 11) 0
theorem scI_UnknownName : FnScope ["self", "value"] ["self", "value"] (defScope st_UnknownName) := ⟨rfl, rfl, rfl, by decide +kernel, rfl, by decide +kernel, by decide +kernel⟩
theorem xc_UnknownName (R : RawC K mg "UnknownName" "UnknownName.__init__" C fI ["KeyError", "LookupError", "Exception", "BaseException", "object"] "LookupError.__new__" st_UnknownName) (n0 : PySem.W.findIn K (.ref C) "value" = some none) : XCls P w K mg base "UnknownName" C ["value"] := by
  obtain ⟨fd, F⟩ := R.F
  have T := R.T.exk .k
  refine ⟨⟨fI, fd, init1 F scI_UnknownName (by rfl) T n0 (by decide) (by decide), R.iC, R.tI, kb_pos F 2 (fun _ _ _ _ _ _ us hl => match us, hl with | [_, _], _ => rfl), kb_kw F ["value"] (fun _ _ _ _ _ _ us ws h1 h2 => match us, ws, h1, h2 with | [_], [_], _, _ => rfl), kb_kr F ["value"] (fun _ _ _ _ _ _ us ws h1 h2 => match us, ws, h1, h2 with | [_], [_], _, _ => rfl)⟩, T, R.T.gC⟩
abbrev st_UnknownPlace : Stmt := inClass (topS 12) 0
theorem scI_UnknownPlace : FnScope ["self", "value"] ["self", "value"] (defScope st_UnknownPlace) := ⟨rfl, rfl, rfl, by decide +kernel, rfl, by decide +kernel, by decide +kernel⟩
theorem xc_UnknownPlace (R : RawC K mg "UnknownPlace" "UnknownPlace.__init__" C fI ["KeyError", "LookupError", "Exception", "BaseException", "object"] "LookupError.__new__" st_UnknownPlace) (n0 : PySem.W.findIn K (.ref C) "value" = some none) : XCls P w K mg base "UnknownPlace" C ["value"] := by
  obtain ⟨fd, F⟩ := R.F
  have T := R.T.exk .k
  refine ⟨⟨fI, fd, init1 F scI_UnknownPlace (by rfl) T n0 (by decide) (by decide), R.iC, R.tI, kb_pos F 2 (fun _ _ _ _ _ _ us hl => match us, hl with | [_, _], _ => rfl), kb_kw F ["value"] (fun _ _ _ _ _ _ us ws h1 h2 => match us, ws, h1, h2 with | [_], [_], _, _ => rfl), kb_kr F ["value"] (fun _ _ _ _ _ _ us ws h1 h2 => match us, ws, h1, h2 with | [_], [_], _, _ => rfl)⟩, T, R.T.gC⟩
abbrev st_WrongPlace : Stmt := inClass (topS 13) 0
theorem scI_WrongPlace : FnScope ["self", "place"] ["self", "place"] (defScope st_WrongPlace) := ⟨rfl, rfl, rfl, by decide +kernel, rfl, by decide +kernel, by decide +kernel⟩
theorem xc_WrongPlace (R : RawC K mg "WrongPlace" "WrongPlace.__init__" C fI ["LookupError", "Exception", "BaseException", "object"] "LookupError.__new__" st_WrongPlace) (n0 : PySem.W.findIn K (.ref C) "place" = some none) : XCls P w K mg base "WrongPlace" C ["place"] := by
  obtain ⟨fd, F⟩ := R.F
  have T := R.T.exk .l
  refine ⟨⟨fI, fd, init1 F scI_WrongPlace (by rfl) T n0 (by decide) (by decide), R.iC, R.tI, kb_pos F 2 (fun _ _ _ _ _ _ us hl => match us, hl with | [_, _], _ => rfl), kb_kw F ["place"] (fun _ _ _ _ _ _ us ws h1 h2 => match us, ws, h1, h2 with | [_], [_], _, _ => rfl), kb_kr F ["place"] (fun _ _ _ _ _ _ us ws h1 h2 => match us, ws, h1, h2 with | [_], [_], _, _ => rfl)⟩, T, R.T.gC⟩
abbrev st_Broken : Stmt := inClass (topS 14) 0
theorem scI_Broken : FnScope ["self", "index"] ["self", "index"] (defScope st_Broken) := ⟨rfl, rfl, rfl, by decide +kernel, rfl, by decide +kernel, by decide +kernel⟩
theorem xc_Broken (R : RawC K mg "Broken" "Broken.__init__" C fI ["RuntimeError", "Exception", "BaseException", "object"] "RuntimeError.__new__" st_Broken) (n0 : PySem.W.findIn K (.ref C) "index" = some none) : XCls P w K mg base "Broken" C ["index"] := by
  obtain ⟨fd, F⟩ := R.F
  have T := R.T.exk .r
  refine ⟨⟨fI, fd, init1 F scI_Broken (by rfl) T n0 (by decide) (by decide), R.iC, R.tI, kb_pos F 2 (fun _ _ _ _ _ _ us hl => match us, hl with | [_, _], _ => rfl), kb_kw F ["index"] (fun _ _ _ _ _ _ us ws h1 h2 => match us, ws, h1, h2 with | [_], [_], _, _ => rfl), kb_kr F ["index"] (fun _ _ _ _ _ _ us ws h1 h2 => match us, ws, h1, h2 with | [_], [_], _, _ => rfl)⟩, T, R.T.gC⟩
end
def nms : List Str := ["InvalidModule", "InvalidInputs", "InvalidNumber", "InvalidThings", "InvalidView", "InvalidStep", "InvalidEdit", "InvalidRow", "ParseError", "WrongInputs", "UnknownName", "UnknownPlace", "WrongPlace", "Broken"]
def nmOf (i : Nat) : Str := nms.getD i ""
def bss : List (List String) := [["ValueError", "Exception", "BaseException", "object"], ["ValueError", "Exception", "BaseException", "object"], ["ValueError", "Exception", "BaseException", "object"], ["ValueError", "Exception", "BaseException", "object"], ["ValueError", "Exception", "BaseException", "object"], ["ValueError", "Exception", "BaseException", "object"], ["ValueError", "Exception", "BaseException", "object"], ["ValueError", "Exception", "BaseException", "object"], ["ValueError", "Exception", "BaseException", "object"], ["ValueError", "Exception", "BaseException", "object"], ["KeyError", "LookupError", "Exception", "BaseException", "object"], ["KeyError", "LookupError", "Exception", "BaseException", "object"], ["LookupError", "Exception", "BaseException", "object"], ["RuntimeError", "Exception", "BaseException", "object"]]
def bsOf (i : Nat) : List String := bss.getD i []
theorem nm_inj : ∀ i ∈ List.range 14, ∀ j ∈ List.range 14, nmOf i = nmOf j → i = j := by decide +kernel
def Row (K : PySem.W.Frag) (mg : Str → Option Value) (c : Nat → Nat) (i : Nat) : Prop := ∃ (q : Str) (f : Addr) (nid : String) (st : Stmt), RawC K mg (nmOf i) q (c i) f (bsOf i) nid st ∧ Base nid (bsOf i)
theorem row_apart {K : PySem.W.Frag} {mg : Str → Option Value} {c : Nat → Nat} (R : ∀ i, i < 14 → Row K mg c i) : Apart c := by
  intro i hi j hj e
  obtain ⟨q1, f1, n1, s1, r1, _⟩ := R i (List.mem_range.mp hi)
  obtain ⟨q2, f2, n2, s2, r2, _⟩ := R j (List.mem_range.mp hj)
  rw [← e] at r2
  exact nm_inj i hi j hj (apart_of r1 r2)
theorem wd_ValueError_is : ∀ i ∈ List.range 14, (bsOf i).contains "ValueError" = wd_ValueError i := by decide +kernel
theorem wd_KeyError_is : ∀ i ∈ List.range 14, (bsOf i).contains "KeyError" = wd_KeyError i := by decide +kernel
theorem wd_LookupError_is : ∀ i ∈ List.range 14, (bsOf i).contains "LookupError" = wd_LookupError i := by decide +kernel
theorem wd_RuntimeError_is : ∀ i ∈ List.range 14, (bsOf i).contains "RuntimeError" = wd_RuntimeError i := by decide +kernel
theorem row_kk {K : PySem.W.Frag} {mg : Str → Option Value} {c : Nat → Nat} (R : ∀ i, i < 14 → Row K mg c i) : ∀ j, j < 14 → ∀ i, i < 14 → PySem.W.kitOne K (.ref (c i)) (.ref (c j)) = some (i == j) := by
  intro j hj i hi
  obtain ⟨q1, f1, n1, s1, r1, _⟩ := R i hi
  obtain ⟨q2, f2, n2, s2, r2, _⟩ := R j hj
  obtain ⟨cd, h1, h2, _⟩ := r1.T.data
  obtain ⟨dd, g1, _, _⟩ := r2.T.data
  rw [kit_own h1 h2 g1 r2.T.typ]
  by_cases e : i = j
  · subst e
    rw [beq_self_eq_true, beq_self_eq_true]
  · have e2 : ¬ c i = c j := fun z => e (row_apart R i (List.mem_range.mpr hi) j (List.mem_range.mpr hj) z)
    have e3 : (c i == c j) = false := beq_eq_false_iff_ne.mpr e2
    have e4 : (i == j) = false := beq_eq_false_iff_ne.mpr e
    rw [e3, e4]
theorem row_kt {K : PySem.W.Frag} {mg : Str → Option Value} {c : Nat → Nat} (R : ∀ i, i < 14 → Row K mg c i) {T : String} {g : Nat → Bool} (hT : PySem.W.kitMeta T = true) (hg : ∀ i ∈ List.range 14, (bsOf i).contains T = g i) : ∀ i, i < 14 → PySem.W.kitOne K (.ref (c i)) (.type T) = some (g i) := by
  intro i hi
  obtain ⟨q1, f1, n1, s1, r1, _⟩ := R i hi
  obtain ⟨cd, h1, h2, _⟩ := r1.T.data
  rw [kit_typ h1 h2 hT, hg i (List.mem_range.mpr hi)]
theorem wd_mk {P : Program} {w : World} {K : PySem.W.Frag} {mg : Str → Option Value} {base : Heap} {C0 C1 C2 C3 C4 C5 C6 C7 C8 C9 C10 C11 C12 C13 C14 f0 f1 f2 f3 f4 f5 f6 f7 f8 f9 f10 f11 f12 f13 : Addr}
    (R0 : RawC K mg "InvalidModule" "InvalidModule.__init__" C0 f0 ["ValueError", "Exception", "BaseException", "object"] "ValueError.__new__" st_InvalidModule) (g0_reason : PySem.W.findIn K (.ref C0) "reason" = some none)
    (R1 : RawC K mg "InvalidInputs" "InvalidInputs.__init__" C1 f1 ["ValueError", "Exception", "BaseException", "object"] "ValueError.__new__" st_InvalidInputs) (g1_value : PySem.W.findIn K (.ref C1) "value" = some none)
    (R2 : RawC K mg "InvalidNumber" "InvalidNumber.__init__" C2 f2 ["ValueError", "Exception", "BaseException", "object"] "ValueError.__new__" st_InvalidNumber) (g2_value : PySem.W.findIn K (.ref C2) "value" = some none)
    (R3 : RawC K mg "InvalidThings" "InvalidThings.__init__" C3 f3 ["ValueError", "Exception", "BaseException", "object"] "ValueError.__new__" st_InvalidThings) (g3_value : PySem.W.findIn K (.ref C3) "value" = some none)
    (R4 : RawC K mg "InvalidView" "InvalidView.__init__" C4 f4 ["ValueError", "Exception", "BaseException", "object"] "ValueError.__new__" st_InvalidView) (g4_value : PySem.W.findIn K (.ref C4) "value" = some none)
    (R5 : RawC K mg "InvalidStep" "InvalidStep.__init__" C5 f5 ["ValueError", "Exception", "BaseException", "object"] "ValueError.__new__" st_InvalidStep) (g5_value : PySem.W.findIn K (.ref C5) "value" = some none)
    (R6 : RawC K mg "InvalidEdit" "InvalidEdit.__init__" C6 f6 ["ValueError", "Exception", "BaseException", "object"] "ValueError.__new__" st_InvalidEdit) (g6_index : PySem.W.findIn K (.ref C6) "index" = some none)
    (R7 : RawC K mg "InvalidRow" "InvalidRow.__init__" C7 f7 ["ValueError", "Exception", "BaseException", "object"] "ValueError.__new__" st_InvalidRow) (g7_value : PySem.W.findIn K (.ref C7) "value" = some none)
    (R8 : RawC K mg "ParseError" "ParseError.__init__" C8 f8 ["ValueError", "Exception", "BaseException", "object"] "ValueError.__new__" st_ParseError) (g8_line : PySem.W.findIn K (.ref C8) "line" = some none) (g8_word : PySem.W.findIn K (.ref C8) "word" = some none)
    (R9 : RawC K mg "WrongInputs" "WrongInputs.__init__" C9 f9 ["ValueError", "Exception", "BaseException", "object"] "ValueError.__new__" st_WrongInputs)
    (R10 : RawC K mg "UnknownName" "UnknownName.__init__" C10 f10 ["KeyError", "LookupError", "Exception", "BaseException", "object"] "LookupError.__new__" st_UnknownName) (g10_value : PySem.W.findIn K (.ref C10) "value" = some none)
    (R11 : RawC K mg "UnknownPlace" "UnknownPlace.__init__" C11 f11 ["KeyError", "LookupError", "Exception", "BaseException", "object"] "LookupError.__new__" st_UnknownPlace) (g11_value : PySem.W.findIn K (.ref C11) "value" = some none)
    (R12 : RawC K mg "WrongPlace" "WrongPlace.__init__" C12 f12 ["LookupError", "Exception", "BaseException", "object"] "LookupError.__new__" st_WrongPlace) (g12_place : PySem.W.findIn K (.ref C12) "place" = some none)
    (R13 : RawC K mg "Broken" "Broken.__init__" C13 f13 ["RuntimeError", "Exception", "BaseException", "object"] "RuntimeError.__new__" st_Broken) (g13_index : PySem.W.findIn K (.ref C13) "index" = some none)
    (gt : PySem.W.specialIn K (.builtin "object.__class__") "__get__" = some (some (.builtin "getset_descriptor.__get__"))) (tk : PySem.W.takesIn K (.builtin "object.__class__") = some true) (hV : mg "ValueError" = none) (vV : PySem.W.findCls K (.type "ValueError") (.type "type") "__init__" = some (.val (.builtin "ValueError.__init__")))
    (lm : mg "Limits" = some (.ref C14)) (lr : ClX.CRead K C14 (.type "type"))
    (l_MOST_KINDS : ∃ u, ClX.CVal K C14 (.type "type") "MOST_KINDS" (.int 8) u)
    (l_MOST_FIELDS : ∃ u, ClX.CVal K C14 (.type "type") "MOST_FIELDS" (.int 6) u)
    (l_MOST_FUNCTIONS : ∃ u, ClX.CVal K C14 (.type "type") "MOST_FUNCTIONS" (.int 8) u)
    (l_MOST_PARAMETERS : ∃ u, ClX.CVal K C14 (.type "type") "MOST_PARAMETERS" (.int 4) u)
    (l_MOST_BLOCKS : ∃ u, ClX.CVal K C14 (.type "type") "MOST_BLOCKS" (.int 12) u)
    (l_MOST_BLOCK_PARAMETERS : ∃ u, ClX.CVal K C14 (.type "type") "MOST_BLOCK_PARAMETERS" (.int 6) u)
    (l_MOST_INSTRUCTIONS : ∃ u, ClX.CVal K C14 (.type "type") "MOST_INSTRUCTIONS" (.int 40) u)
    (l_MOST_PLACES : ∃ u, ClX.CVal K C14 (.type "type") "MOST_PLACES" (.int 120) u)
    (l_MOST_ELEMENTS : ∃ u, ClX.CVal K C14 (.type "type") "MOST_ELEMENTS" (.int 60) u)
    (l_MOST_STEPS : ∃ u, ClX.CVal K C14 (.type "type") "MOST_STEPS" (.int 20000) u)
    (l_MOST_CALLS : ∃ u, ClX.CVal K C14 (.type "type") "MOST_CALLS" (.int 40) u)
    : Apart (cOf [C0, C1, C2, C3, C4, C5, C6, C7, C8, C9, C10, C11, C12, C13, C14]) ∧ Wd P w K mg base (cOf [C0, C1, C2, C3, C4, C5, C6, C7, C8, C9, C10, C11, C12, C13, C14]) := by
  have Rw : ∀ i, i < 14 → Row K mg (cOf [C0, C1, C2, C3, C4, C5, C6, C7, C8, C9, C10, C11, C12, C13, C14]) i := by
    intro i hi
    match i, hi with
    | 0, _ => exact ⟨_, _, _, _, R0, .v⟩
    | 1, _ => exact ⟨_, _, _, _, R1, .v⟩
    | 2, _ => exact ⟨_, _, _, _, R2, .v⟩
    | 3, _ => exact ⟨_, _, _, _, R3, .v⟩
    | 4, _ => exact ⟨_, _, _, _, R4, .v⟩
    | 5, _ => exact ⟨_, _, _, _, R5, .v⟩
    | 6, _ => exact ⟨_, _, _, _, R6, .v⟩
    | 7, _ => exact ⟨_, _, _, _, R7, .v⟩
    | 8, _ => exact ⟨_, _, _, _, R8, .v⟩
    | 9, _ => exact ⟨_, _, _, _, R9, .v⟩
    | 10, _ => exact ⟨_, _, _, _, R10, .k⟩
    | 11, _ => exact ⟨_, _, _, _, R11, .k⟩
    | 12, _ => exact ⟨_, _, _, _, R12, .l⟩
    | 13, _ => exact ⟨_, _, _, _, R13, .r⟩
    | n + 14, h => omega
  have A : ∀ i, i < 14 → AskC K (cOf [C0, C1, C2, C3, C4, C5, C6, C7, C8, C9, C10, C11, C12, C13, C14] i) := by
    intro i hi
    obtain ⟨q, f, nid, st, r, b⟩ := Rw i hi
    exact r.T.ask b gt tk
  refine ⟨row_apart Rw, {
    x_InvalidModule := xc_InvalidModule R0 g0_reason
    f_InvalidModule_reason := g0_reason
    x_InvalidInputs := xc_InvalidInputs R1 g1_value
    f_InvalidInputs_value := g1_value
    x_InvalidNumber := xc_InvalidNumber R2 g2_value
    f_InvalidNumber_value := g2_value
    x_InvalidThings := xc_InvalidThings R3 g3_value
    f_InvalidThings_value := g3_value
    x_InvalidView := xc_InvalidView R4 g4_value
    f_InvalidView_value := g4_value
    x_InvalidStep := xc_InvalidStep R5 g5_value
    f_InvalidStep_value := g5_value
    x_InvalidEdit := xc_InvalidEdit R6 g6_index
    f_InvalidEdit_index := g6_index
    x_InvalidRow := xc_InvalidRow R7 g7_value
    f_InvalidRow_value := g7_value
    x_ParseError := xc_ParseError R8 g8_line g8_word
    f_ParseError_line := g8_line
    f_ParseError_word := g8_word
    x_WrongInputs := xc_WrongInputs R9 (A 9 (by decide)) hV vV
    x_UnknownName := xc_UnknownName R10 g10_value
    f_UnknownName_value := g10_value
    x_UnknownPlace := xc_UnknownPlace R11 g11_value
    f_UnknownPlace_value := g11_value
    x_WrongPlace := xc_WrongPlace R12 g12_place
    f_WrongPlace_place := g12_place
    x_Broken := xc_Broken R13 g13_index
    f_Broken_index := g13_index
    a := A
    kk := row_kk Rw
    kt_ValueError := row_kt Rw (by decide +kernel) wd_ValueError_is
    kt_KeyError := row_kt Rw (by decide +kernel) wd_KeyError_is
    kt_LookupError := row_kt Rw (by decide +kernel) wd_LookupError_is
    kt_RuntimeError := row_kt Rw (by decide +kernel) wd_RuntimeError_is
    l_m := lm
    l_r := lr
    l_MOST_KINDS := l_MOST_KINDS
    l_MOST_FIELDS := l_MOST_FIELDS
    l_MOST_FUNCTIONS := l_MOST_FUNCTIONS
    l_MOST_PARAMETERS := l_MOST_PARAMETERS
    l_MOST_BLOCKS := l_MOST_BLOCKS
    l_MOST_BLOCK_PARAMETERS := l_MOST_BLOCK_PARAMETERS
    l_MOST_INSTRUCTIONS := l_MOST_INSTRUCTIONS
    l_MOST_PLACES := l_MOST_PLACES
    l_MOST_ELEMENTS := l_MOST_ELEMENTS
    l_MOST_STEPS := l_MOST_STEPS
    l_MOST_CALLS := l_MOST_CALLS
  }⟩
theorem law_cal {P : Program} {w : World} {K : PySem.W.Frag} {mg : Str → Option Value} {base : Heap} {c : Nat → Nat} (W : Wd P w K mg base c) (B : Bn mg)
    (D__law_pen : Dfn K mg "_law_pen" s__law_pen ["_law_script"])
    (D__law_draw : Dfn K mg "_law_draw" s__law_draw ["_law_pen_here", "_law_many"])
    (D__law_pick : Dfn K mg "_law_pick" s__law_pick ["_law_pen_here", "_law_options"])
    (D__law_any_value : Dfn K mg "_law_any_value" s__law_any_value ["_law_pen_here"])
    (D__law_fields : Dfn K mg "_law_fields" s__law_fields ["_law_thing", "_law_other"])
    (D__law_all_errors : Dfn K mg "_law_all_errors" s__law_all_errors ["_law_thing"])
    (D__law_classes : Dfn K mg "_law_classes" s__law_classes ["_law_own"])
    (D__law_wide_ones : Dfn K mg "_law_wide_ones" s__law_wide_ones ["_law_own"])
    (D__law_bounds : Dfn K mg "_law_bounds" s__law_bounds [])
    (D_law : Dfn K mg "law" s_law ["_law_script"])
    : Cal P w K mg base "law" ["_law_script"] 4 (fDef 12 (fb_law F_pen F_any (F_fields c) (F_all c) (F_classes c) (F_wide c) (F_bounds c))) :=
  cal_law D_law B (cal__law_pen D__law_pen B) (cal__law_any_value D__law_any_value B (cal__law_pick D__law_pick B (cal__law_draw D__law_draw B))) (cal__law_fields W D__law_fields B) (cal__law_all_errors W D__law_all_errors B) (cal__law_classes W D__law_classes B) (cal__law_wide_ones W D__law_wide_ones B) (cal__law_bounds W D__law_bounds B)
theorem fin {P : Program} {w : World} {K : PySem.W.Frag} {h : Heap} {mg : Str → Option Value} {fa : Addr} (X : K.In h) (Gm : h.Ns mainGlobals mg) (hmg : mg "law" = some (.ref fa)) {C0 C1 C2 C3 C4 C5 C6 C7 C8 C9 C10 C11 C12 C13 C14 f0 f1 f2 f3 f4 f5 f6 f7 f8 f9 f10 f11 f12 f13 : Addr} {t0 t1 t2 t3 t4 t5 t6 t7 t8 t9 t10 : Tok}
    (R0 : RawC K mg "InvalidModule" "InvalidModule.__init__" C0 f0 ["ValueError", "Exception", "BaseException", "object"] "ValueError.__new__" st_InvalidModule)
    (R1 : RawC K mg "InvalidInputs" "InvalidInputs.__init__" C1 f1 ["ValueError", "Exception", "BaseException", "object"] "ValueError.__new__" st_InvalidInputs)
    (R2 : RawC K mg "InvalidNumber" "InvalidNumber.__init__" C2 f2 ["ValueError", "Exception", "BaseException", "object"] "ValueError.__new__" st_InvalidNumber)
    (R3 : RawC K mg "InvalidThings" "InvalidThings.__init__" C3 f3 ["ValueError", "Exception", "BaseException", "object"] "ValueError.__new__" st_InvalidThings)
    (R4 : RawC K mg "InvalidView" "InvalidView.__init__" C4 f4 ["ValueError", "Exception", "BaseException", "object"] "ValueError.__new__" st_InvalidView)
    (R5 : RawC K mg "InvalidStep" "InvalidStep.__init__" C5 f5 ["ValueError", "Exception", "BaseException", "object"] "ValueError.__new__" st_InvalidStep)
    (R6 : RawC K mg "InvalidEdit" "InvalidEdit.__init__" C6 f6 ["ValueError", "Exception", "BaseException", "object"] "ValueError.__new__" st_InvalidEdit)
    (R7 : RawC K mg "InvalidRow" "InvalidRow.__init__" C7 f7 ["ValueError", "Exception", "BaseException", "object"] "ValueError.__new__" st_InvalidRow)
    (R8 : RawC K mg "ParseError" "ParseError.__init__" C8 f8 ["ValueError", "Exception", "BaseException", "object"] "ValueError.__new__" st_ParseError)
    (R9 : RawC K mg "WrongInputs" "WrongInputs.__init__" C9 f9 ["ValueError", "Exception", "BaseException", "object"] "ValueError.__new__" st_WrongInputs)
    (R10 : RawC K mg "UnknownName" "UnknownName.__init__" C10 f10 ["KeyError", "LookupError", "Exception", "BaseException", "object"] "LookupError.__new__" st_UnknownName)
    (R11 : RawC K mg "UnknownPlace" "UnknownPlace.__init__" C11 f11 ["KeyError", "LookupError", "Exception", "BaseException", "object"] "LookupError.__new__" st_UnknownPlace)
    (R12 : RawC K mg "WrongPlace" "WrongPlace.__init__" C12 f12 ["LookupError", "Exception", "BaseException", "object"] "LookupError.__new__" st_WrongPlace)
    (R13 : RawC K mg "Broken" "Broken.__init__" C13 f13 ["RuntimeError", "Exception", "BaseException", "object"] "RuntimeError.__new__" st_Broken)
    (g0_reason : PySem.W.findIn K (.ref C0) "reason" = some none)
    (g1_value : PySem.W.findIn K (.ref C1) "value" = some none)
    (g2_value : PySem.W.findIn K (.ref C2) "value" = some none)
    (g3_value : PySem.W.findIn K (.ref C3) "value" = some none)
    (g4_value : PySem.W.findIn K (.ref C4) "value" = some none)
    (g5_value : PySem.W.findIn K (.ref C5) "value" = some none)
    (g6_index : PySem.W.findIn K (.ref C6) "index" = some none)
    (g7_value : PySem.W.findIn K (.ref C7) "value" = some none)
    (g8_line : PySem.W.findIn K (.ref C8) "line" = some none)
    (g8_word : PySem.W.findIn K (.ref C8) "word" = some none)
    (g10_value : PySem.W.findIn K (.ref C10) "value" = some none)
    (g11_value : PySem.W.findIn K (.ref C11) "value" = some none)
    (g12_place : PySem.W.findIn K (.ref C12) "place" = some none)
    (g13_index : PySem.W.findIn K (.ref C13) "index" = some none)
    (gt : PySem.W.specialIn K (.builtin "object.__class__") "__get__" = some (some (.builtin "getset_descriptor.__get__"))) (tk : PySem.W.takesIn K (.builtin "object.__class__") = some true) (vV : PySem.W.findCls K (.type "ValueError") (.type "type") "__init__" = some (.val (.builtin "ValueError.__init__")))
    (aL : PySem.W.nsIn K mainGlobals "Limits" = some (some (.ref C14))) (rL : PySem.W.readsIn K C14 (.type "type") = true) (gL : PySem.W.specialIn K (.ref C14) "__getattribute__" = some (some (.builtin "type.__getattribute__")))
    (v_MOST_KINDS : PySem.W.findCls K (.ref C14) (.type "type") "MOST_KINDS" = some (.val (.int 8 t0)))
    (v_MOST_FIELDS : PySem.W.findCls K (.ref C14) (.type "type") "MOST_FIELDS" = some (.val (.int 6 t1)))
    (v_MOST_FUNCTIONS : PySem.W.findCls K (.ref C14) (.type "type") "MOST_FUNCTIONS" = some (.val (.int 8 t2)))
    (v_MOST_PARAMETERS : PySem.W.findCls K (.ref C14) (.type "type") "MOST_PARAMETERS" = some (.val (.int 4 t3)))
    (v_MOST_BLOCKS : PySem.W.findCls K (.ref C14) (.type "type") "MOST_BLOCKS" = some (.val (.int 12 t4)))
    (v_MOST_BLOCK_PARAMETERS : PySem.W.findCls K (.ref C14) (.type "type") "MOST_BLOCK_PARAMETERS" = some (.val (.int 6 t5)))
    (v_MOST_INSTRUCTIONS : PySem.W.findCls K (.ref C14) (.type "type") "MOST_INSTRUCTIONS" = some (.val (.int 40 t6)))
    (v_MOST_PLACES : PySem.W.findCls K (.ref C14) (.type "type") "MOST_PLACES" = some (.val (.int 120 t7)))
    (v_MOST_ELEMENTS : PySem.W.findCls K (.ref C14) (.type "type") "MOST_ELEMENTS" = some (.val (.int 60 t8)))
    (v_MOST_STEPS : PySem.W.findCls K (.ref C14) (.type "type") "MOST_STEPS" = some (.val (.int 20000 t9)))
    (v_MOST_CALLS : PySem.W.findCls K (.ref C14) (.type "type") "MOST_CALLS" = some (.val (.int 40 t10)))
    (B : Bn mg)
    (D__law_pen : Dfn K mg "_law_pen" s__law_pen ["_law_script"])
    (D__law_draw : Dfn K mg "_law_draw" s__law_draw ["_law_pen_here", "_law_many"])
    (D__law_pick : Dfn K mg "_law_pick" s__law_pick ["_law_pen_here", "_law_options"])
    (D__law_any_value : Dfn K mg "_law_any_value" s__law_any_value ["_law_pen_here"])
    (D__law_fields : Dfn K mg "_law_fields" s__law_fields ["_law_thing", "_law_other"])
    (D__law_all_errors : Dfn K mg "_law_all_errors" s__law_all_errors ["_law_thing"])
    (D__law_classes : Dfn K mg "_law_classes" s__law_classes ["_law_own"])
    (D__law_wide_ones : Dfn K mg "_law_wide_ones" s__law_wide_ones ["_law_own"])
    (D__law_bounds : Dfn K mg "_law_bounds" s__law_bounds [])
    (D_law : Dfn K mg "law" s_law ["_law_script"])
    : ∃ G : FD, (∀ ns : List Int, ns.length ≤ 63 → ∃ as', G [.scr ns] = some (.bool true, as')) ∧ ∀ base : Heap, K.In base → base.Ns mainGlobals mg → Cal P w K mg base "law" ["_law_script"] 4 G := by
  have Wm := fun base : Heap => wd_mk (P := P) (w := w) (base := base) R0 g0_reason R1 g1_value R2 g2_value R3 g3_value R4 g4_value R5 g5_value R6 g6_index R7 g7_value R8 g8_line g8_word R9 R10 g10_value R11 g11_value R12 g12_place R13 g13_index gt tk B.n_ValueError vV (PySem.W.mg_of X Gm aL) ⟨rL, gL⟩ ⟨_, v_MOST_KINDS, ⟨t0, rfl⟩⟩ ⟨_, v_MOST_FIELDS, ⟨t1, rfl⟩⟩ ⟨_, v_MOST_FUNCTIONS, ⟨t2, rfl⟩⟩ ⟨_, v_MOST_PARAMETERS, ⟨t3, rfl⟩⟩ ⟨_, v_MOST_BLOCKS, ⟨t4, rfl⟩⟩ ⟨_, v_MOST_BLOCK_PARAMETERS, ⟨t5, rfl⟩⟩ ⟨_, v_MOST_INSTRUCTIONS, ⟨t6, rfl⟩⟩ ⟨_, v_MOST_PLACES, ⟨t7, rfl⟩⟩ ⟨_, v_MOST_ELEMENTS, ⟨t8, rfl⟩⟩ ⟨_, v_MOST_STEPS, ⟨t9, rfl⟩⟩ ⟨_, v_MOST_CALLS, ⟨t10, rfl⟩⟩
  exact ⟨_, fun ns hn => law_ok (Wm h).1 ns hn, fun base _ _ => law_cal (Wm base).2 B D__law_pen D__law_draw D__law_pick D__law_any_value D__law_fields D__law_all_errors D__law_classes D__law_wide_ones D__law_bounds D_law⟩
end K98
set_option Elab.async false
open PySem PySem.W PyProof.Rows
set_option maxRecDepth 100000 in
set_option maxHeartbeats 0 in
theorem PySem.Challenge.cw_clobberwalk_k98_errors_and_limits_holds : PySem.Challenge.rw_clobberwalk_k98_errors_and_limits.Holds := by
  w_on; o_law; k_head; (case hw => w_witness2)
  k_fill
  refine Y.walk_data (l := PySem.Challenge.rw_clobberwalk_k98_errors_and_limits) (n := 63) (k := 4) (x := "_law_script") rfl (by decide) rfl ⟨rfl, by decide, by decide⟩ (fun w h Y => PySem.W.kIn_of Y) ?F
  case F =>
    intro w mg fa h KX G hmg
    refine' E98.raw_in KX G "InvalidModule" "InvalidModule.__init__" ["ValueError", "Exception", "BaseException", "object"] [.type "ValueError", .type "Exception", .type "BaseException", .type "object"] "ValueError.__new__" K98.st_InvalidModule rfl ?aC_1 ?xL_1 ?sa_1 ?ga_1 ?gg_1 ?cl_1 ?kC_1 ?iC_1 ?tI_1 ?lI_1 ?cI_1 ?kI_1 ?nxt_1
    (case aC_1 => k_is)
    (case xL_1 => k_is)
    (case sa_1 => k_is)
    (case ga_1 => k_is)
    (case gg_1 => k_is)
    (case cl_1 => k_is)
    (case kC_1 => k_is)
    (case iC_1 => k_is)
    (case tI_1 => k_is)
    (case lI_1 => k_is)
    (case cI_1 => k_is)
    (case kI_1 => k_is)
    intro R0
    refine' E98.raw_in KX G "InvalidInputs" "InvalidInputs.__init__" ["ValueError", "Exception", "BaseException", "object"] [.type "ValueError", .type "Exception", .type "BaseException", .type "object"] "ValueError.__new__" K98.st_InvalidInputs rfl ?aC_2 ?xL_2 ?sa_2 ?ga_2 ?gg_2 ?cl_2 ?kC_2 ?iC_2 ?tI_2 ?lI_2 ?cI_2 ?kI_2 ?nxt_2
    (case aC_2 => k_is)
    (case xL_2 => k_is)
    (case sa_2 => k_is)
    (case ga_2 => k_is)
    (case gg_2 => k_is)
    (case cl_2 => k_is)
    (case kC_2 => k_is)
    (case iC_2 => k_is)
    (case tI_2 => k_is)
    (case lI_2 => k_is)
    (case cI_2 => k_is)
    (case kI_2 => k_is)
    intro R1
    refine' E98.raw_in KX G "InvalidNumber" "InvalidNumber.__init__" ["ValueError", "Exception", "BaseException", "object"] [.type "ValueError", .type "Exception", .type "BaseException", .type "object"] "ValueError.__new__" K98.st_InvalidNumber rfl ?aC_3 ?xL_3 ?sa_3 ?ga_3 ?gg_3 ?cl_3 ?kC_3 ?iC_3 ?tI_3 ?lI_3 ?cI_3 ?kI_3 ?nxt_3
    (case aC_3 => k_is)
    (case xL_3 => k_is)
    (case sa_3 => k_is)
    (case ga_3 => k_is)
    (case gg_3 => k_is)
    (case cl_3 => k_is)
    (case kC_3 => k_is)
    (case iC_3 => k_is)
    (case tI_3 => k_is)
    (case lI_3 => k_is)
    (case cI_3 => k_is)
    (case kI_3 => k_is)
    intro R2
    refine' E98.raw_in KX G "InvalidThings" "InvalidThings.__init__" ["ValueError", "Exception", "BaseException", "object"] [.type "ValueError", .type "Exception", .type "BaseException", .type "object"] "ValueError.__new__" K98.st_InvalidThings rfl ?aC_4 ?xL_4 ?sa_4 ?ga_4 ?gg_4 ?cl_4 ?kC_4 ?iC_4 ?tI_4 ?lI_4 ?cI_4 ?kI_4 ?nxt_4
    (case aC_4 => k_is)
    (case xL_4 => k_is)
    (case sa_4 => k_is)
    (case ga_4 => k_is)
    (case gg_4 => k_is)
    (case cl_4 => k_is)
    (case kC_4 => k_is)
    (case iC_4 => k_is)
    (case tI_4 => k_is)
    (case lI_4 => k_is)
    (case cI_4 => k_is)
    (case kI_4 => k_is)
    intro R3
    refine' E98.raw_in KX G "InvalidView" "InvalidView.__init__" ["ValueError", "Exception", "BaseException", "object"] [.type "ValueError", .type "Exception", .type "BaseException", .type "object"] "ValueError.__new__" K98.st_InvalidView rfl ?aC_5 ?xL_5 ?sa_5 ?ga_5 ?gg_5 ?cl_5 ?kC_5 ?iC_5 ?tI_5 ?lI_5 ?cI_5 ?kI_5 ?nxt_5
    (case aC_5 => k_is)
    (case xL_5 => k_is)
    (case sa_5 => k_is)
    (case ga_5 => k_is)
    (case gg_5 => k_is)
    (case cl_5 => k_is)
    (case kC_5 => k_is)
    (case iC_5 => k_is)
    (case tI_5 => k_is)
    (case lI_5 => k_is)
    (case cI_5 => k_is)
    (case kI_5 => k_is)
    intro R4
    refine' E98.raw_in KX G "InvalidStep" "InvalidStep.__init__" ["ValueError", "Exception", "BaseException", "object"] [.type "ValueError", .type "Exception", .type "BaseException", .type "object"] "ValueError.__new__" K98.st_InvalidStep rfl ?aC_6 ?xL_6 ?sa_6 ?ga_6 ?gg_6 ?cl_6 ?kC_6 ?iC_6 ?tI_6 ?lI_6 ?cI_6 ?kI_6 ?nxt_6
    (case aC_6 => k_is)
    (case xL_6 => k_is)
    (case sa_6 => k_is)
    (case ga_6 => k_is)
    (case gg_6 => k_is)
    (case cl_6 => k_is)
    (case kC_6 => k_is)
    (case iC_6 => k_is)
    (case tI_6 => k_is)
    (case lI_6 => k_is)
    (case cI_6 => k_is)
    (case kI_6 => k_is)
    intro R5
    refine' E98.raw_in KX G "InvalidEdit" "InvalidEdit.__init__" ["ValueError", "Exception", "BaseException", "object"] [.type "ValueError", .type "Exception", .type "BaseException", .type "object"] "ValueError.__new__" K98.st_InvalidEdit rfl ?aC_7 ?xL_7 ?sa_7 ?ga_7 ?gg_7 ?cl_7 ?kC_7 ?iC_7 ?tI_7 ?lI_7 ?cI_7 ?kI_7 ?nxt_7
    (case aC_7 => k_is)
    (case xL_7 => k_is)
    (case sa_7 => k_is)
    (case ga_7 => k_is)
    (case gg_7 => k_is)
    (case cl_7 => k_is)
    (case kC_7 => k_is)
    (case iC_7 => k_is)
    (case tI_7 => k_is)
    (case lI_7 => k_is)
    (case cI_7 => k_is)
    (case kI_7 => k_is)
    intro R6
    refine' E98.raw_in KX G "InvalidRow" "InvalidRow.__init__" ["ValueError", "Exception", "BaseException", "object"] [.type "ValueError", .type "Exception", .type "BaseException", .type "object"] "ValueError.__new__" K98.st_InvalidRow rfl ?aC_8 ?xL_8 ?sa_8 ?ga_8 ?gg_8 ?cl_8 ?kC_8 ?iC_8 ?tI_8 ?lI_8 ?cI_8 ?kI_8 ?nxt_8
    (case aC_8 => k_is)
    (case xL_8 => k_is)
    (case sa_8 => k_is)
    (case ga_8 => k_is)
    (case gg_8 => k_is)
    (case cl_8 => k_is)
    (case kC_8 => k_is)
    (case iC_8 => k_is)
    (case tI_8 => k_is)
    (case lI_8 => k_is)
    (case cI_8 => k_is)
    (case kI_8 => k_is)
    intro R7
    refine' E98.raw_in KX G "ParseError" "ParseError.__init__" ["ValueError", "Exception", "BaseException", "object"] [.type "ValueError", .type "Exception", .type "BaseException", .type "object"] "ValueError.__new__" K98.st_ParseError rfl ?aC_9 ?xL_9 ?sa_9 ?ga_9 ?gg_9 ?cl_9 ?kC_9 ?iC_9 ?tI_9 ?lI_9 ?cI_9 ?kI_9 ?nxt_9
    (case aC_9 => k_is)
    (case xL_9 => k_is)
    (case sa_9 => k_is)
    (case ga_9 => k_is)
    (case gg_9 => k_is)
    (case cl_9 => k_is)
    (case kC_9 => k_is)
    (case iC_9 => k_is)
    (case tI_9 => k_is)
    (case lI_9 => k_is)
    (case cI_9 => k_is)
    (case kI_9 => k_is)
    intro R8
    refine' E98.raw_in KX G "WrongInputs" "WrongInputs.__init__" ["ValueError", "Exception", "BaseException", "object"] [.type "ValueError", .type "Exception", .type "BaseException", .type "object"] "ValueError.__new__" K98.st_WrongInputs rfl ?aC_10 ?xL_10 ?sa_10 ?ga_10 ?gg_10 ?cl_10 ?kC_10 ?iC_10 ?tI_10 ?lI_10 ?cI_10 ?kI_10 ?nxt_10
    (case aC_10 => k_is)
    (case xL_10 => k_is)
    (case sa_10 => k_is)
    (case ga_10 => k_is)
    (case gg_10 => k_is)
    (case cl_10 => k_is)
    (case kC_10 => k_is)
    (case iC_10 => k_is)
    (case tI_10 => k_is)
    (case lI_10 => k_is)
    (case cI_10 => k_is)
    (case kI_10 => k_is)
    intro R9
    refine' E98.raw_in KX G "UnknownName" "UnknownName.__init__" ["KeyError", "LookupError", "Exception", "BaseException", "object"] [.type "KeyError", .type "LookupError", .type "Exception", .type "BaseException", .type "object"] "LookupError.__new__" K98.st_UnknownName rfl ?aC_11 ?xL_11 ?sa_11 ?ga_11 ?gg_11 ?cl_11 ?kC_11 ?iC_11 ?tI_11 ?lI_11 ?cI_11 ?kI_11 ?nxt_11
    (case aC_11 => k_is)
    (case xL_11 => k_is)
    (case sa_11 => k_is)
    (case ga_11 => k_is)
    (case gg_11 => k_is)
    (case cl_11 => k_is)
    (case kC_11 => k_is)
    (case iC_11 => k_is)
    (case tI_11 => k_is)
    (case lI_11 => k_is)
    (case cI_11 => k_is)
    (case kI_11 => k_is)
    intro R10
    refine' E98.raw_in KX G "UnknownPlace" "UnknownPlace.__init__" ["KeyError", "LookupError", "Exception", "BaseException", "object"] [.type "KeyError", .type "LookupError", .type "Exception", .type "BaseException", .type "object"] "LookupError.__new__" K98.st_UnknownPlace rfl ?aC_12 ?xL_12 ?sa_12 ?ga_12 ?gg_12 ?cl_12 ?kC_12 ?iC_12 ?tI_12 ?lI_12 ?cI_12 ?kI_12 ?nxt_12
    (case aC_12 => k_is)
    (case xL_12 => k_is)
    (case sa_12 => k_is)
    (case ga_12 => k_is)
    (case gg_12 => k_is)
    (case cl_12 => k_is)
    (case kC_12 => k_is)
    (case iC_12 => k_is)
    (case tI_12 => k_is)
    (case lI_12 => k_is)
    (case cI_12 => k_is)
    (case kI_12 => k_is)
    intro R11
    refine' E98.raw_in KX G "WrongPlace" "WrongPlace.__init__" ["LookupError", "Exception", "BaseException", "object"] [.type "LookupError", .type "Exception", .type "BaseException", .type "object"] "LookupError.__new__" K98.st_WrongPlace rfl ?aC_13 ?xL_13 ?sa_13 ?ga_13 ?gg_13 ?cl_13 ?kC_13 ?iC_13 ?tI_13 ?lI_13 ?cI_13 ?kI_13 ?nxt_13
    (case aC_13 => k_is)
    (case xL_13 => k_is)
    (case sa_13 => k_is)
    (case ga_13 => k_is)
    (case gg_13 => k_is)
    (case cl_13 => k_is)
    (case kC_13 => k_is)
    (case iC_13 => k_is)
    (case tI_13 => k_is)
    (case lI_13 => k_is)
    (case cI_13 => k_is)
    (case kI_13 => k_is)
    intro R12
    refine' E98.raw_in KX G "Broken" "Broken.__init__" ["RuntimeError", "Exception", "BaseException", "object"] [.type "RuntimeError", .type "Exception", .type "BaseException", .type "object"] "RuntimeError.__new__" K98.st_Broken rfl ?aC_14 ?xL_14 ?sa_14 ?ga_14 ?gg_14 ?cl_14 ?kC_14 ?iC_14 ?tI_14 ?lI_14 ?cI_14 ?kI_14 ?nxt_14
    (case aC_14 => k_is)
    (case xL_14 => k_is)
    (case sa_14 => k_is)
    (case ga_14 => k_is)
    (case gg_14 => k_is)
    (case cl_14 => k_is)
    (case kC_14 => k_is)
    (case iC_14 => k_is)
    (case tI_14 => k_is)
    (case lI_14 => k_is)
    (case cI_14 => k_is)
    (case kI_14 => k_is)
    intro R13
    refine' E98.dfn_in KX G "_law_pen" K98.s__law_pen ["_law_script"] (fun _ _ _ _ _ _ us hl => match us, hl with | [_], _ => rfl) ?aD_15 ?lD_15 ?cD_15 ?kD_15 ?nxt_15
    (case aD_15 => k_is)
    (case lD_15 => k_is)
    (case cD_15 => k_is)
    (case kD_15 => k_is)
    intro D__law_pen
    refine' E98.dfn_in KX G "_law_draw" K98.s__law_draw ["_law_pen_here", "_law_many"] (fun _ _ _ _ _ _ us hl => match us, hl with | [_, _], _ => rfl) ?aD_16 ?lD_16 ?cD_16 ?kD_16 ?nxt_16
    (case aD_16 => k_is)
    (case lD_16 => k_is)
    (case cD_16 => k_is)
    (case kD_16 => k_is)
    intro D__law_draw
    refine' E98.dfn_in KX G "_law_pick" K98.s__law_pick ["_law_pen_here", "_law_options"] (fun _ _ _ _ _ _ us hl => match us, hl with | [_, _], _ => rfl) ?aD_17 ?lD_17 ?cD_17 ?kD_17 ?nxt_17
    (case aD_17 => k_is)
    (case lD_17 => k_is)
    (case cD_17 => k_is)
    (case kD_17 => k_is)
    intro D__law_pick
    refine' E98.dfn_in KX G "_law_any_value" K98.s__law_any_value ["_law_pen_here"] (fun _ _ _ _ _ _ us hl => match us, hl with | [_], _ => rfl) ?aD_18 ?lD_18 ?cD_18 ?kD_18 ?nxt_18
    (case aD_18 => k_is)
    (case lD_18 => k_is)
    (case cD_18 => k_is)
    (case kD_18 => k_is)
    intro D__law_any_value
    refine' E98.dfn_in KX G "_law_fields" K98.s__law_fields ["_law_thing", "_law_other"] (fun _ _ _ _ _ _ us hl => match us, hl with | [_, _], _ => rfl) ?aD_19 ?lD_19 ?cD_19 ?kD_19 ?nxt_19
    (case aD_19 => k_is)
    (case lD_19 => k_is)
    (case cD_19 => k_is)
    (case kD_19 => k_is)
    intro D__law_fields
    refine' E98.dfn_in KX G "_law_all_errors" K98.s__law_all_errors ["_law_thing"] (fun _ _ _ _ _ _ us hl => match us, hl with | [_], _ => rfl) ?aD_20 ?lD_20 ?cD_20 ?kD_20 ?nxt_20
    (case aD_20 => k_is)
    (case lD_20 => k_is)
    (case cD_20 => k_is)
    (case kD_20 => k_is)
    intro D__law_all_errors
    refine' E98.dfn_in KX G "_law_classes" K98.s__law_classes ["_law_own"] (fun _ _ _ _ _ _ us hl => match us, hl with | [_], _ => rfl) ?aD_21 ?lD_21 ?cD_21 ?kD_21 ?nxt_21
    (case aD_21 => k_is)
    (case lD_21 => k_is)
    (case cD_21 => k_is)
    (case kD_21 => k_is)
    intro D__law_classes
    refine' E98.dfn_in KX G "_law_wide_ones" K98.s__law_wide_ones ["_law_own"] (fun _ _ _ _ _ _ us hl => match us, hl with | [_], _ => rfl) ?aD_22 ?lD_22 ?cD_22 ?kD_22 ?nxt_22
    (case aD_22 => k_is)
    (case lD_22 => k_is)
    (case cD_22 => k_is)
    (case kD_22 => k_is)
    intro D__law_wide_ones
    refine' E98.dfn_in KX G "_law_bounds" K98.s__law_bounds [] (fun _ _ _ _ _ _ us hl => match us, hl with | [], _ => rfl) ?aD_23 ?lD_23 ?cD_23 ?kD_23 ?nxt_23
    (case aD_23 => k_is)
    (case lD_23 => k_is)
    (case cD_23 => k_is)
    (case kD_23 => k_is)
    intro D__law_bounds
    refine' E98.dfn_in KX G "law" K98.s_law ["_law_script"] (fun _ _ _ _ _ _ us hl => match us, hl with | [_], _ => rfl) ?aD_24 ?lD_24 ?cD_24 ?kD_24 ?nxt_24
    (case aD_24 => k_is)
    (case lD_24 => k_is)
    (case cD_24 => k_is)
    (case kD_24 => k_is)
    intro D_law
    refine' E98.none_in KX G "KeyError" ?z_25 ?nxt_25
    (case z_25 => k_is)
    intro N_KeyError
    refine' E98.none_in KX G "LookupError" ?z_26 ?nxt_26
    (case z_26 => k_is)
    intro N_LookupError
    refine' E98.none_in KX G "RuntimeError" ?z_27 ?nxt_27
    (case z_27 => k_is)
    intro N_RuntimeError
    refine' E98.none_in KX G "ValueError" ?z_28 ?nxt_28
    (case z_28 => k_is)
    intro N_ValueError
    refine' E98.none_in KX G "abs" ?z_29 ?nxt_29
    (case z_29 => k_is)
    intro N_abs
    refine' E98.none_in KX G "int" ?z_30 ?nxt_30
    (case z_30 => k_is)
    intro N_int
    refine' E98.none_in KX G "isinstance" ?z_31 ?nxt_31
    (case z_31 => k_is)
    intro N_isinstance
    refine' E98.none_in KX G "len" ?z_32 ?nxt_32
    (case z_32 => k_is)
    intro N_len
    refine' E98.none_in KX G "list" ?z_33 ?nxt_33
    (case z_33 => k_is)
    intro N_list
    refine' E98.none_in KX G "range" ?z_34 ?nxt_34
    (case z_34 => k_is)
    intro N_range
    refine' E98.none_in KX G "repr" ?z_35 ?nxt_35
    (case z_35 => k_is)
    intro N_repr
    have B : K98.Bn mg := ⟨N_KeyError, N_LookupError, N_RuntimeError, N_ValueError, N_abs, N_int, N_isinstance, N_len, N_list, N_range, N_repr⟩
    refine' K98.fin KX G hmg R0 R1 R2 R3 R4 R5 R6 R7 R8 R9 R10 R11 R12 R13 ?g0_reason_36 ?g1_value_36 ?g2_value_36 ?g3_value_36 ?g4_value_36 ?g5_value_36 ?g6_index_36 ?g7_value_36 ?g8_line_36 ?g8_word_36 ?g10_value_36 ?g11_value_36 ?g12_place_36 ?g13_index_36 ?gt_36 ?tk_36 ?vV_36 ?aL_36 ?rL_36 ?gL_36 ?v_MOST_KINDS_36 ?v_MOST_FIELDS_36 ?v_MOST_FUNCTIONS_36 ?v_MOST_PARAMETERS_36 ?v_MOST_BLOCKS_36 ?v_MOST_BLOCK_PARAMETERS_36 ?v_MOST_INSTRUCTIONS_36 ?v_MOST_PLACES_36 ?v_MOST_ELEMENTS_36 ?v_MOST_STEPS_36 ?v_MOST_CALLS_36 B D__law_pen D__law_draw D__law_pick D__law_any_value D__law_fields D__law_all_errors D__law_classes D__law_wide_ones D__law_bounds D_law
    (case g0_reason_36 => k_is)
    (case g1_value_36 => k_is)
    (case g2_value_36 => k_is)
    (case g3_value_36 => k_is)
    (case g4_value_36 => k_is)
    (case g5_value_36 => k_is)
    (case g6_index_36 => k_is)
    (case g7_value_36 => k_is)
    (case g8_line_36 => k_is)
    (case g8_word_36 => k_is)
    (case g10_value_36 => k_is)
    (case g11_value_36 => k_is)
    (case g12_place_36 => k_is)
    (case g13_index_36 => k_is)
    (case gt_36 => k_is)
    (case tk_36 => k_is)
    (case vV_36 => k_is)
    (case aL_36 => k_is)
    (case rL_36 => k_is)
    (case gL_36 => k_is)
    (case v_MOST_KINDS_36 => k_is)
    (case v_MOST_FIELDS_36 => k_is)
    (case v_MOST_FUNCTIONS_36 => k_is)
    (case v_MOST_PARAMETERS_36 => k_is)
    (case v_MOST_BLOCKS_36 => k_is)
    (case v_MOST_BLOCK_PARAMETERS_36 => k_is)
    (case v_MOST_INSTRUCTIONS_36 => k_is)
    (case v_MOST_PLACES_36 => k_is)
    (case v_MOST_ELEMENTS_36 => k_is)
    (case v_MOST_STEPS_36 => k_is)
    (case v_MOST_CALLS_36 => k_is)

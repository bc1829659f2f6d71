import PyProof.Rows.All
import Wide.All
import OpenK.AllK
import Wide.FinOn
import PyProof.EqAt
import PyProof.EqKinds
import PyProof.TupleCall
import HandS.ForMost
import HandS.ForExc
import HandS.Walk
import HandS.Wide
import HandS.Gcd
import HandS.TupAny
import HandS.TupMul
import HandS.IsInst
import HandS.Flow
import HandS.RaiseMore
import HandS.FStr
import HandS.Deep
import HandS.ExcCtx
import HandS.HotCalls
import HandS.Lambda
import HandS.ExcIs
import HandS.Zip
import KE.GoesEnum
import KE.DatumOrd
import HandS.SortKw
import HandS.SortInts
import HandS.Set
import HandS.Strs
import PyProof.Rows.SortShellAny
import KE.DatumIndex
import HandS.IterVal
import HandS.Dict
import KE.GoesMore
import PyProof.ZipIter
import HandS.Star
import PySem.Challenge.RW_votewoods_k05_whole_forests
import HandS.EndOwn
set_option Elab.async false
set_option linter.all false
set_option maxRecDepth 100000
set_option maxHeartbeats 2000000
namespace L2
open PySem PySem.Spec
theorem seqT {K : PySem.W.Frag} {H H' : Hp} {a : Addr} {xs : List V} (e : Same H H') (h : SqT K H a xs) : SqT K H' a xs := by
  rcases h with (h | ⟨o, h⟩) | h
  · exact .inl (.inl (e _ _ h))
  · exact .inl (.inr ⟨o, e _ _ h⟩)
  · exact .inr h
/-- an exception object of the own class at C, not in the air -/
def ExcAtC (a C : Addr) (h : Heap) : Prop := ∃ (oe : Obj) (vs : Array Value), h.get? a = some oe ∧ oe.cls = .ref C ∧ oe.dict = none ∧ oe.data = .fields vs
/-- as data: an exception of the class at C; a def of the module at f -/
def excD (C : Addr) : PyData := .dict [(.str "exc", .int (C : Nat))]
def fnD (f : Addr) : PyData := .dict [(.str "def", .int (f : Nat))]
/-! as Dp, lists tracked themselves -/
mutual
inductive Dq (K : PySem.W.Frag) (H : Hp) : V → PyData → Prop
  | non : Dq K H .non .none
  | bl (b : Bool) : Dq K H (.bl b) (.bool b)
  | int (i : Int) : Dq K H (.int i) (.int i)
  | str (x : Str) : Dq K H (.str x) (.str x)
  | lst {a : Addr} {xs : List V} {ds : List PyData} : H a = some (.lst xs) → DqAll K H xs ds → Dq K H (.ref a) (.list ds)
  | tup {a : Addr} {xs : List V} {ds : List PyData} : SqT K H a xs → DqAll K H xs ds → Dq K H (.ref a) (.tuple ds)
  | exc {a C : Addr} {φ : Heap → Prop} : H a = some (.ext φ) → (∀ h, φ h → ExcAtC a C h) → Dq K H (.ref a) (excD C)
  | fn {f : Addr} {oc : Value} {od : Option Addr} {fd : FuncData} {osl : Array (Option Value)} : K.lookup f = some ⟨oc, od, .func fd, osl⟩ → Dq K H (.ref f) (fnD f)
inductive DqAll (K : PySem.W.Frag) (H : Hp) : List V → List PyData → Prop
  | nil : DqAll K H [] []
  | cons {v : V} {vs : List V} {d : PyData} {ds : List PyData} : Dq K H v d → DqAll K H vs ds → DqAll K H (v :: vs) (d :: ds)
end
mutual
theorem Dq.mono {K : PySem.W.Frag} {H H' : Hp} (e : Same H H') : ∀ {v : V} (d : PyData), Dq K H v d → Dq K H' v d
  | _, .none, h => by cases h; exact .non
  | _, .bool b, h => by cases h; exact .bl b
  | _, .int i, h => by cases h; exact .int i
  | _, .str x, h => by cases h; exact .str x
  | _, .list ds, h => by
    cases h with
    | lst hs ha => exact .lst (e _ _ hs) (DqAll.mono e ds ha)
  | _, .tuple ds, h => by
    cases h with
    | tup hs ha => exact .tup (seqT e hs) (DqAll.mono e ds ha)
  | _, .dict _, h => by
    cases h with
    | exc hs ha => exact .exc (e _ _ hs) ha
    | fn hl => exact .fn hl
theorem DqAll.mono {K : PySem.W.Frag} {H H' : Hp} (e : Same H H') : ∀ {vs : List V} (ds : List PyData), DqAll K H vs ds → DqAll K H' vs ds
  | _, [], h => by cases h; exact .nil
  | _, d :: ds, h => by
    cases h with
    | cons h1 h2 => exact .cons (Dq.mono e d h1) (DqAll.mono e ds h2)
end
mutual
theorem Dq.dp {K : PySem.W.Frag} {H : Hp} : ∀ {v : V} (d : PyData), Dq K H v d → d.canLay0 = true → Dp K H v d
  | _, .none, h, _ => by cases h; exact .non
  | _, .bool b, h, _ => by cases h; exact .bl b
  | _, .int i, h, _ => by cases h; exact .int i
  | _, .str x, h, _ => by cases h; exact .str x
  | _, .list ds, h, c => by
    simp only [PyData.canLay0] at c
    cases h with
    | lst hs ha => exact .lst (.inl (.inl hs)) (DqAll.dp ds ha c)
  | _, .tuple ds, h, c => by
    simp only [PyData.canLay0] at c
    cases h with
    | tup hs ha => exact .tup hs (DqAll.dp ds ha c)
  | _, .dict _, _, c => by simp [PyData.canLay0] at c
theorem DqAll.dp {K : PySem.W.Frag} {H : Hp} : ∀ {vs : List V} (ds : List PyData), DqAll K H vs ds → PyData.canLayAll0 ds = true → DpAll K H vs ds
  | _, [], h, _ => by cases h; exact .nil
  | _, d :: ds, h, c => by
    simp only [PyData.canLayAll0, Bool.and_eq_true] at c
    cases h with
    | cons h1 h2 => exact .cons (Dq.dp d h1 c.1) (DqAll.dp ds h2 c.2)
end
theorem lay {d : PyData} (h : SeqAt.shaped d = true) : d.canLay0 = true := by
  unfold SeqAt.shaped at h
  rw [Bool.and_eq_true] at h
  exact h.1
theorem DqAll.length {K : PySem.W.Frag} {H : Hp} : ∀ {vs : List V} {ds : List PyData}, DqAll K H vs ds → vs.length = ds.length
  | _, _, .nil => rfl
  | _, _, .cons _ h => by rw [List.length_cons, List.length_cons, DqAll.length h]
theorem DqAll.get {K : PySem.W.Frag} {H : Hp} : ∀ {vs : List V} {ds : List PyData} {i : Nat} {d : PyData}, DqAll K H vs ds → ds[i]? = some d → ∃ v, vs[i]? = some v ∧ Dq K H v d
  | _, _, _, _, .nil, e => by simp at e
  | _, _, 0, _, .cons r _, e => by simp at e; subst e; exact ⟨_, rfl, r⟩
  | _, _, i + 1, d, .cons _ t, e => by
    obtain ⟨v, h1, h2⟩ := DqAll.get (i := i) t (by simpa using e)
    exact ⟨v, by simpa using h1, h2⟩
theorem DqAll.get' {K : PySem.W.Frag} {H : Hp} : ∀ {vs : List V} {ds : List PyData} {i : Nat} {v : V}, DqAll K H vs ds → vs[i]? = some v → ∃ d, ds[i]? = some d ∧ Dq K H v d
  | _, _, _, _, .nil, e => by simp at e
  | _, _, 0, _, .cons r _, e => by simp at e; subst e; exact ⟨_, rfl, r⟩
  | _, _, i + 1, d, .cons _ t, e => by
    obtain ⟨v, h1, h2⟩ := DqAll.get' (i := i) t (by simpa using e)
    exact ⟨v, by simpa using h1, h2⟩
theorem DqAll.append {K : PySem.W.Frag} {H : Hp} : ∀ {vs us : List V} {ds es : List PyData}, DqAll K H vs ds → DqAll K H us es → DqAll K H (vs ++ us) (ds ++ es)
  | _, _, _, _, .nil, q => q
  | _, _, _, _, .cons r t, q => .cons r (DqAll.append t q)
theorem DqAll.set {K : PySem.W.Frag} {H : Hp} {v : V} {d : PyData} (r : Dq K H v d) : ∀ {vs : List V} {ds : List PyData} (i : Nat), DqAll K H vs ds → DqAll K H (vs.set i v) (ds.set i d)
  | _, _, _, .nil => .nil
  | _, _, 0, .cons _ t => .cons r t
  | _, _, i + 1, .cons q t => .cons q (DqAll.set r i t)
theorem DqAll.take {K : PySem.W.Frag} {H : Hp} : ∀ {vs : List V} {ds : List PyData} (n : Nat), DqAll K H vs ds → DqAll K H (vs.take n) (ds.take n)
  | _, _, 0, _ => .nil
  | _, _, _ + 1, .nil => .nil
  | _, _, n + 1, .cons r t => .cons r (DqAll.take n t)
theorem DqAll.drop {K : PySem.W.Frag} {H : Hp} : ∀ {vs : List V} {ds : List PyData} (n : Nat), DqAll K H vs ds → DqAll K H (vs.drop n) (ds.drop n)
  | _, _, 0, r => r
  | _, _, _ + 1, .nil => .nil
  | _, _, n + 1, .cons _ t => DqAll.drop n t
theorem DqAll.rep {K : PySem.W.Frag} {H : Hp} {vs : List V} {ds : List PyData} (h : DqAll K H vs ds) : ∀ k : Nat, DqAll K H (List.replicate k vs).flatten (List.replicate k ds).flatten
  | 0 => .nil
  | k + 1 => by
    rw [List.replicate_succ, List.replicate_succ, List.flatten_cons, List.flatten_cons]
    exact h.append (DqAll.rep h k)
end L2
namespace DL
open PySem PySem.Spec L2
/-! a layer of plain data over the abstract heap: what an expression, a statement, a def makes of data, as Lean functions -/
/-- an own object that is no list: a dict -/
inductive OD where
  | dk (kvs : List (L2.Key × PyData))
  | dt (kvs : List (List L2.Key × PyData))
def ObjD (K : PySem.W.Frag) (H : Hp) : HO → OD → Prop
  | .dK us, .dk kvs => us.map Prod.fst = kvs.map Prod.fst ∧ DqAll K H (us.map Prod.snd) (kvs.map Prod.snd)
  | .dT us, .dt kvs => us.map Prod.fst = kvs.map Prod.fst ∧ DqAll K H (us.map Prod.snd) (kvs.map Prod.snd)
  | _, _ => False
theorem ObjD.mono {K : PySem.W.Frag} {H H' : Hp} {o : HO} {d : OD} (h : ObjD K H o d) (e : Same H H') : ObjD K H' o d := by
  unfold ObjD at h ⊢
  split at h
  · exact ⟨h.1, h.2.mono e⟩
  · exact ⟨h.1, h.2.mono e⟩
  · exact h.elim
theorem ObjD.nl {K : PySem.W.Frag} {H : Hp} {xs : List V} {od : OD} (h : ObjD K H (.lst xs) od) : False := by cases od <;> exact h
/-- a slot set to what is no other object: the objects' slots stay -/
inductive Sl where
  | ob (o : OD)
  | no
  | d (x : PyData)
  | own (xs : List PyData)
  | tn (xs : List PyData)
inductive Res (α : Type) where
  | ok (a : α)
  | err (c : Str)
  | bad
abbrev DSt := List Sl
def Res.bind {α β : Type} : Res α → (α → Res β) → Res β
  | .ok a, f => f a
  | .err c, _ => .err c
  | .bad, _ => .bad
@[simp] theorem Res.bind_ok {α β : Type} (a : α) (f : α → Res β) : Res.bind (.ok a) f = f a := rfl
@[simp] theorem Res.bind_err {α β : Type} (c : Str) (f : α → Res β) : Res.bind (.err c) f = .err c := rfl
@[simp] theorem Res.bind_bad {α β : Type} (f : α → Res β) : Res.bind .bad f = .bad := rfl
open Classical in
noncomputable def hide (G : Addr → Prop) (H : Hp) : Hp := fun b => if G b then none else H b
theorem hide_some {G : Addr → Prop} {H : Hp} {b : Addr} {o : HO} (h : hide G H b = some o) : ¬ G b ∧ H b = some o := by
  unfold hide at h
  split at h
  · cases h
  · exact ⟨by assumption, h⟩
theorem hide_of {G : Addr → Prop} {H : Hp} {b : Addr} {o : HO} (n : ¬ G b) (h : H b = some o) : hide G H b = some o := by
  unfold hide
  rw [if_neg n]
  exact h
theorem hide_same {G G' : Addr → Prop} {H H' : Hp} (g : ∀ b, G' b → G b ∨ H b = none) (s : ∀ b o, H b = some o → ¬ G b → H' b = some o) : Same (hide G H) (hide G' H') := fun b o h => by
  obtain ⟨n, e⟩ := hide_some h
  refine hide_of (fun z => ?_) (s b o e n)
  rcases g b z with q | q
  · exact n q
  · rw [q] at e; cases e
/-- F: hidden from outside; G: hidden here (own lists too) -/
structure Rep (K : PySem.W.Frag) (F G : Addr → Prop) (H : Hp) (σ : St) (δ : DSt) : Prop where
  sub : ∀ b, F b → G b
  vis : ∀ b, G b → H b ≠ none
  len : δ.length = σ.length
  dat : ∀ (i : Nat) (d : PyData), δ[i]? = some (.d d) → ∃ v, σ[i]? = some (some v) ∧ Dq K (hide G H) v d
  tn : ∀ (i : Nat) (ds : List PyData), δ[i]? = some (.tn ds) → ∃ a o vs, σ[i]? = some (some (.ref a)) ∧ hide G H a = some (.frz o (.tup vs)) ∧ o.dict = none ∧ DqAll K (hide G H) vs ds
  ow : ∀ (i : Nat) (ds : List PyData), δ[i]? = some (.own ds) → ∃ a xs, σ[i]? = some (some (.ref a)) ∧ G a ∧ ¬ F a ∧ H a = some (.lst xs) ∧ DqAll K (hide G H) xs ds
  inj : ∀ (i j : Nat) (ds es : List PyData) (a : Addr), δ[i]? = some (.own ds) → δ[j]? = some (.own es) → σ[i]? = some (some (.ref a)) → σ[j]? = some (some (.ref a)) → i = j
  ob : ∀ (i : Nat) (od : OD), δ[i]? = some (.ob od) → ∃ a o, σ[i]? = some (some (.ref a)) ∧ G a ∧ ¬ F a ∧ H a = some o ∧ ObjD K (hide G H) o od
  obj : ∀ (i j : Nat) (od oe : OD) (a : Addr), δ[i]? = some (.ob od) → δ[j]? = some (.ob oe) → σ[i]? = some (some (.ref a)) → σ[j]? = some (some (.ref a)) → i = j
/-- what stays: all that is tracked but own lists -/
def Fr (F G : Addr → Prop) (H H' : Hp) : Prop := ∀ b o, H b = some o → (F b ∨ ¬ G b) → H' b = some o
theorem Fr.refl {F G : Addr → Prop} {H : Hp} : Fr F G H H := fun _ _ h _ => h
theorem Fr.trans {F G : Addr → Prop} {H H1 H2 : Hp} (a : Fr F G H H1) (b : Fr F G H1 H2) : Fr F G H H2 := fun c o h n => b c o (a c o h n) n
theorem Fr.of {F G : Addr → Prop} {H H' : Hp} (s : Same H H') : Fr F G H H' := fun b o h _ => s b o h
theorem Fr.hide {F G : Addr → Prop} {H H' : Hp} (f : Fr F G H H') : Same (hide G H) (hide G H') := hide_same (fun _ z => .inl z) fun b o e n => f b o e (.inr n)
theorem hideS {G : Addr → Prop} {H H' : Hp} (s : Same H H') : Same (hide G H) (hide G H') := hide_same (fun _ z => .inl z) fun b o e _ => s b o e
theorem Rep.same {K : PySem.W.Frag} {F G : Addr → Prop} {H H' : Hp} {σ : St} {δ : DSt} (R : Rep K F G H σ δ) (s : Same H H') : Rep K F G H' σ δ where
  sub := R.sub
  vis := fun b g e => R.vis b g (s.free e)
  len := R.len
  dat := fun i d e => by
    obtain ⟨v, h1, h2⟩ := R.dat i d e
    exact ⟨v, h1, h2.mono (hideS s)⟩
  tn := fun i ds e => by
    obtain ⟨a, o, vs, h1, h2, h3, h4⟩ := R.tn i ds e
    exact ⟨a, o, vs, h1, hideS s _ _ h2, h3, h4.mono (hideS s)⟩
  ow := fun i ds e => by
    obtain ⟨a, xs, h1, h2, h3, h4, h5⟩ := R.ow i ds e
    exact ⟨a, xs, h1, h2, h3, s _ _ h4, h5.mono (hideS s)⟩
  inj := R.inj
  ob := fun i od e => by
    obtain ⟨a, o, h1, h2, h3, h4, h5⟩ := R.ob i od e
    exact ⟨a, o, h1, h2, h3, s _ _ h4, h5.mono (hideS s)⟩
  obj := R.obj
/-! ### readings -/
abbrev EvE := DSt → Res (PyData × DSt)
abbrev EvT := DSt → Res (Bool × DSt)
abbrev EvA := DSt → Res (List PyData × DSt)
section
variable (X : Cx) (W : WX)
def PostE (F G : Addr → Prop) (H : Hp) (σ : St) (r : Res (PyData × DSt)) (Q : VK) : Prop := match r with
  | .ok (d, δ') => ∀ v H', Fr F G H H' → Rep X.K F G H' σ δ' → Dq X.K (hide G H') v d → Q v H'
  | .err c => ∀ C H', X.mg c = some (.ref C) → Fr F G H H' → W (.ref C) none σ H'
  | .bad => False
def PostT (F G : Addr → Prop) (H : Hp) (σ : St) (r : Res (Bool × DSt)) (Q : Bool → Hp → Prop) : Prop := match r with
  | .ok (d, δ') => ∀ H', Fr F G H H' → Rep X.K F G H' σ δ' → Q d H'
  | .err c => ∀ C H', X.mg c = some (.ref C) → Fr F G H H' → W (.ref C) none σ H'
  | .bad => False
def PostA (F G : Addr → Prop) (H : Hp) (σ : St) (r : Res (List PyData × DSt)) (Q : List V → Hp → Prop) : Prop := match r with
  | .ok (ds, δ') => ∀ vs H', Fr F G H H' → Rep X.K F G H' σ δ' → DqAll X.K (hide G H') vs ds → Q vs H'
  | .err c => ∀ C H', X.mg c = some (.ref C) → Fr F G H H' → W (.ref C) none σ H'
  | .bad => False
def tD (f : EvE) : TE := fun σ H Q => ∃ F G δ, Rep X.K F G H σ δ ∧ PostE X W F G H σ (f δ) Q
def tDT (f : EvT) : TT := fun σ H Q => ∃ F G δ, Rep X.K F G H σ δ ∧ PostT X W F G H σ (f δ) Q
def tDA (f : EvA) : TA := fun σ H Q => ∃ F G δ, Rep X.K F G H σ δ ∧ PostA X W F G H σ (f δ) Q
def DE (e : Expr) (f : EvE) : Prop := PE X e (tD X W f)
def DT (e : Expr) (f : EvT) : Prop := PT X e (tDT X W f)
def DW (e : Expr) (f : EvT) : Prop := PW X e (tDT X W f)
def DA (es : List Expr) (f : EvA) : Prop := PA X es (tDA X W f)
end
section
variable {X : Cx} {W : WX}
theorem PE_imp {X : Cx} {e : Expr} {t t' : TE} (h : PE X e t) (i : ∀ σ H Q, t' σ H Q → t σ H Q) : PE X e t' := ⟨fun pins s σ H Q I q => h.run pins s σ H Q I (i _ _ _ q)⟩
theorem PT_imp {X : Cx} {e : Expr} {t t' : TT} (h : PT X e t) (i : ∀ σ H Q, t' σ H Q → t σ H Q) : PT X e t' := ⟨fun pins s σ H Q I q => h.run pins s σ H Q I (i _ _ _ q)⟩
theorem PW_imp {X : Cx} {e : Expr} {t t' : TT} (h : PW X e t) (i : ∀ σ H Q, t' σ H Q → t σ H Q) : PW X e t' := ⟨fun whole pins s σ H Q I q => h.run whole pins s σ H Q I (i _ _ _ q)⟩
theorem PA_imp {X : Cx} {es : List Expr} {t t' : TA} (h : PA X es t) (i : ∀ σ H Q, t' σ H Q → t σ H Q) : PA X es t' := ⟨fun pos pins s σ H Q I q => h.run pos pins s σ H Q I (i _ _ _ q)⟩
theorem PS_imp {X : Cx} {e : Stmt} {t t' : TS} (h : PS X e t) (i : ∀ D σ H, t' D σ H → t D σ H) : PS X e t' := ⟨fun pins s σ H D I q => h.run pins s σ H D I (i _ _ _ q)⟩
theorem PSs_imp {X : Cx} {e : List Stmt} {t t' : TS} (h : PSs X e t) (i : ∀ D σ H, t' D σ H → t D σ H) : PSs X e t' := ⟨fun pins s σ H D I q => h.run pins s σ H D I (i _ _ _ q)⟩
theorem PI_imp {X : Cx} {tg it : Expr} {t t' : TI} (h : PI X tg it t) (i : ∀ σ H Q, t' σ H Q → t σ H Q) : PI X tg it t' := ⟨fun pins s σ H Q I q => h.run pins s σ H Q I (i _ _ _ q)⟩
theorem PostE.mono {F G : Addr → Prop} {H H1 : Hp} {σ : St} {r : Res (PyData × DSt)} {Q : VK} (p : PostE X W F G H σ r Q) (f : Fr F G H H1) : PostE X W F G H1 σ r Q := by
  cases r with
  | ok x => exact fun v H' fr R h => p v H' (f.trans fr) R h
  | err c => exact fun C H' hc fr => p C H' hc (f.trans fr)
  | bad => exact p
theorem PostT.mono {F G : Addr → Prop} {H H1 : Hp} {σ : St} {r : Res (Bool × DSt)} {Q : Bool → Hp → Prop} (p : PostT X W F G H σ r Q) (f : Fr F G H H1) : PostT X W F G H1 σ r Q := by
  cases r with
  | ok x => exact fun H' fr R => p H' (f.trans fr) R
  | err c => exact fun C H' hc fr => p C H' hc (f.trans fr)
  | bad => exact p
theorem PostA.mono {F G : Addr → Prop} {H H1 : Hp} {σ : St} {r : Res (List PyData × DSt)} {Q : List V → Hp → Prop} (p : PostA X W F G H σ r Q) (f : Fr F G H H1) : PostA X W F G H1 σ r Q := by
  cases r with
  | ok x => exact fun v H' fr R h => p v H' (f.trans fr) R h
  | err c => exact fun C H' hc fr => p C H' hc (f.trans fr)
  | bad => exact p
/-- first e, then what follows: P the post of the whole -/
theorem seqE {F G : Addr → Prop} {H : Hp} {σ : St} {δ : DSt} {f : EvE} {β : Type} {g : PyData × DSt → Res β} {P : Hp → Res β → Prop} {Q : VK}
    (R : Rep X.K F G H σ δ) (hp : P H ((f δ).bind g)) (mono : ∀ H1 r, Fr F G H H1 → P H r → P H1 r)
    (herr : ∀ c, P H (.err c) → ∀ C H', X.mg c = some (.ref C) → Fr F G H H' → W (.ref C) none σ H') (hbad : P H .bad → False)
    (hok : ∀ d δ1 v H1, Fr F G H H1 → Rep X.K F G H1 σ δ1 → Dq X.K (hide G H1) v d → P H1 (g (d, δ1)) → Q v H1) : tD X W f σ H Q := by
  refine ⟨F, G, δ, R, ?_⟩
  cases e : f δ with
  | ok x =>
    obtain ⟨d, δ1⟩ := x
    rw [e] at hp
    exact fun v H1 fr R1 h => hok d δ1 v H1 fr R1 h (mono H1 _ fr hp)
  | err c => rw [e] at hp; exact herr c hp
  | bad => rw [e] at hp; exact hbad hp
theorem seqT' {F G : Addr → Prop} {H : Hp} {σ : St} {δ : DSt} {f : EvT} {β : Type} {g : Bool × DSt → Res β} {P : Hp → Res β → Prop} {Q : Bool → Hp → Prop}
    (R : Rep X.K F G H σ δ) (hp : P H ((f δ).bind g)) (mono : ∀ H1 r, Fr F G H H1 → P H r → P H1 r)
    (herr : ∀ c, P H (.err c) → ∀ C H', X.mg c = some (.ref C) → Fr F G H H' → W (.ref C) none σ H') (hbad : P H .bad → False)
    (hok : ∀ d δ1 H1, Fr F G H H1 → Rep X.K F G H1 σ δ1 → P H1 (g (d, δ1)) → Q d H1) : tDT X W f σ H Q := by
  refine ⟨F, G, δ, R, ?_⟩
  cases e : f δ with
  | ok x =>
    obtain ⟨d, δ1⟩ := x
    rw [e] at hp
    exact fun H1 fr R1 => hok d δ1 H1 fr R1 (mono H1 _ fr hp)
  | err c => rw [e] at hp; exact herr c hp
  | bad => rw [e] at hp; exact hbad hp
theorem seqA {F G : Addr → Prop} {H : Hp} {σ : St} {δ : DSt} {f : EvA} {β : Type} {g : List PyData × DSt → Res β} {P : Hp → Res β → Prop} {Q : List V → Hp → Prop}
    (R : Rep X.K F G H σ δ) (hp : P H ((f δ).bind g)) (mono : ∀ H1 r, Fr F G H H1 → P H r → P H1 r)
    (herr : ∀ c, P H (.err c) → ∀ C H', X.mg c = some (.ref C) → Fr F G H H' → W (.ref C) none σ H') (hbad : P H .bad → False)
    (hok : ∀ d δ1 v H1, Fr F G H H1 → Rep X.K F G H1 σ δ1 → DqAll X.K (hide G H1) v d → P H1 (g (d, δ1)) → Q v H1) : tDA X W f σ H Q := by
  refine ⟨F, G, δ, R, ?_⟩
  cases e : f δ with
  | ok x =>
    obtain ⟨d, δ1⟩ := x
    rw [e] at hp
    exact fun v H1 fr R1 h => hok d δ1 v H1 fr R1 h (mono H1 _ fr hp)
  | err c => rw [e] at hp; exact herr c hp
  | bad => rw [e] at hp; exact hbad hp
/-- a value is told, the heap as it was or with new objects -/
def Gives (X : Cx) (G : Addr → Prop) (H : Hp) (z : PyData) (Q : VK) : Prop := ∀ w H', Same H H' → Dq X.K (hide G H') w z → Q w H'
theorem Gives.here {G : Addr → Prop} {H : Hp} {z : PyData} {Q : VK} {v : V} (g : Gives X G H z Q) (h : Dq X.K (hide G H) v z) : Q v H := g v H (Same.refl H) h
theorem same_upd {H : Hp} {p : Addr} {o : HO} (n : H p = none) : Same H (upd H p o) := fun b u e => by rw [upd_ne (ne_of_none e n)]; exact e
theorem Gives.tup {G : Addr → Prop} {H : Hp} {ds : List PyData} {Q : VK} {vs : List V} (g : Gives X G H (.tuple ds) Q) (vis : ∀ b, G b → H b ≠ none) (h : DqAll X.K (hide G H) vs ds) : ∀ p, H p = none → Q (.ref p) (upd H p (.tup vs)) := fun p n =>
  g _ _ (same_upd n) (.tup (.inl (.inl (hide_of (fun z => vis p z n) upd_same))) (h.mono (hideS (same_upd n))))
theorem Gives.lst {G : Addr → Prop} {H : Hp} {ds : List PyData} {Q : VK} {vs : List V} (g : Gives X G H (.list ds) Q) (vis : ∀ b, G b → H b ≠ none) (h : DqAll X.K (hide G H) vs ds) : ∀ p, H p = none → Q (.ref p) (upd H p (.lst vs)) := fun p n =>
  g _ _ (same_upd n) (.lst (hide_of (fun z => vis p z n) upd_same) (h.mono (hideS (same_upd n))))
theorem PostE.gives {F G : Addr → Prop} {H : Hp} {σ : St} {δ : DSt} {z : PyData} {Q : VK} (p : PostE X W F G H σ (.ok (z, δ)) Q) (R : Rep X.K F G H σ δ) : Gives X G H z Q := fun w H' s h => p w H' (.of s) (R.same s) h
/-- what is hidden less is read still -/
theorem unhide {G : Addr → Prop} {H : Hp} : Same (hide G H) H := fun b o e => (hide_some e).2
/-! ### expressions -/
def vConst (d : PyData) : EvE := fun δ => .ok (d, δ)
def vVar (i : Nat) : EvE := fun δ => match δ[i]? with
  | some (.d d) => .ok (d, δ)
  | some (.tn xs) => .ok (.tuple xs, δ)
  | _ => .bad
theorem de_const {e : Expr} {v : V} {d : PyData} (h : PE X e (tC v)) (hd : ∀ K H, Dq K H v d) : DE X W e (vConst d) := PE_imp h fun σ H Q ⟨F, G, δ, R, p⟩ => PostE.gives p R v H (Same.refl H) (hd _ _)
theorem de_int {i : Int} {j pos} : DE X W (.Constant (.int i) j pos) (vConst (.int i)) := de_const pe_int fun _ _ => .int i
theorem de_bl {b : Bool} {j pos} : DE X W (.Constant (.bool b) j pos) (vConst (.bool b)) := de_const pe_bl fun _ _ => .bl b
theorem de_non {j pos} : DE X W (.Constant .none j pos) (vConst .none) := de_const pe_non fun _ _ => .non
theorem de_str {x : Str} {j pos} : DE X W (.Constant (.str x) j pos) (vConst (.str x)) := de_const pe_str fun _ _ => .str x
/-- a module's constant -/
theorem de_gint {x : Str} {i : Int} {pos : Pos} (hm : ∃ t, X.mg x = some (.int i t)) (hg : Gl X x := by rfl) (hd : (x == ("__debug__" : Str)) = false := by decide) : DE X W (.Name x pos) (vConst (.int i)) := by
  obtain ⟨t, hm⟩ := hm
  exact de_const (v := .int i) (pe_glob hg hm ⟨t, rfl⟩ hd) fun _ _ => .int i
theorem de_gstr {x y : Str} {pos : Pos} (hm : ∃ t, X.mg x = some (.str y t)) (hg : Gl X x := by rfl) (hd : (x == ("__debug__" : Str)) = false := by decide) : DE X W (.Name x pos) (vConst (.str y)) := by
  obtain ⟨t, hm⟩ := hm
  exact de_const (v := .str y) (pe_glob hg hm ⟨t, rfl⟩ hd) fun _ _ => .str y
theorem de_var {e : Expr} {i : Nat} (h : PE X e (tVar i)) : DE X W e (vVar i) := PE_imp h fun σ H Q ⟨F, G, δ, R, p⟩ => by
  unfold vVar at p
  split at p
  · rename_i d e
    obtain ⟨v, h1, h2⟩ := R.dat i d e
    exact ⟨v, h1, PostE.gives p R v H (Same.refl H) h2⟩
  · rename_i xs e
    obtain ⟨a, o, vs, h1, h2, h3, h4⟩ := R.tn i xs e
    exact ⟨_, h1, PostE.gives p R _ H (Same.refl H) (.tup (.inl (.inr ⟨o, h2⟩)) h4)⟩
  · exact p.elim
/-- an operator on data -/
def OpD (X : Cx) (f : Value → Value → Sem Value) (g : PyData → PyData → Res PyData) : Prop := ∃ r : R2, OpR X f r ∧ ∀ (G : Addr → Prop) (H : Hp) (v u : V) (d e z : PyData) (Q : VK), (∀ b, G b → H b ≠ none) →
  Dq X.K (hide G H) v d → Dq X.K (hide G H) u e → g d e = .ok z → Gives X G H z Q → r v u H Q
def noErr {α : Type} : Res α → Res α
  | .err _ => .bad
  | r => r
def vOp (g : PyData → PyData → Res PyData) (a b : EvE) : EvE := fun δ => (a δ).bind fun p => (b p.2).bind fun q => (noErr (g p.1 q.1)).bind fun z => .ok (z, q.2)
theorem post_op {F G : Addr → Prop} {H : Hp} {σ : St} {δ : DSt} {Q : VK} {r : Res PyData} (p : PostE X W F G H σ ((noErr r).bind fun z => .ok (z, δ)) Q) (R : Rep X.K F G H σ δ) : ∃ z, r = .ok z ∧ Gives X G H z Q := by
  cases r with
  | ok z => exact ⟨z, rfl, PostE.gives p R⟩
  | err c => exact p.elim
  | bad => exact p.elim
theorem tD_op {g : PyData → PyData → Res PyData} {fa fb : EvE} {r : R2} (hr : ∀ (G : Addr → Prop) (H : Hp) (v u : V) (d e z : PyData) (Q : VK), (∀ b, G b → H b ≠ none) → Dq X.K (hide G H) v d → Dq X.K (hide G H) u e → g d e = .ok z → Gives X G H z Q → r v u H Q)
    {σ : St} {H : Hp} {Q : VK} (h : tD X W (vOp g fa fb) σ H Q) : tOp r (tD X W fa) (tD X W fb) σ H Q := by
  obtain ⟨F, G, δ, R, p⟩ := h
  refine seqE (P := fun H r => PostE X W F G H σ r Q) R p (fun _ _ f p => p.mono f) (fun _ p => p) (fun p => p) fun d δ1 v H1 f1 R1 h1 p1 => ?_
  refine seqE (P := fun H r => PostE X W F G H σ r Q) R1 p1 (fun _ _ f p => p.mono f) (fun _ p => p) (fun p => p) fun e δ2 u H2 f2 R2 h2 p2 => ?_
  obtain ⟨z, hz, gz⟩ := post_op p2 R2
  exact hr G H2 v u d e z Q R2.vis (h1.mono f2.hide) h2 hz gz
theorem de_op {a b : Expr} {fa fb : EvE} {op : Operator} {g : PyData → PyData → Res PyData} {pos : Pos} (ho : OpD X (binaryOp op) g) (ha : DE X W a fa) (hb : DE X W b fb) : DE X W (.BinOp a op b pos) (vOp g fa fb) := by
  obtain ⟨r, h1, h2⟩ := ho
  exact PE_imp (pe_op h1 ha hb) fun σ H Q h => tD_op h2 h
theorem de_cmp {a b : Expr} {fa fb : EvE} {op : CmpOp} {g : PyData → PyData → Res PyData} {pos : Pos} (ho : OpD X (compareOp op) g) (ha : DE X W a fa) (hb : DE X W b fb) (hm : behindInMarks op b = false := by first | exact nomark _ | rfl) : DE X W (.Compare a [op] [b] pos) (vOp g fa fb) := by
  obtain ⟨r, h1, h2⟩ := ho
  exact PE_imp (pe_cmpR h1 ha hb hm) fun σ H Q h => tD_op h2 h
/-- the truth of a value: bools alone -/
def asB (r : Res (PyData × DSt)) : Res (Bool × DSt) := r.bind fun p => match p.1 with
  | .bool b => .ok (b, p.2)
  | _ => .bad
def vTest (f : EvE) : EvT := fun δ => asB (f δ)
theorem tDT_of {f : EvE} {σ : St} {H : Hp} {Q : Bool → Hp → Prop} (h : tDT X W (vTest f) σ H Q) : tD X W f σ H (fun v H1 => ∃ k, v = .bl k ∧ Q k H1) := by
  obtain ⟨F, G, δ, R, p⟩ := h
  refine ⟨F, G, δ, R, ?_⟩
  unfold vTest asB at p
  cases e : f δ with
  | ok x =>
    obtain ⟨d, δ1⟩ := x
    rw [e] at p
    intro v H' fr R1 h
    cases d with
    | bool b => cases h; exact ⟨b, rfl, p H' fr R1⟩
    | none => exact p.elim
    | int i => exact p.elim
    | str x => exact p.elim
    | list x => exact p.elim
    | tuple x => exact p.elim
    | dict x => exact p.elim
  | err c => rw [e] at p; exact p
  | bad => rw [e] at p; exact p
theorem dt_cmp {a b : Expr} {fa fb : EvE} {op : CmpOp} {g : PyData → PyData → Res PyData} {pos : Pos} (ho : OpD X (compareOp op) g) (ha : DE X W a fa) (hb : DE X W b fb) (hm : behindInMarks op b = false := by first | exact nomark _ | rfl) : DT X W (.Compare a [op] [b] pos) (vTest (vOp g fa fb)) := by
  obtain ⟨r, h1, h2⟩ := ho
  exact PT_imp (pt_cmpR h1 ha hb hm) fun σ H Q h => tD_op h2 (tDT_of h)
theorem dt_val {e : Expr} {f : EvE} (h : DE X W e f) (he : ∀ whole, isTrue e X.env whole = (do let v ← whole; standAt e.pos; holding [v] (truthy v)) := by intro _; rfl) : DT X W e (vTest f) := PT_imp (pt_val h he) fun σ H Q q => tDT_of q
/-- chains -/
def vChain (g g' : PyData → PyData → Res PyData) (a b c : EvE) : EvE := fun δ => (a δ).bind fun p => (b p.2).bind fun q => (noErr (g p.1 q.1)).bind fun z => match z with
  | .bool true => (c q.2).bind fun s => (noErr (g' q.1 s.1)).bind fun y => .ok (y, s.2)
  | .bool false => .ok (.bool false, q.2)
  | _ => .bad
theorem tD_chain {g g' : PyData → PyData → Res PyData} {fa fb fc : EvE} {r r' : R2}
    (hr : ∀ (G : Addr → Prop) (H : Hp) (v u : V) (d e z : PyData) (Q : VK), (∀ b, G b → H b ≠ none) → Dq X.K (hide G H) v d → Dq X.K (hide G H) u e → g d e = .ok z → Gives X G H z Q → r v u H Q)
    (hr' : ∀ (G : Addr → Prop) (H : Hp) (v u : V) (d e z : PyData) (Q : VK), (∀ b, G b → H b ≠ none) → Dq X.K (hide G H) v d → Dq X.K (hide G H) u e → g' d e = .ok z → Gives X G H z Q → r' v u H Q)
    {σ : St} {H : Hp} {Q : VK} (h : tD X W (vChain g g' fa fb fc) σ H Q) : tChain r r' (tD X W fa) (tD X W fb) (tD X W fc) σ H Q := by
  obtain ⟨F, G, δ, R, p⟩ := h
  refine seqE (P := fun H r => PostE X W F G H σ r Q) R p (fun _ _ f p => p.mono f) (fun _ p => p) (fun p => p) fun d δ1 v H1 f1 R1 h1 p1 => ?_
  refine seqE (P := fun H r => PostE X W F G H σ r Q) R1 p1 (fun _ _ f p => p.mono f) (fun _ p => p) (fun p => p) fun e δ2 u H2 f2 R2 h2 p2 => ?_
  cases hz : g d e with
  | err c => rw [hz] at p2; exact p2.elim
  | bad => rw [hz] at p2; exact p2.elim
  | ok z =>
    rw [hz] at p2
    refine hr G H2 v u d e z _ R2.vis (h1.mono f2.hide) h2 hz fun w H3 s3 hw => ?_
    have R3 := R2.same s3
    have p3 := PostE.mono p2 (.of s3)
    cases z with
    | bool k =>
      cases hw
      refine ⟨k, rfl, ?_⟩
      cases k with
      | true =>
        rw [if_pos rfl]
        refine seqE (P := fun H r => PostE X W F G H σ r Q) R3 p3 (fun _ _ f p => p.mono f) (fun _ p => p) (fun p => p) fun x δ4 y H4 f4 R4 h4 p4 => ?_
        obtain ⟨z', hz', gz'⟩ := post_op p4 R4
        exact hr' G H4 u y e x z' Q R4.vis (Dq.mono f4.hide _ (Dq.mono (hideS s3) _ h2)) h4 hz' gz'
      | false =>
        rw [if_neg Bool.false_ne_true]
        exact PostE.gives p3 R3 _ H3 (Same.refl _) (.bl false)
    | none => exact p2.elim
    | int i => exact p2.elim
    | str x => exact p2.elim
    | list x => exact p2.elim
    | tuple x => exact p2.elim
    | dict x => exact p2.elim
theorem de_chain {a b c : Expr} {fa fb fc : EvE} {op op' : CmpOp} {g g' : PyData → PyData → Res PyData} {pos : Pos} (ho : OpD X (compareOp op) g) (ho' : OpD X (compareOp op') g') (ha : DE X W a fa) (hb : DE X W b fb) (hc : DE X W c fc) (hm : lastMarks [op, op'] [b, c] = false := by rfl) : DE X W (.Compare a [op, op'] [b, c] pos) (vChain g g' fa fb fc) := by
  obtain ⟨r, h1, h2⟩ := ho
  obtain ⟨r', h1', h2'⟩ := ho'
  exact PE_imp (pe_chain h1 h1' ha hb hc hm) fun σ H Q h => tD_chain h2 h2' h
theorem dt_chain {a b c : Expr} {fa fb fc : EvE} {op op' : CmpOp} {g g' : PyData → PyData → Res PyData} {pos : Pos} (ho : OpD X (compareOp op) g) (ho' : OpD X (compareOp op') g') (ha : DE X W a fa) (hb : DE X W b fb) (hc : DE X W c fc) (hm : lastMarks [op, op'] [b, c] = false := by rfl) : DT X W (.Compare a [op, op'] [b, c] pos) (vTest (vChain g g' fa fb fc)) := by
  obtain ⟨r, h1, h2⟩ := ho
  obtain ⟨r', h1', h2'⟩ := ho'
  exact PT_imp (pt_chain h1 h1' ha hb hc hm) fun σ H Q h => tD_chain h2 h2' (tDT_of h)
end
end DL
set_option Elab.async false
set_option linter.all false
set_option maxRecDepth 100000
set_option maxHeartbeats 2000000
namespace DL
open PySem PySem.Spec L2
section
variable {X : Cx} {W : WX}
/-! ### operators on data -/
theorem OpR.any {f : Value → Value → Sem Value} {ι : Type} {r : ι → R2} (h : ∀ i, OpR X f (r i)) : OpR X f (fun x y H Q => ∃ i, r i x y H Q) := by
  intro pins s σ H x y v u Q I rx ry q
  obtain ⟨i, q⟩ := q
  exact h i pins s σ H x y v u Q I rx ry q
/-- list + list: as op_cat, both tracked -/
def gAdd : PyData → PyData → Res PyData
  | .int i, .int j => .ok (.int (i + j))
  | .str x, .str y => if x.length + y.length ≤ sizeLine then .ok (.str (x ++ y)) else .bad
  | .tuple xs, .tuple ys => if xs.length + ys.length ≤ sizeLine then .ok (.tuple (xs ++ ys)) else .bad
  | .list xs, .list ys => if xs.length + ys.length ≤ sizeLine then .ok (.list (xs ++ ys)) else .bad
  | _, _ => .bad
theorem opd_add : OpD X (binaryOp .Add) gAdd := by
  refine ⟨_, OpR.or op_add (OpR.or op_add_str (OpR.or op_catA op_cat)), fun G H v u d e z Q vis hd he hz g => ?_⟩
  cases d <;> cases e <;> try (cases hz; done)
  · cases hd; cases he; cases hz
    exact .inl ⟨_, _, rfl, rfl, g.here (.int _)⟩
  · cases hd; cases he
    rename_i x y
    by_cases c : x.length + y.length ≤ sizeLine
    · have hz' : (if x.length + y.length ≤ sizeLine then Res.ok (PyData.str (x ++ y)) else .bad) = .ok z := hz
      rw [if_pos c] at hz'
      cases hz'
      exact .inr (.inl ⟨_, _, rfl, rfl, c, g.here (.str _)⟩)
    · have hz' : (if x.length + y.length ≤ sizeLine then Res.ok (PyData.str (x ++ y)) else .bad) = .ok z := hz
      rw [if_neg c] at hz'
      cases hz'
  · rename_i xs ys
    cases hd with
    | lst hs ha =>
      cases he with
      | lst hs' hb =>
        have hz' : (if xs.length + ys.length ≤ sizeLine then Res.ok (PyData.list (xs ++ ys)) else .bad) = .ok z := hz
        by_cases c : xs.length + ys.length ≤ sizeLine
        · rw [if_pos c] at hz'
          cases hz'
          exact .inr (.inr (.inr ⟨_, _, _, _, rfl, rfl, (hide_some hs).2, (hide_some hs').2, by rw [ha.length, hb.length]; exact c, g.lst vis (ha.append hb)⟩))
        · rw [if_neg c] at hz'
          cases hz'
  · rename_i xs ys
    cases hd with
    | tup hs ha =>
      cases he with
      | tup hs' hb =>
        have hz' : (if xs.length + ys.length ≤ sizeLine then Res.ok (PyData.tuple (xs ++ ys)) else .bad) = .ok z := hz
        by_cases c : xs.length + ys.length ≤ sizeLine
        · rw [if_pos c] at hz'
          cases hz'
          refine .inr (.inr (.inl ⟨_, _, _, _, rfl, rfl, seqT unhide hs, seqT unhide hs', by rw [ha.length, hb.length]; exact c, fun e => ?_, fun _ e => ?_, fun _ _ => g.tup vis (ha.append hb)⟩))
          · subst e
            cases ha
            exact g.here (.tup hs' hb)
          · subst e
            cases hb
            rw [List.append_nil] at g
            exact g.here (.tup hs ha)
        · rw [if_neg c] at hz'
          cases hz'
def gSub : PyData → PyData → Res PyData
  | .int i, .int j => .ok (.int (i - j))
  | _, _ => .bad
theorem opd_sub : OpD X (binaryOp .Sub) gSub := by
  refine ⟨_, op_sub, fun G H v u d e z Q vis hd he hz g => ?_⟩
  cases d <;> cases e <;> try (cases hz; done)
  cases hd; cases he; cases hz
  exact ⟨_, _, rfl, rfl, g.here (.int _)⟩
def mulOk (i j : Int) : Bool := decide (i.natAbs < 2 ^ 64) || decide (j.natAbs < 2 ^ 64) || decide (i.natAbs.log2 + j.natAbs.log2 < 1000000)
def gMul : PyData → PyData → Res PyData
  | .int i, .int j => if mulOk i j = true then .ok (.int (i * j)) else .bad
  | .tuple xs, .int k => if xs.length ≤ 1000 ∧ 2 ≤ k ∧ k ≤ 1000 ∧ xs ≠ [] then .ok (.tuple (List.replicate k.toNat xs).flatten) else .bad
  | _, _ => .bad
theorem opd_mul : OpD X (binaryOp .Mult) gMul := by
  refine ⟨_, OpR.or op_mul (OpR.or op_mulW op_repT), fun G H v u d e z Q vis hd he hz g => ?_⟩
  cases d <;> cases e <;> try (cases hz; done)
  · rename_i i j
    cases hd; cases he
    have hz' : (if mulOk i j = true then Res.ok (PyData.int (i * j)) else .bad) = .ok z := hz
    by_cases c : mulOk i j = true
    · rw [if_pos c] at hz'
      cases hz'
      unfold mulOk at c
      rw [Bool.or_eq_true, Bool.or_eq_true, decide_eq_true_eq, decide_eq_true_eq, decide_eq_true_eq] at c
      rcases c with (c | c) | c
      · exact .inl ⟨_, _, rfl, rfl, .inl ⟨by omega, by omega⟩, g.here (.int _)⟩
      · exact .inl ⟨_, _, rfl, rfl, .inr ⟨by omega, by omega⟩, g.here (.int _)⟩
      · exact .inr (.inl ⟨_, _, rfl, rfl, c, g.here (.int _)⟩)
    · rw [if_neg c] at hz'
      cases hz'
  · rename_i xs k
    cases he
    cases hd with
    | tup hs ha =>
      have hz' : (if xs.length ≤ 1000 ∧ 2 ≤ k ∧ k ≤ 1000 ∧ xs ≠ [] then Res.ok (PyData.tuple (List.replicate k.toNat xs).flatten) else .bad) = .ok z := hz
      by_cases c : xs.length ≤ 1000 ∧ 2 ≤ k ∧ k ≤ 1000 ∧ xs ≠ []
      · rw [if_pos c] at hz'
        cases hz'
        refine .inr (.inr ⟨_, _, _, rfl, rfl, seqT unhide hs, fun e => ?_, c.2.1, c.2.2.1, by rw [ha.length]; exact c.1, g.tup vis (ha.rep _)⟩)
        subst e
        cases ha
        exact c.2.2.2 rfl
      · rw [if_neg c] at hz'
        cases hz'
def gFdiv : PyData → PyData → Res PyData
  | .int i, .int j => if 0 < j ∧ j.natAbs.log2 < 9000 then .ok (.int (i / j)) else .bad
  | _, _ => .bad
theorem opd_fdiv : OpD X (binaryOp .FloorDiv) gFdiv := by
  refine ⟨_, op_fdivW, fun G H v u d e z Q vis hd he hz g => ?_⟩
  cases d <;> cases e <;> try (cases hz; done)
  rename_i i j
  cases hd; cases he
  have hz' : (if 0 < j ∧ j.natAbs.log2 < 9000 then Res.ok (PyData.int (i / j)) else .bad) = .ok z := hz
  by_cases c : 0 < j ∧ j.natAbs.log2 < 9000
  · rw [if_pos c] at hz'
    cases hz'
    exact ⟨_, _, rfl, rfl, c, g.here (.int _)⟩
  · rw [if_neg c] at hz'
    cases hz'
def gMod : PyData → PyData → Res PyData
  | .int i, .int j => if 0 < j then .ok (.int (i % j)) else .bad
  | _, _ => .bad
theorem opd_mod : OpD X (binaryOp .Mod) gMod := by
  refine ⟨_, op_mod, fun G H v u d e z Q vis hd he hz g => ?_⟩
  cases d <;> cases e <;> try (cases hz; done)
  rename_i i j
  cases hd; cases he
  have hz' : (if 0 < j then Res.ok (PyData.int (i % j)) else .bad) = .ok z := hz
  by_cases c : 0 < j
  · rw [if_pos c] at hz'
    cases hz'
    exact ⟨_, _, rfl, rfl, c, g.here (.int _)⟩
  · rw [if_neg c] at hz'
    cases hz'
def gPow : PyData → PyData → Res PyData
  | .int i, .int j => if 0 ≤ j ∧ j ≤ 1000000 ∧ i.natAbs < 2 ^ 64 then .ok (.int (i ^ j.toNat)) else .bad
  | _, _ => .bad
theorem opd_pow : OpD X (binaryOp .Pow) gPow := by
  refine ⟨_, op_pow, fun G H v u d e z Q vis hd he hz g => ?_⟩
  cases d <;> cases e <;> try (cases hz; done)
  rename_i i j
  cases hd; cases he
  have hz' : (if 0 ≤ j ∧ j ≤ 1000000 ∧ i.natAbs < 2 ^ 64 then Res.ok (PyData.int (i ^ j.toNat)) else .bad) = .ok z := hz
  by_cases c : 0 ≤ j ∧ j ≤ 1000000 ∧ i.natAbs < 2 ^ 64
  · rw [if_pos c] at hz'
    cases hz'
    exact ⟨_, _, rfl, rfl, c, g.here (.int _)⟩
  · rw [if_neg c] at hz'
    cases hz'
/-! ### comparisons -/
/-- == of data -/
def gEq (d e : PyData) : Res PyData := if (SeqAt.shaped d && SeqAt.shaped e) = true then .ok (.bool (PyData.eqv d e)) else .bad
def gNe (d e : PyData) : Res PyData := if (SeqAt.shaped d && SeqAt.shaped e) = true then .ok (.bool (!PyData.eqv d e)) else .bad
theorem opd_eq (hu : X.A.units + 64 < cLine) : OpD X (compareOp .Eq) gEq := by
  refine ⟨_, op_eqD hu, fun G H v u d e z Q vis hd he hz g => ?_⟩
  unfold gEq at hz
  by_cases c : (SeqAt.shaped d && SeqAt.shaped e) = true
  · rw [if_pos c] at hz
    cases hz
    rw [Bool.and_eq_true] at c
    exact ⟨d, e, (Dq.mono unhide _ hd).dp d (lay c.1), (Dq.mono unhide _ he).dp e (lay c.2), c.1, c.2, g.here (.bl _)⟩
  · rw [if_neg c] at hz
    cases hz
theorem opd_ne (hu : X.A.units + 64 < cLine) : OpD X (compareOp .NotEq) gNe := by
  refine ⟨_, op_neD hu, fun G H v u d e z Q vis hd he hz g => ?_⟩
  unfold gNe at hz
  by_cases c : (SeqAt.shaped d && SeqAt.shaped e) = true
  · rw [if_pos c] at hz
    cases hz
    rw [Bool.and_eq_true] at c
    exact ⟨d, e, (Dq.mono unhide _ hd).dp d (lay c.1), (Dq.mono unhide _ he).dp e (lay c.2), c.1, c.2, g.here (.bl _)⟩
  · rw [if_neg c] at hz
    cases hz
def gLt : PyData → PyData → Res PyData
  | .int i, .int j => .ok (.bool (decide (i < j)))
  | .str i, .str j => .ok (.bool (decide (i.cps.toList < j.cps.toList)))
  | _, _ => .bad
def gLe : PyData → PyData → Res PyData
  | .int i, .int j => .ok (.bool (decide (i ≤ j)))
  | .str i, .str j => .ok (.bool (!decide (j.cps.toList < i.cps.toList)))
  | _, _ => .bad
def gGt : PyData → PyData → Res PyData
  | .int i, .int j => .ok (.bool (decide (j < i)))
  | .str i, .str j => .ok (.bool (decide (j.cps.toList < i.cps.toList)))
  | _, _ => .bad
def gGe : PyData → PyData → Res PyData
  | .int i, .int j => .ok (.bool (decide (j ≤ i)))
  | .str i, .str j => .ok (.bool (!decide (i.cps.toList < j.cps.toList)))
  | _, _ => .bad
theorem opd_lt : OpD X (compareOp .Lt) gLt := by
  refine ⟨_, OpR.or op_lt op_lt_str, fun G H v u d e z Q vis hd he hz g => ?_⟩
  cases d <;> cases e <;> try (cases hz; done)
  · cases hd; cases he; cases hz
    exact .inl ⟨_, _, rfl, rfl, g.here (.bl _)⟩
  · cases hd; cases he; cases hz
    exact .inr ⟨_, _, rfl, rfl, g.here (.bl _)⟩
theorem opd_le : OpD X (compareOp .LtE) gLe := by
  refine ⟨_, OpR.or op_le op_le_str, fun G H v u d e z Q vis hd he hz g => ?_⟩
  cases d <;> cases e <;> try (cases hz; done)
  · cases hd; cases he; cases hz
    exact .inl ⟨_, _, rfl, rfl, g.here (.bl _)⟩
  · cases hd; cases he; cases hz
    exact .inr ⟨_, _, rfl, rfl, g.here (.bl _)⟩
theorem opd_ge : OpD X (compareOp .GtE) gGe := by
  refine ⟨_, OpR.or op_ge op_ge_str, fun G H v u d e z Q vis hd he hz g => ?_⟩
  cases d <;> cases e <;> try (cases hz; done)
  · cases hd; cases he; cases hz
    exact .inl ⟨_, _, rfl, rfl, g.here (.bl _)⟩
  · cases hd; cases he; cases hz
    exact .inr ⟨_, _, rfl, rfl, g.here (.bl _)⟩
/-- in: a text in a text, data in a list of data, flat data in a tuple -/
def strIn (i j : Str) : Bool := !(Builtin.Str.occurrences j i 0 j.length 1).isEmpty
def flatD : PyData → Bool
  | .none | .bool _ | .int _ | .str _ => true
  | _ => false
def gIn : PyData → PyData → Res PyData
  | .str i, .str j => .ok (.bool (strIn i j))
  | d, .list ds => if (SeqAt.shaped d && SeqAt.shaped (.list ds)) = true then .ok (.bool (ds.any fun z => PyData.eqv z d)) else .bad
  | d, .tuple ds => if (flatD d && ds.all flatD) = true then .ok (.bool (ds.any fun z => PyData.eqv z d)) else .bad
  | _, _ => .bad
theorem flat_of {K : PySem.W.Frag} {H : Hp} {v : V} {d : PyData} (h : Dq K H v d) (f : flatD d = true) : flatV v = true := by
  cases d <;> cases h <;> first | rfl | cases f
theorem eqV_of {K : PySem.W.Frag} {H : Hp} {v u : V} {d e : PyData} (h : Dq K H v d) (k : Dq K H u e) (f : flatD d = true) (f' : flatD e = true) : eqV v u = PyData.eqv d e := by
  cases d <;> cases h <;> cases e <;> cases k <;> first | rfl | (cases f; done) | (cases f'; done) | (simp [eqV, PyData.eqv])
theorem any_of {K : PySem.W.Frag} {H : Hp} {v : V} {d : PyData} (h : Dq K H v d) (f : flatD d = true) : ∀ {vs : List V} {ds : List PyData}, DqAll K H vs ds → ds.all flatD = true → vs.all flatV = true ∧ inV v vs = ds.any fun z => PyData.eqv z d
  | _, _, .nil, _ => ⟨rfl, rfl⟩
  | _, _, .cons (v := u) (d := e) r t, q => by
    rw [List.all_cons, Bool.and_eq_true] at q
    obtain ⟨h1, h2⟩ := any_of h f t q.2
    refine ⟨by rw [List.all_cons, flat_of r q.1, h1, Bool.and_self], ?_⟩
    unfold inV at h2 ⊢
    rw [List.any_cons, List.any_cons, h2, eqV_of r h q.1 f]
theorem opd_in (hu : X.A.units + 65 < cLine) : OpD X (compareOp .In) gIn := by
  refine ⟨_, OpR.or op_in_str (OpR.or (op_inD hu) op_in_seq), fun G H v u d e z Q vis hd he hz g => ?_⟩
  have lst : ∀ ds, e = .list ds → (if (SeqAt.shaped d && SeqAt.shaped (.list ds)) = true then Res.ok (PyData.bool (ds.any fun z => PyData.eqv z d)) else .bad) = .ok z → rInD X.K v u H Q := fun ds ee hz' => by
    subst ee
    by_cases c : (SeqAt.shaped d && SeqAt.shaped (.list ds)) = true
    · rw [if_pos c] at hz'
      cases hz'
      rw [Bool.and_eq_true] at c
      exact ⟨d, ds, (Dq.mono unhide _ hd).dp d (lay c.1), (Dq.mono unhide _ he).dp _ (lay c.2), c.1, c.2, g.here (.bl _)⟩
    · rw [if_neg c] at hz'
      cases hz'
  have tup : ∀ ds, e = .tuple ds → (if (flatD d && ds.all flatD) = true then Res.ok (PyData.bool (ds.any fun z => PyData.eqv z d)) else .bad) = .ok z → rIn X.K false v u H Q := fun ds ee hz' => by
    subst ee
    by_cases c : (flatD d && ds.all flatD) = true
    · rw [if_pos c] at hz'
      cases hz'
      rw [Bool.and_eq_true] at c
      cases he with
      | tup hs ha =>
        obtain ⟨h1, h2⟩ := any_of hd c.1 ha c.2
        refine ⟨_, _, rfl, .inr (seqT unhide hs), flat_of hd c.1, h1, ?_⟩
        show Q (.bl (inV v _)) H
        rw [h2]
        exact g.here (.bl _)
    · rw [if_neg c] at hz'
      cases hz'
  cases e with
  | str j =>
    cases d <;> try (cases hz; done)
    cases hd; cases he; cases hz
    exact .inl ⟨_, _, rfl, rfl, g.here (.bl _)⟩
  | list ds => exact .inr (.inl (lst ds rfl (by cases d <;> exact hz)))
  | tuple ds => exact .inr (.inr (tup ds rfl (by cases d <;> exact hz)))
  | _ => cases d <;> cases hz
/-! ### -a -/
def vNeg (f : EvE) : EvE := fun δ => (f δ).bind fun p => match p.1 with
  | .int i => .ok (.int (-i), p.2)
  | _ => .bad
theorem de_neg {a : Expr} {f : EvE} {pos : Pos} (ha : DE X W a f) : DE X W (.UnaryOp .USub a pos) (vNeg f) := by
  refine PE_imp (pe_un un_neg ha) fun σ H Q ⟨F, G, δ, R, p⟩ => ?_
  refine seqE (P := fun H r => PostE X W F G H σ r Q) R p (fun _ _ f p => p.mono f) (fun _ p => p) (fun p => p) fun d δ1 v H1 f1 R1 h1 p1 => ?_
  cases d <;> try exact p1.elim
  cases h1
  exact ⟨_, rfl, (PostE.gives p1 R1).here (.int _)⟩
/-! ### tests -/
def vAnd (a b : EvT) : EvT := fun δ => (a δ).bind fun p => if p.1 = true then b p.2 else .ok (false, p.2)
def vOr (a b : EvT) : EvT := fun δ => (a δ).bind fun p => if p.1 = true then .ok (true, p.2) else b p.2
def vNot (a : EvT) : EvT := fun δ => (a δ).bind fun p => .ok (!p.1, p.2)
variable {a b : Expr} {rest : List Expr} {pos : Pos} {fa fb : EvT}
theorem dw_or1 (ha : DT X W a fa) : DW X W (.BoolOp .Or [a] pos) fa := pw_or1 ha
theorem dw_or (ha : DT X W a fa) (hb : DW X W (.BoolOp .Or (b :: rest) pos) fb) : DW X W (.BoolOp .Or (a :: b :: rest) pos) (vOr fa fb) := by
  refine PW_imp (pw_or ha hb) fun σ H Q ⟨F, G, δ, R, p⟩ => ?_
  refine seqT' (P := fun H r => PostT X W F G H σ r Q) R p (fun _ _ f p => p.mono f) (fun _ p => p) (fun p => p) fun d δ1 H1 f1 R1 p1 => ?_
  cases d with
  | true =>
    rw [if_pos rfl]
    exact p1 H1 Fr.refl R1
  | false =>
    rw [if_neg Bool.false_ne_true]
    exact ⟨F, G, δ1, R1, p1⟩
theorem dt_w (h : DW X W a fa) : DT X W a fa := PW.pt h
theorem dt_not (ha : DT X W a fa) : DT X W (.UnaryOp .Not a pos) (vNot fa) := by
  refine PT_imp (pt_not ha) fun σ H Q ⟨F, G, δ, R, p⟩ => ?_
  refine seqT' (P := fun H r => PostT X W F G H σ r Q) R p (fun _ _ f p => p.mono f) (fun _ p => p) (fun p => p) fun d δ1 H1 f1 R1 p1 => ?_
  exact p1 H1 Fr.refl R1
/-- and, or as values of bools -/
def vAndV (a b : EvE) : EvE := fun δ => (asB (a δ)).bind fun p => if p.1 = true then b p.2 else .ok (.bool false, p.2)
def vOrV (a b : EvE) : EvE := fun δ => (asB (a δ)).bind fun p => if p.1 = true then .ok (.bool true, p.2) else b p.2
def vNotV (a : EvE) : EvE := fun δ => (asB (a δ)).bind fun p => .ok (.bool (!p.1), p.2)
variable {ga gb : EvE}
theorem de_one {op} (ha : DE X W a ga) : DE X W (.BoolOp op [a] pos) ga := pe_one ha
theorem de_and (ha : DE X W a ga) (hb : DE X W (.BoolOp .And (b :: rest) pos) gb) : DE X W (.BoolOp .And (a :: b :: rest) pos) (vAndV ga gb) := by
  refine PE_imp (pe_and ha hb) fun σ H Q ⟨F, G, δ, R, p⟩ => ?_
  refine ⟨F, G, δ, R, ?_⟩
  unfold vAndV asB at p
  cases e : ga δ with
  | ok x =>
    obtain ⟨d, δ1⟩ := x
    rw [e] at p
    intro v H1 fr R1 h
    cases d <;> try exact p.elim
    rename_i k
    cases h
    refine ⟨k, rfl, ?_⟩
    cases k with
    | true =>
      rw [if_pos rfl]
      exact ⟨F, G, δ1, R1, PostE.mono p fr⟩
    | false =>
      rw [if_neg Bool.false_ne_true]
      exact (PostE.gives (PostE.mono p fr) R1).here (.bl false)
  | err c => rw [e] at p; exact p
  | bad => rw [e] at p; exact p
theorem de_not (ha : DE X W a ga) : DE X W (.UnaryOp .Not a pos) (vNotV ga) := by
  refine PE_imp (pe_not ha) fun σ H Q ⟨F, G, δ, R, p⟩ => ?_
  refine ⟨F, G, δ, R, ?_⟩
  unfold vNotV asB at p
  cases e : ga δ with
  | ok x =>
    obtain ⟨d, δ1⟩ := x
    rw [e] at p
    intro v H1 fr R1 h
    cases d <;> try exact p.elim
    rename_i k
    cases h
    exact ⟨k, rfl, (PostE.gives (PostE.mono p fr) R1).here (.bl _)⟩
  | err c => rw [e] at p; exact p
  | bad => rw [e] at p; exact p
/-- a if t else b -/
def vIf (t : EvT) (a b : EvE) : EvE := fun δ => (t δ).bind fun p => if p.1 = true then a p.2 else b p.2
theorem de_if {c : Expr} (hc : DT X W c fa) (ha : DE X W a ga) (hb : DE X W b gb) : DE X W (.IfExp c a b pos) (vIf fa ga gb) := by
  refine PE_imp (pe_ifExp hc ha hb) fun σ H Q ⟨F, G, δ, R, p⟩ => ?_
  refine seqT' (P := fun H r => PostE X W F G H σ r Q) R p (fun _ _ f p => p.mono f) (fun _ p => p) (fun p => p) fun d δ1 H1 f1 R1 p1 => ?_
  cases d with
  | true =>
    rw [if_pos rfl]
    exact ⟨F, G, δ1, R1, p1⟩
  | false =>
    rw [if_neg Bool.false_ne_true]
    exact ⟨F, G, δ1, R1, p1⟩
/-! ### arguments, displays -/
def vNil : EvA := fun δ => .ok ([], δ)
def vCons (a : EvE) (r : EvA) : EvA := fun δ => (a δ).bind fun p => (r p.2).bind fun q => .ok (p.1 :: q.1, q.2)
theorem da_nil : DA X W [] vNil := PA_imp pa_nil fun σ H Q ⟨F, G, δ, R, p⟩ => p [] H Fr.refl R .nil
theorem da_cons {e : Expr} {es : List Expr} {f : EvE} {g : EvA} (ha : DE X W e f) (hr : DA X W es g) (hs : starEach (e :: es) X.env = (false, eval e X.env) :: starEach es X.env := by rfl) : DA X W (e :: es) (vCons f g) := by
  refine PA_imp (pa_cons ha hr hs) fun σ H Q ⟨F, G, δ, R, p⟩ => ?_
  refine seqE (P := fun H r => PostA X W F G H σ r Q) R p (fun _ _ f p => p.mono f) (fun _ p => p) (fun p => p) fun d δ1 v H1 f1 R1 h1 p1 => ?_
  refine seqA (P := fun H r => PostA X W F G H σ r Q) R1 p1 (fun _ _ f p => p.mono f) (fun _ p => p) (fun p => p) fun ds δ2 vs H2 f2 R2 h2 p2 => ?_
  exact p2 _ H2 Fr.refl R2 (.cons (Dq.mono f2.hide _ h1) h2)
def vTup (f : EvA) : EvE := fun δ => (f δ).bind fun p => if p.1.length ≤ sizeLine then .ok (.tuple p.1, p.2) else .bad
def vLst (f : EvA) : EvE := fun δ => (f δ).bind fun p => if p.1.length ≤ sizeLine then .ok (.list p.1, p.2) else .bad
theorem de_tup {es : List Expr} {f : EvA} {x1} (h : DA X W es f) : DE X W (.Tuple es x1 pos) (vTup f) := by
  refine PE_imp (pe_tup h) fun σ H Q ⟨F, G, δ, R, p⟩ => ?_
  refine seqA (P := fun H r => PostE X W F G H σ r Q) R p (fun _ _ f p => p.mono f) (fun _ p => p) (fun p => p) fun ds δ2 vs H2 f2 R2 h2 p2 => ?_
  dsimp only at p2
  by_cases c : ds.length ≤ sizeLine
  · rw [if_pos c] at p2
    exact ⟨by rw [h2.length]; exact c, (PostE.gives p2 R2).tup R2.vis h2⟩
  · rw [if_neg c] at p2
    exact p2.elim
theorem de_lst {es : List Expr} {f : EvA} (h : DA X W es f) : DE X W (.List es pos) (vLst f) := by
  refine PE_imp (pe_lst h) fun σ H Q ⟨F, G, δ, R, p⟩ => ?_
  refine seqA (P := fun H r => PostE X W F G H σ r Q) R p (fun _ _ f p => p.mono f) (fun _ p => p) (fun p => p) fun ds δ2 vs H2 f2 R2 h2 p2 => ?_
  dsimp only at p2
  by_cases c : ds.length ≤ sizeLine
  · rw [if_pos c] at p2
    exact ⟨by rw [h2.length]; exact c, (PostE.gives p2 R2).lst R2.vis h2⟩
  · rw [if_neg c] at p2
    exact p2.elim
/-! ### items, slices -/
def gIx : PyData → PyData → Res PyData
  | .list ds, .int i => match atI ds i with | some d => .ok d | none => .bad
  | .tuple ds, .int i => match atI ds i with | some d => .ok d | none => .bad
  | .str z, .int i => if z.length ≤ sizeLine then (match atI z.cps.toList i with | some c => .ok (.str ⟨#[c]⟩) | none => .bad) else .bad
  | _, _ => .bad
theorem _root_.L2.DqAll.at {K : PySem.W.Frag} {H : Hp} {vs : List V} {ds : List PyData} {i : Int} {d : PyData} (h : DqAll K H vs ds) (e : atI ds i = some d) : ∃ v, atI vs i = some v ∧ Dq K H v d := by
  unfold atI at e ⊢
  rw [h.length]
  cases q : ixN ds.length i with
  | none => rw [q] at e; cases e
  | some j =>
    rw [q] at e
    exact h.get e
theorem tD_ix {f g : EvE} {σ : L2.St} {H : Hp} {Q : VK} (h : tD X W (vOp gIx f g) σ H Q) : tOp (rIx X.K) (tD X W f) (tD X W g) σ H Q := by
  refine tD_op (fun G H v u d e z Q vis hd he hz g => ?_) h
  cases d <;> cases e <;> try (cases hz; done)
  · rename_i x i
    cases hd; cases he
    have hz' : (if x.length ≤ sizeLine then (match atI x.cps.toList i with | some c => Res.ok (PyData.str ⟨#[c]⟩) | none => .bad) else .bad) = .ok z := hz
    by_cases c : x.length ≤ sizeLine
    · rw [if_pos c] at hz'
      cases e : atI x.cps.toList i with
      | none => rw [e] at hz'; cases hz'
      | some q =>
        rw [e] at hz'
        cases hz'
        exact .inr (.inr ⟨_, _, q, rfl, rfl, c, e, g.here (.str _)⟩)
    · rw [if_neg c] at hz'
      cases hz'
  · rename_i ds i
    cases he
    cases hd with
    | lst hs ha =>
      have hz' : (match atI ds i with | some d => Res.ok d | none => .bad) = .ok z := hz
      cases e : atI ds i with
      | none => rw [e] at hz'; cases hz'
      | some q =>
        rw [e] at hz'
        cases hz'
        obtain ⟨v, h1, h2⟩ := ha.at e
        exact .inl ⟨_, _, _, v, rfl, rfl, .inl (.inl (hide_some hs).2), h1, g.here h2⟩
  · rename_i ds i
    cases he
    cases hd with
    | tup hs ha =>
      have hz' : (match atI ds i with | some d => Res.ok d | none => .bad) = .ok z := hz
      cases e : atI ds i with
      | none => rw [e] at hz'; cases hz'
      | some q =>
        rw [e] at hz'
        cases hz'
        obtain ⟨v, h1, h2⟩ := ha.at e
        exact .inr (.inl ⟨_, _, _, v, rfl, rfl, seqT unhide hs, h1, g.here h2⟩)
theorem de_ix (ha : DE X W a ga) (hb : DE X W b gb) (hs : PlainIx b := by exact fun _ _ => rfl) : DE X W (.Subscript a b pos) (vOp gIx ga gb) :=
  PE_imp (pe_ix ix_seq ha hb hs) fun σ H Q h => tD_ix h
/-- a part of a slice -/
abbrev EvO := DSt → Res (Option Int × DSt)
def vNoPart : EvO := fun δ => .ok (none, δ)
def vPart (f : EvE) : EvO := fun δ => (f δ).bind fun p => match p.1 with
  | .int i => .ok (some i, p.2)
  | _ => .bad
def PostO (X : Cx) (W : WX) (F G : Addr → Prop) (H : Hp) (σ : L2.St) (r : Res (Option Int × DSt)) (Q : Option Int → Hp → Prop) : Prop := match r with
  | .ok (d, δ') => ∀ H', Fr F G H H' → Rep X.K F G H' σ δ' → Q d H'
  | .err c => ∀ C H', X.mg c = some (.ref C) → Fr F G H H' → W (.ref C) none σ H'
  | .bad => False
def tDO (X : Cx) (W : WX) (f : EvO) : TO := fun σ H Q => ∃ F G δ, Rep X.K F G H σ δ ∧ PostO X W F G H σ (f δ) Q
def DO (X : Cx) (W : WX) (e : Option Expr) (f : EvO) : Prop := ∃ t, PO X e t ∧ ∀ σ H Q, tDO X W f σ H Q → t σ H Q
theorem do_none : DO X W none vNoPart := ⟨_, po_none, fun σ H Q ⟨F, G, δ, R, p⟩ => p H Fr.refl R⟩
theorem do_some {e : Expr} {f : EvE} (h : DE X W e f) : DO X W (some e) (vPart f) := ⟨_, po_some h, fun σ H Q ⟨F, G, δ, R, p⟩ => by
  refine ⟨F, G, δ, R, ?_⟩
  unfold vPart at p
  cases e : f δ with
  | ok x =>
    obtain ⟨d, δ1⟩ := x
    rw [e] at p
    intro v H1 fr R1 h
    cases d <;> try exact p.elim
    cases h
    exact ⟨_, rfl, p H1 fr R1⟩
  | err c => rw [e] at p; exact p
  | bad => rw [e] at p; exact p⟩
def cutD {α : Type} (xs : List α) (lo hi : Option Int) : List α := (xs.drop (HT.sIx xs.length 0 lo)).take (HT.sIx xs.length xs.length hi - HT.sIx xs.length 0 lo)
def gSl : PyData → Option Int → Option Int → Res PyData
  | .list ds, lo, hi => .ok (.list (cutD ds lo hi))
  | .tuple ds, lo, hi => .ok (.tuple (cutD ds lo hi))
  | .str z, lo, hi => if z.length ≤ sizeLine then .ok (.str (cutS z lo hi)) else .bad
  | _, _, _ => .bad
def vSl (f : EvE) (l h : EvO) : EvE := fun δ => (f δ).bind fun p => (l p.2).bind fun q => (h q.2).bind fun r => (noErr (gSl p.1 q.1 r.1)).bind fun z => .ok (z, r.2)
theorem seqO {F G : Addr → Prop} {H : Hp} {σ : L2.St} {δ : DSt} {f : EvO} {β : Type} {g : Option Int × DSt → Res β} {P : Hp → Res β → Prop} {Q : Option Int → Hp → Prop}
    (R : Rep X.K F G H σ δ) (hp : P H ((f δ).bind g)) (mono : ∀ H1 r, Fr F G H H1 → P H r → P H1 r)
    (herr : ∀ c, P H (.err c) → ∀ C H', X.mg c = some (.ref C) → Fr F G H H' → W (.ref C) none σ H') (hbad : P H .bad → False)
    (hok : ∀ d δ1 H1, Fr F G H H1 → Rep X.K F G H1 σ δ1 → P H1 (g (d, δ1)) → Q d H1) : tDO X W f σ H Q := by
  refine ⟨F, G, δ, R, ?_⟩
  cases e : f δ with
  | ok x =>
    obtain ⟨d, δ1⟩ := x
    rw [e] at hp
    exact fun H1 fr R1 => hok d δ1 H1 fr R1 (mono H1 _ fr hp)
  | err c => rw [e] at hp; exact herr c hp
  | bad => rw [e] at hp; exact hbad hp
theorem cutV_eq (xs : List V) (lo hi : Option Int) : cutV xs lo hi = cutD xs lo hi := rfl
theorem _root_.L2.DqAll.cut {K : PySem.W.Frag} {H : Hp} {vs : List V} {ds : List PyData} (h : DqAll K H vs ds) (lo hi : Option Int) : DqAll K H (cutV vs lo hi) (cutD ds lo hi) := by
  rw [cutV_eq]
  unfold cutD
  rw [h.length]
  exact (h.drop _).take _
theorem cut_whole {α : Type} {ds : List α} {lo hi : Option Int} (h : HT.sIx ds.length 0 lo = 0 ∧ HT.sIx ds.length ds.length hi = ds.length) : cutD ds lo hi = ds := by
  unfold cutD
  rw [h.1, h.2]
  simp
theorem de_slice {e : Expr} {f : EvE} {lo hi : Option Expr} {l h : EvO} {p2 : Pos} (he : DE X W e f) (hl : DO X W lo l) (hh : DO X W hi h) : DE X W (.Subscript e (.Slice lo hi none p2) pos) (vSl f l h) := by
  obtain ⟨tl, hl1, hl2⟩ := hl
  obtain ⟨th, hh1, hh2⟩ := hh
  refine PE_imp (pe_slice (SlR.or sl_str (SlR.or sl_tupA sl_list)) he hl1 hh1) fun σ H Q ⟨F, G, δ, R, p⟩ => ?_
  refine seqE (P := fun H r => PostE X W F G H σ r Q) R p (fun _ _ f p => p.mono f) (fun _ p => p) (fun p => p) fun d δ1 v H1 f1 R1 h1 p1 => hl2 _ _ _ ?_
  refine seqO (P := fun H r => PostE X W F G H σ r Q) R1 p1 (fun _ _ f p => p.mono f) (fun _ p => p) (fun p => p) fun i δ2 H2 f2 R2 p2 => hh2 _ _ _ ?_
  refine seqO (P := fun H r => PostE X W F G H σ r Q) R2 p2 (fun _ _ f p => p.mono f) (fun _ p => p) (fun p => p) fun j δ3 H3 f3 R3 p3 => ?_
  obtain ⟨z, hz, g⟩ := post_op p3 R3
  have h3 := Dq.mono (Fr.trans f2 f3).hide _ h1
  cases d <;> try (cases hz; done)
  · rename_i x
    cases h3
    have hz' : (if x.length ≤ sizeLine then Res.ok (PyData.str (cutS x i j)) else .bad) = .ok z := hz
    by_cases c : x.length ≤ sizeLine
    · rw [if_pos c] at hz'
      cases hz'
      exact .inl ⟨_, rfl, c, g.here (.str _)⟩
    · rw [if_neg c] at hz'
      cases hz'
  · cases h3 with
    | lst hs ha =>
      cases hz
      exact .inr (.inr ⟨_, _, rfl, .inl (.inl (hide_some hs).2), g.lst R3.vis (ha.cut i j)⟩)
  · cases h3 with
    | tup hs ha =>
      cases hz
      refine .inr (.inl ⟨_, _, rfl, seqT unhide hs, fun q => ?_, fun _ => g.tup R3.vis (ha.cut i j)⟩)
      rw [ha.length] at q
      rw [cut_whole q] at g
      exact g.here (.tup hs ha)
end
end DL
set_option Elab.async false
set_option linter.all false
set_option maxRecDepth 100000
set_option maxHeartbeats 2000000
namespace DL
open PySem PySem.Spec L2
section
variable {X : Cx} {W : WX}
/-! ### calls of built-in functions -/
def CallD (X : Cx) (f : Value) (g : List PyData → Res PyData) : Prop := ∃ r, CallR X f r ∧ ∀ (G : Addr → Prop) (H : Hp) (vs : List V) (ds : List PyData) (z : PyData) (Q : VK), (∀ b, G b → H b ≠ none) →
  DqAll X.K (hide G H) vs ds → g ds = .ok z → Gives X G H z Q → r vs H Q
def vCall (g : List PyData → Res PyData) (a : EvA) : EvE := fun δ => (a δ).bind fun p => (noErr (g p.1)).bind fun z => .ok (z, p.2)
theorem tD_call {g : List PyData → Res PyData} {fa : EvA} {r : List V → Hp → VK → Prop} (hr : ∀ (G : Addr → Prop) (H : Hp) (vs : List V) (ds : List PyData) (z : PyData) (Q : VK), (∀ b, G b → H b ≠ none) → DqAll X.K (hide G H) vs ds → g ds = .ok z → Gives X G H z Q → r vs H Q)
    {σ : L2.St} {H : Hp} {Q : VK} (h : tD X W (vCall g fa) σ H Q) : tCB r (tDA X W fa) σ H Q := by
  obtain ⟨F, G, δ, R, p⟩ := h
  refine seqA (P := fun H r => PostE X W F G H σ r Q) R p (fun _ _ f p => p.mono f) (fun _ p => p) (fun p => p) fun ds δ1 vs H1 f1 R1 h1 p1 => ?_
  obtain ⟨z, hz, gz⟩ := post_op p1 R1
  exact hr G H1 vs ds z Q R1.vis h1 hz gz
variable {x : Str} {p pos : Pos} {e : Expr} {es : List Expr} {idn T : String} {g : List PyData → Res PyData} {fa : EvA}
theorem de_callB (hc : CallD X (.builtin idn) g) (hm : X.mg x = none) (hv : bootBuiltins x = some (.builtin idn)) (ha : DA X W (e :: es) fa) (hg : Gl X x := by rfl) (hn : x ≠ "__name__" := by decide) (hdb : (x == ("__debug__" : Str)) = false := by decide)
    (he : starEach (e :: es) X.env = (false, eval e X.env) :: starEach es X.env := by rfl) (hpl : (backTo pos (starEach es X.env)).any (·.1) = false := by rfl) : DE X W (.Call (.Name x p) (e :: es) [] pos) (vCall g fa) := by
  obtain ⟨r, h1, h2⟩ := hc
  exact PE_imp (pe_callB h1 hg hm hv ha hn hdb he hpl) fun σ H Q h => tD_call h2 h
theorem de_callTy (hc : CallD X (.type T) g) (hm : X.mg x = none) (hv : bootBuiltins x = some (.type T)) (ha : DA X W (e :: es) fa) (hg : Gl X x := by rfl) (hn : x ≠ "__name__" := by decide) (hdb : (x == ("__debug__" : Str)) = false := by decide)
    (he : starEach (e :: es) X.env = (false, eval e X.env) :: starEach es X.env := by rfl) (hpl : (backTo pos (starEach es X.env)).any (·.1) = false := by rfl) : DE X W (.Call (.Name x p) (e :: es) [] pos) (vCall g fa) := by
  obtain ⟨r, h1, h2⟩ := hc
  exact PE_imp (pe_callTy h1 hg hm hv ha hn hdb he hpl) fun σ H Q h => tD_call h2 h
/-- a built-in function that the module has by an import -/
theorem de_callI (hc : CallD X (.builtin idn) g) (hm : X.mg x = some (.builtin idn)) (ha : DA X W (e :: es) fa) (hg : Gl X x := by rfl) (hdb : (x == ("__debug__" : Str)) = false := by decide)
    (he : starEach (e :: es) X.env = (false, eval e X.env) :: starEach es X.env := by rfl) (hpl : (backTo pos (starEach es X.env)).any (·.1) = false := by rfl) : DE X W (.Call (.Name x p) (e :: es) [] pos) (vCall g fa) := by
  obtain ⟨r, h1, h2⟩ := hc
  exact PE_imp (pe_callBfun h1 hg hm ha hdb he hpl) fun σ H Q h => tD_call h2 h
/-! lists of one kind -/
def intsOf : List PyData → Option (List Int)
  | [] => some []
  | .int i :: r => (intsOf r).map (i :: ·)
  | _ => none
def boolsOf : List PyData → Option (List Bool)
  | [] => some []
  | .bool i :: r => (boolsOf r).map (i :: ·)
  | _ => none
def strsOf : List PyData → Option (List Str)
  | [] => some []
  | .str i :: r => (strsOf r).map (i :: ·)
  | _ => none
@[simp] theorem intsOf_map (ns : List Int) : intsOf (ns.map PyData.int) = some ns := by
  induction ns with
  | nil => rfl
  | cons n ns ih => rw [List.map_cons, intsOf, ih] <;> rfl
@[simp] theorem boolsOf_map (ns : List Bool) : boolsOf (ns.map PyData.bool) = some ns := by
  induction ns with
  | nil => rfl
  | cons n ns ih => rw [List.map_cons, boolsOf, ih] <;> rfl
@[simp] theorem strsOf_map (ns : List Str) : strsOf (ns.map PyData.str) = some ns := by
  induction ns with
  | nil => rfl
  | cons n ns ih => rw [List.map_cons, strsOf, ih] <;> rfl
theorem ints_v {K : PySem.W.Frag} {H : Hp} : ∀ {vs : List V} {ds : List PyData} {ns : List Int}, DqAll K H vs ds → intsOf ds = some ns → vs = ns.map V.int
  | _, [], _, h, e => by cases h; cases e; rfl
  | _, .int i :: ds, ns, h, e => by
    cases h with
    | cons h1 h2 =>
      cases h1
      rw [intsOf] at e
      obtain ⟨ms, q, rfl⟩ := Option.map_eq_some_iff.mp e
      rw [List.map_cons, ints_v h2 q]
  | _, .none :: _, _, _, e => by cases e
  | _, .bool _ :: _, _, _, e => by cases e
  | _, .str _ :: _, _, _, e => by cases e
  | _, .list _ :: _, _, _, e => by cases e
  | _, .tuple _ :: _, _, _, e => by cases e
  | _, .dict _ :: _, _, _, e => by cases e
theorem bools_v {K : PySem.W.Frag} {H : Hp} : ∀ {vs : List V} {ds : List PyData} {ns : List Bool}, DqAll K H vs ds → boolsOf ds = some ns → vs = ns.map V.bl
  | _, [], _, h, e => by cases h; cases e; rfl
  | _, .bool i :: ds, ns, h, e => by
    cases h with
    | cons h1 h2 =>
      cases h1
      rw [boolsOf] at e
      obtain ⟨ms, q, rfl⟩ := Option.map_eq_some_iff.mp e
      rw [List.map_cons, bools_v h2 q]
  | _, .none :: _, _, _, e => by cases e
  | _, .int _ :: _, _, _, e => by cases e
  | _, .str _ :: _, _, _, e => by cases e
  | _, .list _ :: _, _, _, e => by cases e
  | _, .tuple _ :: _, _, _, e => by cases e
  | _, .dict _ :: _, _, _, e => by cases e
theorem strs_v {K : PySem.W.Frag} {H : Hp} : ∀ {vs : List V} {ds : List PyData} {ns : List Str}, DqAll K H vs ds → strsOf ds = some ns → vs = ns.map V.str
  | _, [], _, h, e => by cases h; cases e; rfl
  | _, .str i :: ds, ns, h, e => by
    cases h with
    | cons h1 h2 =>
      cases h1
      rw [strsOf] at e
      obtain ⟨ms, q, rfl⟩ := Option.map_eq_some_iff.mp e
      rw [List.map_cons, strs_v h2 q]
  | _, .none :: _, _, _, e => by cases e
  | _, .int _ :: _, _, _, e => by cases e
  | _, .bool _ :: _, _, _, e => by cases e
  | _, .list _ :: _, _, _, e => by cases e
  | _, .tuple _ :: _, _, _, e => by cases e
  | _, .dict _ :: _, _, _, e => by cases e
theorem dq_ints {K : PySem.W.Frag} {H : Hp} : ∀ ns : List Int, DqAll K H (ns.map V.int) (ns.map PyData.int)
  | [] => .nil
  | n :: ns => .cons (.int n) (dq_ints ns)
def gLen : List PyData → Res PyData
  | [.list ds] => .ok (.int ds.length)
  | [.tuple ds] => .ok (.int ds.length)
  | [.str z] => if z.length ≤ sizeLine then .ok (.int z.length) else .bad
  | _ => .bad
theorem cd_len : CallD X (.builtin "len") gLen := by
  refine ⟨_, call_len, fun G H vs ds z Q vis h hz g => ?_⟩
  match ds, h, hz with
  | [.list ds], .cons (.lst hs ha) .nil, hz => cases hz; exact ⟨_, _, rfl, .inl ⟨_, .inl (.inl (hide_some hs).2), rfl⟩, by rw [ha.length]; exact g.here (.int _)⟩
  | [.tuple ds], .cons (.tup hs ha) .nil, hz => cases hz; exact ⟨_, _, rfl, .inr ⟨_, seqT unhide hs, rfl⟩, by rw [ha.length]; exact g.here (.int _)⟩
  | [.str y], .cons (.str _) .nil, hz =>
    have hz' : (if y.length ≤ sizeLine then Res.ok (PyData.int y.length) else .bad) = .ok z := hz
    by_cases c : y.length ≤ sizeLine
    · rw [if_pos c] at hz'
      cases hz'
      exact ⟨_, _, rfl, ⟨c, rfl⟩, g.here (.int _)⟩
    · rw [if_neg c] at hz'
      cases hz'
def gTuple : List PyData → Res PyData
  | [.list ds] => .ok (.tuple ds)
  | [.tuple ds] => .ok (.tuple ds)
  | _ => .bad
theorem cd_tuple : CallD X (.type "tuple") gTuple := by
  refine ⟨_, call_tuple_of, fun G H vs ds z Q vis h hz g => ?_⟩
  match ds, h, hz with
  | [.list ds], .cons (.lst hs ha) .nil, hz => cases hz; exact ⟨_, _, rfl, .inl ⟨.inl (.inl (hide_some hs).2), g.tup vis ha⟩⟩
  | [.tuple ds], .cons (.tup hs ha) .nil, hz => cases hz; exact ⟨_, _, rfl, .inr ⟨seqT unhide hs, g.here (.tup hs ha)⟩⟩
def gSum : List PyData → Res PyData
  | [.list ds] => match intsOf ds with | some ns => .ok (.int ns.sum) | none => .bad
  | _ => .bad
theorem cd_sum (hc : X.calm = true) : CallD X (.builtin "sum") gSum := by
  refine ⟨_, cr_sum hc, fun G H vs ds z Q vis h hz g => ?_⟩
  match ds, h, hz with
  | [.list ds], .cons (.lst hs ha) .nil, hz =>
    have hz' : (match intsOf ds with | some ns => Res.ok (PyData.int ns.sum) | none => .bad) = .ok z := hz
    cases e : intsOf ds with
    | none => rw [e] at hz'; cases hz'
    | some ns =>
      rw [e] at hz'
      cases hz'
      have q := ints_v ha e
      subst q
      exact ⟨_, ns, rfl, .inl (.inl (hide_some hs).2), g.here (.int _)⟩
def gAll : List PyData → Res PyData
  | [.list ds] => match boolsOf ds with | some ns => .ok (.bool (ns.all id)) | none => .bad
  | _ => .bad
theorem cd_all (hc : X.calm = true) : CallD X (.builtin "all") gAll := by
  refine ⟨_, cr_all hc, fun G H vs ds z Q vis h hz g => ?_⟩
  match ds, h, hz with
  | [.list ds], .cons (.lst hs ha) .nil, hz =>
    have hz' : (match boolsOf ds with | some ns => Res.ok (PyData.bool (ns.all _root_.id)) | none => .bad) = .ok z := hz
    cases e : boolsOf ds with
    | none => rw [e] at hz'; cases hz'
    | some ns =>
      rw [e] at hz'
      cases hz'
      have q := bools_v ha e
      subst q
      exact ⟨_, ns, rfl, .inl (.inl (hide_some hs).2), g.here (.bl _)⟩
def gAbs : List PyData → Res PyData
  | [.int i] => .ok (.int (if i < 0 then -i else i))
  | _ => .bad
theorem cd_abs : CallD X (.builtin "abs") gAbs := by
  refine ⟨_, call_abs, fun G H vs ds z Q vis h hz g => ?_⟩
  match ds, h, hz with
  | [.int i], .cons (.int _) .nil, hz => cases hz; exact ⟨i, rfl, g.here (.int _)⟩
def gGcd : List PyData → Res PyData
  | [.int a, .int b] => .ok (.int (Nat.gcd a.natAbs b.natAbs : Nat))
  | _ => .bad
theorem cd_gcd : CallD X (.builtin "math.gcd") gGcd := by
  refine ⟨_, cr_gcd, fun G H vs ds z Q vis h hz g => ?_⟩
  match ds, h, hz with
  | [.int a, .int b], .cons (.int _) (.cons (.int _) .nil), hz => cases hz; exact ⟨a, b, rfl, g.here (.int _)⟩
/-! ### isinstance(x, T), T a built-in type -/
def tyD : PyData → String
  | .none => "NoneType"
  | .bool _ => "bool"
  | .int _ => "int"
  | .str _ => "str"
  | .list _ => "list"
  | .tuple _ => "tuple"
  | .dict _ => "dict"
/-- no exception and no def -/
def plainD : PyData → Bool
  | .dict _ => false
  | _ => true
theorem TyX.dq {K : PySem.W.Frag} {H : Hp} {G : Addr → Prop} {v : V} {d : PyData} (h : Dq K (hide G H) v d) (hp : plainD d = true) : TyX K H v (.type (tyD d)) := by
  cases h with
  | exc => cases hp
  | fn => cases hp
  | non => exact .base .non
  | bl b => exact .base (.bl b)
  | int i => exact .base (.int i)
  | str x => exact .base (.str x)
  | lst hs _ => exact .base (.lst (hide_some hs).2)
  | tup hs _ =>
    rcases seqT unhide hs with (hs | ⟨o, hs⟩) | ⟨o, its, n, hk, hc, _⟩
    · exact .base (.tup hs)
    · exact .fTuple hs
    · exact .kTuple hk hc
def isiD (T : String) (d : PyData) : Bool := (kitB (tyD d) T).getD false
def isiOk (T : String) : Bool := ["NoneType", "bool", "int", "str", "list", "tuple", "dict"].all fun a => (kitB a T).isSome
def vIsi (T : String) (f : EvE) : EvE := fun δ => (f δ).bind fun p => if plainD p.1 = true then .ok (.bool (isiD T p.1), p.2) else .bad
theorem de_isi {f : EvE} {q : Pos} {y : Str} (ho : isiOk T = true) (ha : DE X W e f) (hm : X.mg "isinstance" = none) (hmT : X.mg y = none) (hvT : bootBuiltins y = some (.type T)) (hg : Gl X "isinstance" := by rfl) (hgT : Gl X y := by rfl) (hnT : y ≠ "__name__" := by decide) (hdT : (y == ("__debug__" : Str)) = false := by decide)
    (hv : bootBuiltins "isinstance" = some (.builtin "isinstance") := by decide +kernel)
    (he : starEach (e :: [.Name y q]) X.env = (false, eval e X.env) :: starEach [.Name y q] X.env := by rfl) (he2 : starEach [Expr.Name y q] X.env = (false, eval (.Name y q) X.env) :: starEach [] X.env := by rfl) (hpl : (backTo pos (starEach [Expr.Name y q] X.env)).any (·.1) = false := by rfl) :
    DE X W (.Call (.Name "isinstance" p) [e, .Name y q] [] pos) (vIsi T f) := by
  refine PE_imp (pe_callB call_isi hg hm hv (pa_cons ha (pa_cons (pe_bltn (v := .ty T) hgT hmT hvT rfl hnT hdT) pa_nil he2) he) (by decide) (by decide) he hpl) fun σ H Q ⟨F, G, δ, R, p⟩ => ?_
  refine seqE (P := fun H r => PostE X W F G H σ r Q) R p (fun _ _ f p => p.mono f) (fun _ p => p) (fun p => p) fun d δ1 v H1 f1 R1 h1 p1 => ?_
  dsimp only at p1
  by_cases hp : plainD d = true
  case neg => rw [if_neg hp] at p1; exact p1.elim
  rw [if_pos hp] at p1
  have kb : ∃ b, kitB (tyD d) T = some b := by
    unfold isiOk at ho
    rw [List.all_eq_true] at ho
    exact Option.isSome_iff_exists.mp (ho (tyD d) (by cases d <;> simp [tyD]))
  obtain ⟨b, kb⟩ := kb
  refine ⟨v, .ty T, .type (tyD d), .type T, b, rfl,   .ty T, TyX.dq h1 hp, kit_ty kb, ?_⟩
  have g := PostE.gives p1 R1
  have e : isiD T d = b := by unfold isiD; rw [kb] <;> rfl
  rw [e] at g
  exact g.here (.bl b)
/-! ### methods of texts that change nothing -/
def MtD (X : Cx) (idn : String) (g : Str → List PyData → Res PyData) : Prop := ∃ r, MtR X idn r ∧ ∀ (G : Addr → Prop) (H : Hp) (x : Str) (vs : List V) (ds : List PyData) (z : PyData) (Q : VK), (∀ b, G b → H b ≠ none) →
  DqAll X.K (hide G H) vs ds → g x ds = .ok z → Gives X G H z Q → r (.str x) vs H Q
def vM1 (g : Str → List PyData → Res PyData) (o e : EvE) : EvE := fun δ => (o δ).bind fun p => match p.1 with
  | .str x => (e p.2).bind fun q => (noErr (g x [q.1])).bind fun z => .ok (z, q.2)
  | _ => .bad
theorem de_m1 {name : Str} {apos : Pos} {g : Str → List PyData → Res PyData} {o : Expr} {fo fe : EvE} (slot : Slot "str" name idn) (ty : typeOf (.builtin idn) = pure (.type "method_descriptor")) (rule : MtD X idn g) (ho : DE X W o fo) (he : DE X W e fe)
    (hs : starEach [e] X.env = [(false, eval e X.env)] := by rfl) (hbase : attributeBase o name X.env (eval o X.env) = eval o X.env := by rfl) (hline : (apos.endLine == pos.line) = true := by rfl) :
    DE X W (.Call (.Attribute o name apos) [e] [] pos) (vM1 g fo fe) := by
  obtain ⟨r, h1, h2⟩ := rule
  refine PE_imp (pe_m1 slot ty h1 ho he hs hbase hline) fun σ H Q ⟨F, G, δ, R, p⟩ => ?_
  refine seqE (P := fun H r => PostE X W F G H σ r Q) R p (fun _ _ f p => p.mono f) (fun _ p => p) (fun p => p) fun d δ1 v H1 f1 R1 h1' p1 => ?_
  cases d <;> try exact p1.elim
  cases h1'
  refine ⟨⟨_, rfl⟩, ?_⟩
  refine seqE (P := fun H r => PostE X W F G H σ r Q) R1 p1 (fun _ _ f p => p.mono f) (fun _ p => p) (fun p => p) fun e δ2 u H2 f2 R2 h2' p2 => ?_
  obtain ⟨z, hz, gz⟩ := post_op p2 R2
  exact h2 G H2 _ [u] [e] z Q R2.vis (.cons h2' .nil) hz gz
def joinLen (a : Str) (ys : List Str) : Nat := (ys.map (·.length)).sum + ys.length * a.length
def gJoin : Str → List PyData → Res PyData
  | a, [.list ds] => match strsOf ds with | some ys => if joinLen a ys ≤ 16777216 then .ok (.str (Txt.join a ys)) else .bad | none => .bad
  | a, [.tuple ds] => match strsOf ds with | some ys => if joinLen a ys ≤ 16777216 then .ok (.str (Txt.join a ys)) else .bad | none => .bad
  | _, _ => .bad
theorem md_join : MtD X "str.join" gJoin := by
  refine ⟨_, mt_join, fun G H x vs ds z Q vis h hz g => ?_⟩
  have main : ∀ (ds : List PyData) (vs : List V), DqAll X.K (hide G H) vs ds → (match strsOf ds with | some ys => if joinLen x ys ≤ 16777216 then Res.ok (PyData.str (Txt.join x ys)) else .bad | none => .bad) = .ok z → ∃ ys : List Str, vs = ys.map V.str ∧ joinLen x ys ≤ 16777216 ∧ z = .str (Txt.join x ys) := by
    intro ds vs ha hz
    cases e : strsOf ds with
    | none => rw [e] at hz; cases hz
    | some ys =>
      rw [e] at hz
      have hz' : (if joinLen x ys ≤ 16777216 then Res.ok (PyData.str (Txt.join x ys)) else .bad) = .ok z := hz
      by_cases c : joinLen x ys ≤ 16777216
      · rw [if_pos c] at hz'
        cases hz'
        exact ⟨ys, strs_v ha e, c, rfl⟩
      · rw [if_neg c] at hz'
        cases hz'
  match ds, h, hz with
  | [.list ds], .cons (.lst hs ha) .nil, hz =>
    obtain ⟨ys, rfl, c, rfl⟩ := main ds _ ha hz
    exact ⟨x, _, ys, rfl, rfl, .inl (.inl (.inl (hide_some hs).2)), c, g.here (.str _)⟩
  | [.tuple ds], .cons (.tup hs ha) .nil, hz =>
    obtain ⟨ys, rfl, c, rfl⟩ := main ds _ ha hz
    exact ⟨x, _, ys, rfl, rfl, .inr (seqT unhide hs), c, g.here (.str _)⟩
/-! ### the program's own defs -/
/-- a def of plain data: what it makes of data; what it raises is of a class of the module -/
def spP (K : PySem.W.Frag) (mg : Str → Option Value) (φ : List PyData → Res PyData) : Sp := fun vs H Q E => ∃ F ds, (∀ b, F b → H b ≠ none) ∧ DqAll K (hide F H) vs ds ∧ match φ ds with
  | .ok d => ∀ v H', Same H H' → Dq K (hide F H') v d → Q v H'
  | .err c => ∀ C H', mg c = some (.ref C) → Same H H' → E (.ref C) none H'
  | .bad => False
/-- a def that is lent a list first, which it may change -/
def spM (K : PySem.W.Frag) (mg : Str → Option Value) (φ : List PyData → List PyData → Res (PyData × List PyData)) : Sp := fun vs H Q E => ∃ F a xs ls us ds, vs = .ref a :: us ∧ (∀ b, F b → H b ≠ none) ∧ ¬ F a ∧ H a = some (.lst xs) ∧
  DqAll K (hide (fun b => F b ∨ b = a) H) xs ls ∧ DqAll K (hide (fun b => F b ∨ b = a) H) us ds ∧ match φ ls ds with
  | .ok (d, ls') => ∀ v H' xs', Fr F (fun b => F b ∨ b = a) H H' → H' a = some (.lst xs') → DqAll K (hide (fun b => F b ∨ b = a) H') xs' ls' → Dq K (hide (fun b => F b ∨ b = a) H') v d → Q v H'
  | .err c => ∀ C H', mg c = some (.ref C) → Fr F (fun b => F b ∨ b = a) H H' → E (.ref C) none H'
  | .bad => False
/-- what a caller knows of a def of the module -/
structure Cal (P : Program) (w : World) (K : PySem.W.Frag) (mg : Str → Option Value) (base : Heap) (x : Str) (k : Nat) (sp : Sp) : Prop where
  ex : ∃ f fd ps, FnOk P w K mg base (L2N.CX P w) k f fd ps sp ∧ mg x = some (.ref f) ∧ PySem.W.keepIn K (.ref f) = true ∧ Binds K fd ps []
def vApp (φ : List PyData → Res PyData) (a : EvA) : EvE := fun δ => (a δ).bind fun p => (φ p.1).bind fun z => .ok (z, p.2)
theorem de_call {k : Nat} {φ : List PyData → Res PyData} (C : Cal X.prog X.w X.K X.mg X.base x k (spP X.K X.mg φ)) (hr : Room k X.A) (tk : L2N.Takes X W) (ha : DA X W (e :: es) fa) (hg : Gl X x := by rfl) (hdb : (x == ("__debug__" : Str)) = false := by decide)
    (he : starEach (e :: es) X.env = (false, eval e X.env) :: starEach es X.env := by rfl) (hpl : (backTo pos (starEach es X.env)).any (·.1) = false := by rfl) : DE X W (.Call (.Name x p) (e :: es) [] pos) (vApp φ fa) := by
  obtain ⟨f, fd, ps, hF, hm, hk, hb⟩ := C.ex
  refine PE_imp (pe_callS hF hr hg hm hk hb (fun σ => L2N.passAt tk σ) ha hdb he hpl) fun σ H Q ⟨F, G, δ, R, p⟩ => ?_
  refine seqA (P := fun H r => PostE X W F G H σ r Q) R p (fun _ _ f p => p.mono f) (fun _ p => p) (fun p => p) fun ds δ1 vs H1 f1 R1 h1 p1 => ?_
  refine ⟨G, ds, R1.vis, h1, ?_⟩
  cases e : φ ds with
  | ok z =>
    rw [e] at p1
    exact fun v H' s hv => p1 v H' (.of s) (R1.same s) hv
  | err c =>
    rw [e] at p1
    exact fun C H' hC s => p1 C H' hC (.of s)
  | bad =>
    rw [e] at p1
    exact p1.elim
/-- an own list's slot holds other data -/
theorem Rep.lent {K : PySem.W.Frag} {F G : Addr → Prop} {H H' : Hp} {σ : L2.St} {δ : DSt} {i : Nat} {a : Addr} {xs : List V} {ls ls' : List PyData} (R : Rep K F G H σ δ) (hi : δ[i]? = some (.own ls)) (hσ : σ[i]? = some (some (.ref a)))
    (f : ∀ b o, H b = some o → b ≠ a → H' b = some o) (ha : H' a = some (.lst xs)) (hd : DqAll K (hide G H') xs ls') : Rep K F G H' σ (δ.set i (.own ls')) := by
  have hil : i < δ.length := (List.getElem?_eq_some_iff.mp hi).1
  obtain ⟨a', _, h1, h2, h3, h4, _⟩ := R.ow i ls hi
  rw [hσ] at h1
  cases h1
  have S : Same (hide G H) (hide G H') := hide_same (fun _ z => .inl z) fun b o e n => f b o e (fun z => n (z ▸ h2))
  refine ⟨R.sub, fun b g e => ?_, by rw [List.length_set]; exact R.len, fun j d e => ?_, fun j ds e => ?_, fun j ds e => ?_, fun j k ds es c e1 e2 e3 e4 => ?_, fun j od e => ?_, fun j k od oe c e1 e2 e3 e4 => ?_⟩
  · cases q : H b with
    | none => exact R.vis b g q
    | some o =>
      by_cases z : b = a
      · subst z; rw [ha] at e; cases e
      · rw [f b o q z] at e; cases e
  · by_cases z : i = j
    · subst z; rw [List.getElem?_set_self hil] at e; cases e
    · rw [List.getElem?_set_ne z] at e
      obtain ⟨v, q1, q2⟩ := R.dat j d e
      exact ⟨v, q1, q2.mono S⟩
  · by_cases z : i = j
    · subst z; rw [List.getElem?_set_self hil] at e; cases e
    · rw [List.getElem?_set_ne z] at e
      obtain ⟨a', o, vs, q1, q2, q3, q4⟩ := R.tn j ds e
      exact ⟨a', o, vs, q1, S _ _ q2, q3, q4.mono S⟩
  · by_cases z : i = j
    · subst z
      rw [List.getElem?_set_self hil] at e
      cases e
      exact ⟨a, xs, hσ, h2, h3, ha, hd⟩
    · rw [List.getElem?_set_ne z] at e
      obtain ⟨a', ys, q1, q2, q3, q4, q5⟩ := R.ow j ds e
      refine ⟨a', ys, q1, q2, q3, f _ _ q4 fun y => z ?_, q5.mono S⟩
      subst y
      exact R.inj i j ls ds a' hi e hσ q1
  · have own : ∀ (j : Nat) (ds : List PyData), (δ.set i (.own ls'))[j]? = some (.own ds) → ∃ es, δ[j]? = some (.own es) := fun j ds e => by
      by_cases z : i = j
      · subst z; exact ⟨ls, hi⟩
      · rw [List.getElem?_set_ne z] at e
        exact ⟨ds, e⟩
    obtain ⟨ds', e1'⟩ := own j ds e1
    obtain ⟨es', e2'⟩ := own k es e2
    exact R.inj j k ds' es' c e1' e2' e3 e4
  · by_cases z : i = j
    · subst z; rw [List.getElem?_set_self hil] at e; cases e
    · rw [List.getElem?_set_ne z] at e
      obtain ⟨a', o, q1, q2, q3, q4, q5⟩ := R.ob j od e
      exact ⟨a', o, q1, q2, q3, f _ _ q4 (fun y => by subst y; rw [h4] at q4; cases q4; exact q5.nl), q5.mono S⟩
  · have same : ∀ (j : Nat) (od : OD), (δ.set i (.own ls'))[j]? = some (.ob od) → δ[j]? = some (.ob od) := fun j od e => by
      by_cases z : i = j
      · subst z; rw [List.getElem?_set_self hil] at e; cases e
      · rw [List.getElem?_set_ne z] at e; exact e
    exact R.obj j k od oe c (same j od e1) (same k oe e2) e3 e4
/-- f(x, ..), x (slot i) an own list that f may change -/
def vAppM (i : Nat) (φ : List PyData → List PyData → Res (PyData × List PyData)) (a : EvA) : EvE := fun δ => match δ[i]? with
  | some (.own _) => (a δ).bind fun p => match p.2[i]? with
    | some (.own ls) => (φ ls p.1).bind fun q => .ok (q.1, p.2.set i (.own q.2))
    | _ => .bad
  | _ => .bad
theorem de_callM {k i : Nat} {e0 : Expr} {φ : List PyData → List PyData → Res (PyData × List PyData)} (C : Cal X.prog X.w X.K X.mg X.base x k (spM X.K X.mg φ)) (hr : Room k X.A) (tk : L2N.Takes X W) (h0 : PE X e0 (tVar i)) (ha : DA X W es fa) (hg : Gl X x := by rfl) (hdb : (x == ("__debug__" : Str)) = false := by decide)
    (he : starEach (e0 :: es) X.env = (false, eval e0 X.env) :: starEach es X.env := by rfl) (hpl : (backTo pos (starEach es X.env)).any (·.1) = false := by rfl) : DE X W (.Call (.Name x p) (e0 :: es) [] pos) (vAppM i φ fa) := by
  obtain ⟨f, fd, ps, hF, hm, hk, hb⟩ := C.ex
  refine PE_imp (pe_callS hF hr hg hm hk hb (fun σ => L2N.passAt tk σ) (pa_cons h0 ha he) hdb he hpl) fun σ H Q ⟨F, G, δ, R, p⟩ => ?_
  unfold vAppM at p
  split at p
  · rename_i ls0 e0
    obtain ⟨a, xs0, hσ, hG, hF', hH0, _⟩ := R.ow i ls0 e0
    refine ⟨_, hσ, ?_⟩
    refine seqA (P := fun H r => PostE X W F G H σ r Q) R p (fun _ _ f p => p.mono f) (fun _ p => p) (fun p => p) fun ds δ1 vs H1 f1 R1 h1 p1 => ?_
    dsimp only at p1
    split at p1
    · rename_i ls e1
      obtain ⟨a', xs, hσ', _, _, hH1, hx⟩ := R1.ow i ls e1
      rw [hσ] at hσ'
      cases hσ'
      have hGe : (fun b => (G b ∧ b ≠ a) ∨ b = a) = G := by
        funext b
        refine propext ⟨fun z => z.elim (fun q => q.1) (fun q => q ▸ hG), fun z => ?_⟩
        by_cases q : b = a
        · exact .inr q
        · exact .inl ⟨z, q⟩
      refine ⟨fun b => G b ∧ b ≠ a, a, xs, ls, vs, ds, rfl, fun b z => R1.vis b z.1, fun z => z.2 rfl, hH1, ?_, ?_, ?_⟩
      · rw [hGe]; exact hx
      · rw [hGe]; exact h1
      · rw [hGe]
        have fr : ∀ {H'}, Fr (fun b => G b ∧ b ≠ a) G H1 H' → (∀ b o, H1 b = some o → b ≠ a → H' b = some o) ∧ Fr F G H1 H' := fun {H'} f => by
          have k : ∀ b o, H1 b = some o → b ≠ a → H' b = some o := fun b o e n => by
            by_cases g : G b
            · exact f b o e (.inl ⟨g, n⟩)
            · exact f b o e (.inr g)
          refine ⟨k, fun b o e n => k b o e fun z => ?_⟩
          subst z
          rcases n with n | n
          · exact hF' n
          · exact n hG
        cases eφ : φ ls ds with
        | ok q =>
          obtain ⟨d, ls'⟩ := q
          rw [eφ] at p1
          intro v H' xs' f hH' hx' hv
          exact p1 v H' (fr f).2 (R1.lent e1 hσ (fr f).1 hH' hx') hv
        | err c =>
          rw [eφ] at p1
          exact fun C H' hC f => p1 C H' hC (fr f).2
        | bad =>
          rw [eφ] at p1
          exact p1.elim
    · exact p1.elim
  · exact p.elim
end
/-- around a body nothing is let out -/
theorem takesN {X : Cx} : L2N.Takes X (fun _ _ _ _ => False) := fun _ _ x => by
  obtain ⟨_, _, _, _, _, _, _, _, _, _, _, _, _, _, _, _, z⟩ := x
  exact z.elim
end DL
set_option Elab.async false
set_option linter.all false
set_option maxRecDepth 100000
set_option maxHeartbeats 2000000
namespace DL
open PySem PySem.Spec L2
inductive Flw where
  | nx
  | rt (d : PyData)
  /-- a new tuple, known to have no dictionary, is returned -/
  | rn (ds : List PyData)
  | bk
  | ct
abbrev EvS := DSt → Res (Flw × DSt)
/-- from one place of a body to a later one -/
structure SF (F G G' : Addr → Prop) (H H' : Hp) (σ σ' : L2.St) (δ δ' : DSt) : Prop where
  fr : Fr F G H H'
  grow : ∀ b, G' b → G b ∨ H b = none
  keep0 : ∀ ds, δ[0]? = some (.own ds) → σ'[0]? = σ[0]? ∧ ∃ es, δ'[0]? = some (.own es)
theorem SF.refl {F G : Addr → Prop} {H : Hp} {σ : L2.St} {δ : DSt} : SF F G G H H σ σ δ δ := ⟨Fr.refl, fun _ z => .inl z, fun ds e => ⟨rfl, ds, e⟩⟩
theorem SF.trans {F G G1 G2 : Addr → Prop} {H H1 H2 : Hp} {σ σ1 σ2 : L2.St} {δ δ1 δ2 : DSt} (a : SF F G G1 H H1 σ σ1 δ δ1) (b : SF F G1 G2 H1 H2 σ1 σ2 δ1 δ2) : SF F G G2 H H2 σ σ2 δ δ2 where
  fr := fun c o e n => b.fr c o (a.fr c o e n) (by
    rcases n with n | n
    · exact .inl n
    · refine .inr fun z => ?_
      rcases a.grow c z with q | q
      · exact n q
      · rw [q] at e; cases e)
  grow := fun c z => by
    rcases b.grow c z with q | q
    · exact a.grow c q
    · cases e : H c with
      | none => exact .inr rfl
      | some o =>
        by_cases g : G c
        · exact .inl g
        · rw [a.fr c o e (.inr g)] at q
          cases q
  keep0 := fun ds e => by
    obtain ⟨h1, es, h2⟩ := a.keep0 ds e
    obtain ⟨h3, h4⟩ := b.keep0 es h2
    exact ⟨h3.trans h1, h4⟩
theorem SF.hide {F G G' : Addr → Prop} {H H' : Hp} {σ σ' : L2.St} {δ δ' : DSt} (s : SF F G G' H H' σ σ' δ δ') : Same (hide G H) (hide G' H') := hide_same s.grow fun b o e n => s.fr b o e (.inr n)
/-- an expression's own lists keep their slots -/
def Own0 (δ δ' : DSt) : Prop := ∀ ds, δ[0]? = some (.own ds) → ∃ es, δ'[0]? = some (.own es)
section
variable (X : Cx) (W : WX)
def PostS (F G : Addr → Prop) (H : Hp) (σ : L2.St) (δ : DSt) (r : Res (Flw × DSt)) (D : Ends) : Prop := match r with
  | .ok (.nx, δ') => ∀ σ' H' G', SF F G G' H H' σ σ' δ δ' → Rep X.K F G' H' σ' δ' → D.nx σ' H'
  | .ok (.rt d, δ') => ∀ v σ' H' G', SF F G G' H H' σ σ' δ δ' → Rep X.K F G' H' σ' δ' → Dq X.K (hide G' H') v d → D.rt v H'
  | .ok (.rn ds, δ') => ∀ a o vs σ' H' G', SF F G G' H H' σ σ' δ δ' → Rep X.K F G' H' σ' δ' → hide G' H' a = some (.frz o (.tup vs)) → o.dict = none → DqAll X.K (hide G' H') vs ds → D.rt (.ref a) H'
  | .ok (.bk, δ') => ∀ σ' H' G', SF F G G' H H' σ σ' δ δ' → Rep X.K F G' H' σ' δ' → D.bk σ' H'
  | .ok (.ct, δ') => ∀ σ' H' G', SF F G G' H H' σ σ' δ δ' → Rep X.K F G' H' σ' δ' → D.ct σ' H'
  | .err c => ∀ C σ' H', X.mg c = some (.ref C) → Fr F G H H' → W (.ref C) none σ' H'
  | .bad => False
def tDS (f : EvS) : TS := fun D σ H => ∃ F G δ, Rep X.K F G H σ δ ∧ PostS X W F G H σ δ (f δ) D
def DS (s : Stmt) (f : EvS) : Prop := PS X s (tDS X W f)
def DSs (s : List Stmt) (f : EvS) : Prop := PSs X s (tDS X W f)
end
section
variable {X : Cx} {W : WX}
theorem PostS.step {F G G1 : Addr → Prop} {H H1 : Hp} {σ σ1 : L2.St} {δ δ1 : DSt} {r : Res (Flw × DSt)} {D : Ends} (p : PostS X W F G H σ δ r D) (s : SF F G G1 H H1 σ σ1 δ δ1) : PostS X W F G1 H1 σ1 δ1 r D := by
  cases r with
  | ok x =>
    obtain ⟨fl, δ'⟩ := x
    cases fl with
    | nx => exact fun σ' H' G' s' R => p σ' H' G' (s.trans s') R
    | rt d => exact fun v σ' H' G' s' R h => p v σ' H' G' (s.trans s') R h
    | rn ds => exact fun a o vs σ' H' G' s' R h1 h2 h3 => p a o vs σ' H' G' (s.trans s') R h1 h2 h3
    | bk => exact fun σ' H' G' s' R => p σ' H' G' (s.trans s') R
    | ct => exact fun σ' H' G' s' R => p σ' H' G' (s.trans s') R
  | err c => exact fun C σ' H' hC f => p C σ' H' hC (fun b o e n => f b o (s.fr b o e n) (by
      rcases n with n | n
      · exact .inl n
      · refine .inr fun z => ?_
        rcases s.grow b z with q | q
        · exact n q
        · rw [q] at e; cases e))
  | bad => exact p
/-- first an expression, then the rest of a statement. Own0 is checked by the value: the slot 0 is asked again -/
def chk0 {α : Type} (δ : DSt) (r : Res (α × DSt)) : Res (α × DSt) := match δ[(0 : Nat)]? with
  | some (.own _) => (match r with
    | .ok (x, δ') => (match δ'[(0 : Nat)]? with
      | some (.own _) => .ok (x, δ')
      | _ => .bad)
    | r => r)
  | _ => r
theorem chk0_ok {α : Type} {δ δ' : DSt} {r : Res (α × DSt)} {x : α} (h : chk0 δ r = .ok (x, δ')) : r = .ok (x, δ') ∧ Own0 δ δ' := by
  unfold chk0 at h
  cases e : δ[0]? with
  | none => rw [e] at h; exact ⟨h, fun ds q => by rw [e] at q; cases q⟩
  | some s =>
    rw [e] at h
    cases s with
    | own ls =>
      cases r with
      | ok y =>
        obtain ⟨y, δy⟩ := y
        have h' : (match δy[(0 : Nat)]? with | some (.own _) => Res.ok (y, δy) | _ => .bad) = .ok (x, δ') := h
        cases q : δy[0]? with
        | none => rw [q] at h'; cases h'
        | some t =>
          rw [q] at h'
          cases t with
          | own es => cases h'; exact ⟨rfl, fun _ _ => ⟨es, q⟩⟩
          | no => cases h'
          | d z => cases h'
          | tn z => cases h'
          | ob z => cases h'
      | err c => cases h
      | bad => cases h
    | no => exact ⟨h, fun ds q => by rw [e] at q; cases q⟩
    | d z => exact ⟨h, fun ds q => by rw [e] at q; cases q⟩
    | tn z => exact ⟨h, fun ds q => by rw [e] at q; cases q⟩
    | ob z => exact ⟨h, fun ds q => by rw [e] at q; cases q⟩
theorem chk0_err {α : Type} {δ : DSt} {c : Str} : chk0 (α := α) δ (.err c) = .err c := by
  unfold chk0
  split <;> rfl
theorem chk0_bad {α : Type} {δ : DSt} : chk0 (α := α) δ .bad = .bad := by
  unfold chk0
  split <;> rfl
theorem seqES {F G : Addr → Prop} {H : Hp} {σ : L2.St} {δ : DSt} {f : EvE} {g : PyData × DSt → Res (Flw × DSt)} {D : Ends} {Q : VK}
    (R : Rep X.K F G H σ δ) (hp : PostS X W F G H σ δ ((chk0 δ (f δ)).bind g) D)
    (hok : ∀ d δ1 v H1, SF F G G H H1 σ σ δ δ1 → Rep X.K F G H1 σ δ1 → Dq X.K (hide G H1) v d → PostS X W F G H1 σ δ1 (g (d, δ1)) D → Q v H1) : tD X W f σ H Q := by
  refine ⟨F, G, δ, R, ?_⟩
  cases e : f δ with
  | ok x =>
    obtain ⟨d, δ1⟩ := x
    rw [e] at hp
    cases q : chk0 δ (.ok (d, δ1)) with
    | ok y =>
      obtain ⟨y, δy⟩ := y
      obtain ⟨h1, h2⟩ := chk0_ok q
      cases h1
      rw [q] at hp
      intro v H1 fr R1 h
      have s : SF F G G H H1 σ σ δ δ1 := ⟨fr, fun _ z => .inl z, fun ds e => ⟨rfl, h2 ds e⟩⟩
      exact hok d δ1 v H1 s R1 h (hp.step s)
    | err c =>
      unfold chk0 at q
      split at q
      · dsimp only at q
        split at q <;> cases q
      · cases q
    | bad => rw [q] at hp; exact hp.elim
  | err c =>
    rw [e, chk0_err] at hp
    exact fun C H' hC fr => hp C σ H' hC fr
  | bad => rw [e, chk0_bad] at hp; exact hp.elim
theorem seqTS {F G : Addr → Prop} {H : Hp} {σ : L2.St} {δ : DSt} {f : EvT} {g : Bool × DSt → Res (Flw × DSt)} {D : Ends} {Q : Bool → Hp → Prop}
    (R : Rep X.K F G H σ δ) (hp : PostS X W F G H σ δ ((chk0 δ (f δ)).bind g) D)
    (hok : ∀ d δ1 H1, SF F G G H H1 σ σ δ δ1 → Rep X.K F G H1 σ δ1 → PostS X W F G H1 σ δ1 (g (d, δ1)) D → Q d H1) : tDT X W f σ H Q := by
  refine ⟨F, G, δ, R, ?_⟩
  cases e : f δ with
  | ok x =>
    obtain ⟨d, δ1⟩ := x
    rw [e] at hp
    cases q : chk0 δ (.ok (d, δ1)) with
    | ok y =>
      obtain ⟨y, δy⟩ := y
      obtain ⟨h1, h2⟩ := chk0_ok q
      cases h1
      rw [q] at hp
      intro H1 fr R1
      have s : SF F G G H H1 σ σ δ δ1 := ⟨fr, fun _ z => .inl z, fun ds e => ⟨rfl, h2 ds e⟩⟩
      exact hok d δ1 H1 s R1 (hp.step s)
    | err c =>
      unfold chk0 at q
      split at q
      · dsimp only at q
        split at q <;> cases q
      · cases q
    | bad => rw [q] at hp; exact hp.elim
  | err c =>
    rw [e, chk0_err] at hp
    exact fun C H' hC fr => hp C σ H' hC fr
  | bad => rw [e, chk0_bad] at hp; exact hp.elim
/-! ### blocks -/
def vNext : EvS := fun δ => .ok (.nx, δ)
def vSeq (f g : EvS) : EvS := fun δ => (f δ).bind fun p => match p.1 with
  | .nx => g p.2
  | _ => .ok p
theorem dss_nil : DSs X W [] vNext := PSs_imp pss_nil fun D σ H ⟨F, G, δ, R, p⟩ => p σ H G SF.refl R
theorem dss_cons {s : Stmt} {rest : List Stmt} {f g : EvS} (h1 : DS X W s f) (h2 : DSs X W rest g) : DSs X W (s :: rest) (vSeq f g) := by
  refine PSs_imp (pss_cons h1 h2) fun D σ H ⟨F, G, δ, R, p⟩ => ⟨F, G, δ, R, ?_⟩
  unfold vSeq at p
  cases e : f δ with
  | ok x =>
    obtain ⟨fl, δ1⟩ := x
    rw [e] at p
    cases fl with
    | nx => exact fun σ' H' G' s R' => ⟨F, G', δ1, R', PostS.step p s⟩
    | rt d => exact p
    | rn d => exact p
    | bk => exact p
    | ct => exact p
  | err c => rw [e] at p; exact p
  | bad => rw [e] at p; exact p
theorem dss_one {s : Stmt} {f : EvS} (h : DS X W s f) : DSs X W [s] f := PSs_imp (pss_one h) fun D σ H h => h
def vDrop (f : EvE) : EvS := fun δ => (chk0 δ (f δ)).bind fun p => .ok (.nx, p.2)
theorem ds_expr {e : Expr} {f : EvE} {pos : Pos} (he : DE X W e f) (hs : swapsWith e none pos.line X.env = pure false := by rfl) : DS X W (.Expr e pos) (vDrop f) :=
  PS_imp (ps_expr he hs) fun D σ H ⟨F, G, δ, R, p⟩ => seqES R p fun d δ1 v H1 s R1 h1 p1 => p1 σ H1 G SF.refl R1
def vRet (f : EvE) : EvS := fun δ => (chk0 δ (f δ)).bind fun p => .ok (.rt p.1, p.2)
theorem ds_ret {e : Expr} {f : EvE} {pos : Pos} (he : DE X W e f) : DS X W (.Return (some e) pos) (vRet f) :=
  PS_imp (ps_ret he) fun D σ H ⟨F, G, δ, R, p⟩ => seqES R p fun d δ1 v H1 s R1 h1 p1 => p1 v σ H1 G SF.refl R1 h1
def vIfS (t : EvT) (f g : EvS) : EvS := fun δ => (chk0 δ (t δ)).bind fun p => if p.1 = true then f p.2 else g p.2
theorem ds_if {c : Expr} {a b : List Stmt} {t : EvT} {f g : EvS} {pos : Pos} (hc : DT X W c t) (ha : DSs X W a f) (hb : DSs X W b g) : DS X W (.If c a b pos) (vIfS t f g) := by
  refine PS_imp (ps_if hc ha hb) fun D σ H ⟨F, G, δ, R, p⟩ => seqTS R p fun d δ1 H1 s R1 p1 => ?_
  cases d with
  | true =>
    rw [if_pos rfl]
    exact ⟨F, G, δ1, R1, p1⟩
  | false =>
    rw [if_neg Bool.false_ne_true]
    exact ⟨F, G, δ1, R1, p1⟩
/-- raise X('..'), X a class of the module -/
def vRaise (c : Str) : EvS := fun _ => .err c
theorem ds_raise {c : Str} {e : Expr} {pos : Pos} (hc : X.calm = true) (tk : L2N.Takes X W) {C : Addr} (hm : X.mg c = some (.ref C)) (he : L2N.PMk X e (fun _ H Q => Q (.ref C) none H)) : DS X W (.Raise (some e) none pos) (vRaise c) :=
  PS_imp (L2N.ps_raise hc tk he) fun D σ H ⟨F, G, δ, R, p⟩ => p C σ H hm Fr.refl
/-! ### names -/
/-- a slot of no own list (slot 0), or any other one, is given data -/
def setD (i : Nat) (x : Sl) (δ : DSt) : Res DSt := match δ[i]? with
  | none => .bad
  | some (.own _) => if i = 0 then .bad else .ok (δ.set i x)
  | some _ => .ok (δ.set i x)
theorem setD_ok {i : Nat} {x : Sl} {δ δ' : DSt} (h : setD i x δ = .ok δ') : i < δ.length ∧ δ' = δ.set i x ∧ (i = 0 → ∀ ds, δ[0]? ≠ some (.own ds)) := by
  unfold setD at h
  cases e : δ[i]? with
  | none => rw [e] at h; cases h
  | some s =>
    have hil := (List.getElem?_eq_some_iff.mp e).1
    rw [e] at h
    cases s with
    | own ls =>
      have h' : (if i = 0 then Res.bad else .ok (δ.set i x)) = .ok δ' := h
      by_cases z : i = 0
      · rw [if_pos z] at h'; cases h'
      · rw [if_neg z] at h'
        cases h'
        exact ⟨hil, rfl, fun q => absurd q z⟩
    | no => cases h; exact ⟨hil, rfl, fun z ds q => by subst z; rw [e] at q; cases q⟩
    | d y => cases h; exact ⟨hil, rfl, fun z ds q => by subst z; rw [e] at q; cases q⟩
    | tn y => cases h; exact ⟨hil, rfl, fun z ds q => by subst z; rw [e] at q; cases q⟩
    | ob y => cases h; exact ⟨hil, rfl, fun z ds q => by subst z; rw [e] at q; cases q⟩
theorem SF.set {F G : Addr → Prop} {H : Hp} {σ : L2.St} {δ : DSt} {i : Nat} {x : Sl} {v : Option V} (h0 : i = 0 → ∀ ds, δ[0]? ≠ some (.own ds)) : SF F G G H H σ (σ.set i v) δ (δ.set i x) :=
  ⟨Fr.refl, fun _ z => .inl z, fun ds e => by
    have z : i ≠ 0 := fun q => h0 q ds e
    rw [List.getElem?_set_ne z, List.getElem?_set_ne z]
    exact ⟨rfl, ds, e⟩⟩
/-- what a slot may say -/
def SlOk (K : PySem.W.Frag) (G : Addr → Prop) (H : Hp) (v : V) : Sl → Prop
  | .no => True
  | .d x => Dq K (hide G H) v x
  | .tn xs => ∃ a o vs, v = .ref a ∧ hide G H a = some (.frz o (.tup vs)) ∧ o.dict = none ∧ DqAll K (hide G H) vs xs
  | .own _ => False
  | .ob _ => False
theorem Rep.set {K : PySem.W.Frag} {F G : Addr → Prop} {H : Hp} {σ : L2.St} {δ : DSt} {i : Nat} {x : Sl} {v : V} (R : Rep K F G H σ δ) (hi : i < δ.length) (hx : SlOk K G H v x) : Rep K F G H (σ.set i (some v)) (δ.set i x) := by
  have hiσ : i < σ.length := by rw [← R.len]; exact hi
  have own : ∀ (j : Nat) (ds : List PyData), (δ.set i x)[j]? = some (.own ds) → i ≠ j ∧ δ[j]? = some (.own ds) := fun j ds e => by
    by_cases z : i = j
    · subst z
      rw [List.getElem?_set_self hi] at e
      cases e
      exact hx.elim
    · rw [List.getElem?_set_ne z] at e
      exact ⟨z, e⟩
  have obs : ∀ (j : Nat) (od : OD), (δ.set i x)[j]? = some (.ob od) → i ≠ j ∧ δ[j]? = some (.ob od) := fun j od e => by
    by_cases z : i = j
    · subst z
      rw [List.getElem?_set_self hi] at e
      cases e
      exact hx.elim
    · rw [List.getElem?_set_ne z] at e
      exact ⟨z, e⟩
  refine ⟨R.sub, R.vis, by rw [List.length_set, List.length_set]; exact R.len, fun j d e => ?_, fun j ds e => ?_, fun j ds e => ?_, fun j k ds es c e1 e2 e3 e4 => ?_, fun j od e => ?_, fun j k od oe c e1 e2 e3 e4 => ?_⟩
  · by_cases z : i = j
    · subst z
      rw [List.getElem?_set_self hi] at e
      cases e
      rw [List.getElem?_set_self hiσ]
      exact ⟨v, rfl, hx⟩
    · rw [List.getElem?_set_ne z] at e ⊢
      exact R.dat j d e
  · by_cases z : i = j
    · subst z
      rw [List.getElem?_set_self hi] at e
      cases e
      rw [List.getElem?_set_self hiσ]
      obtain ⟨a, o, vs, h1, h2, h3, h4⟩ := hx
      exact ⟨a, o, vs, by rw [h1], h2, h3, h4⟩
    · rw [List.getElem?_set_ne z] at e ⊢
      exact R.tn j ds e
  · obtain ⟨z, e'⟩ := own j ds e
    rw [List.getElem?_set_ne z]
    exact R.ow j ds e'
  · obtain ⟨z1, e1'⟩ := own j ds e1
    obtain ⟨z2, e2'⟩ := own k es e2
    rw [List.getElem?_set_ne z1] at e3
    rw [List.getElem?_set_ne z2] at e4
    exact R.inj j k ds es c e1' e2' e3 e4
  · obtain ⟨z, e'⟩ := obs j od e
    rw [List.getElem?_set_ne z]
    exact R.ob j od e'
  · obtain ⟨z1, e1'⟩ := obs j od e1
    obtain ⟨z2, e2'⟩ := obs k oe e2
    rw [List.getElem?_set_ne z1] at e3
    rw [List.getElem?_set_ne z2] at e4
    exact R.obj j k od oe c e1' e2' e3 e4
def vSet (i : Nat) (f : EvE) : EvS := fun δ => (chk0 δ (f δ)).bind fun p => (setD i (.d p.1) p.2).bind fun δ2 => .ok (.nx, δ2)
theorem post_set {F G : Addr → Prop} {H : Hp} {σ : L2.St} {δ : DSt} {i : Nat} {d : PyData} {v : V} {D : Ends} (R : Rep X.K F G H σ δ) (h : Dq X.K (hide G H) v d) (p : PostS X W F G H σ δ ((setD i (.d d) δ).bind fun δ2 => .ok (.nx, δ2)) D) : D.nx (σ.set i (some v)) H := by
  cases e : setD i (.d d) δ with
  | ok δ2 =>
    rw [e] at p
    obtain ⟨h1, rfl, h3⟩ := setD_ok e
    exact p _ H G (SF.set h3) (R.set h1 h)
  | err c =>
    unfold setD at e
    split at e
    · cases e
    · split at e <;> cases e
    · cases e
  | bad => rw [e] at p; exact p.elim
/-- name = e -/
theorem ds_set {i : Nat} {x : Str} {e : Expr} {f : EvE} {pos pos' : Pos} (hN : X.N.Nodup) (he : DE X W e f) (hi : X.N[i]? = some x := by rfl) (hx : Loc X.env.scope x := by first | exact .inl rfl | exact .inr rfl) (hs : swapsWith e (some (.Name x pos')) pos.line X.env = pure false := by rfl) (hf : X.fn x = true ∨ X.env.scope.names.lookup x = some .local := by first | exact .inl rfl | exact .inr rfl) :
    DS X W (.Assign [.Name x pos'] e pos) (vSet i f) :=
  PS_imp (ps_set hN hi hx he hs hf) fun D σ H ⟨F, G, δ, R, p⟩ => seqES R p fun d δ1 v H1 s R1 h1 p1 => post_set R1 h1 p1
/-! ### own lists -/
theorem hide_new {G : Addr → Prop} {H : Hp} {p : Addr} {o : HO} (n : H p = none) : Same (hide G H) (hide (fun b => G b ∨ b = p) (upd H p o)) :=
  hide_same (fun b z => z.elim .inl fun q => .inr (by rw [q]; exact n)) fun b u e _ => by rw [upd_ne (ne_of_none e n)]; exact e
/-- a new list at p is the slot's own -/
theorem Rep.newOwn {K : PySem.W.Frag} {F G : Addr → Prop} {H : Hp} {σ : L2.St} {δ : DSt} {i : Nat} {p : Addr} {vs : List V} {ds : List PyData} (R : Rep K F G H σ δ) (hi : i < δ.length) (n : H p = none) (h : DqAll K (hide G H) vs ds) :
    Rep K F (fun b => G b ∨ b = p) (upd H p (.lst vs)) (σ.set i (some (.ref p))) (δ.set i (.own ds)) := by
  have hiσ : i < σ.length := by rw [← R.len]; exact hi
  have S : Same (hide G H) (hide (fun b => G b ∨ b = p) (upd H p (.lst vs))) := hide_new n
  have ne : ∀ {a o}, H a = some o → a ≠ p := fun e => ne_of_none e n
  refine ⟨fun b z => .inl (R.sub b z), fun b z e => ?_, by rw [List.length_set, List.length_set]; exact R.len, fun j d e => ?_, fun j es e => ?_, fun j es e => ?_, fun j k es us c e1 e2 e3 e4 => ?_, fun j od e => ?_, fun j k od oe c e1 e2 e3 e4 => ?_⟩
  · by_cases q : b = p
    · subst q; rw [upd_same] at e; cases e
    · rw [upd_ne q] at e
      rcases z with z | z
      · exact R.vis b z e
      · exact q z
  · by_cases z : i = j
    · subst z; rw [List.getElem?_set_self hi] at e; cases e
    · rw [List.getElem?_set_ne z] at e ⊢
      obtain ⟨v, h1, h2⟩ := R.dat j d e
      exact ⟨v, h1, h2.mono S⟩
  · by_cases z : i = j
    · subst z; rw [List.getElem?_set_self hi] at e; cases e
    · rw [List.getElem?_set_ne z] at e ⊢
      obtain ⟨a, o, us, h1, h2, h3, h4⟩ := R.tn j es e
      exact ⟨a, o, us, h1, S _ _ h2, h3, h4.mono S⟩
  · by_cases z : i = j
    · subst z
      rw [List.getElem?_set_self hi] at e
      cases e
      rw [List.getElem?_set_self hiσ]
      exact ⟨p, vs, rfl, .inr rfl, fun q => R.vis p (R.sub p q) n, upd_same, h.mono S⟩
    · rw [List.getElem?_set_ne z] at e ⊢
      obtain ⟨a, us, h1, h2, h3, h4, h5⟩ := R.ow j es e
      exact ⟨a, us, h1, .inl h2, h3, by rw [upd_ne (ne h4)]; exact h4, h5.mono S⟩
  · by_cases z1 : i = j
    · by_cases z2 : i = k
      · exact z1.symm.trans z2
      · subst z1
        rw [List.getElem?_set_ne z2] at e2 e4
        rw [List.getElem?_set_self hiσ] at e3
        cases e3
        obtain ⟨a, us', h1, _, _, h4, _⟩ := R.ow k us e2
        rw [e4] at h1
        cases h1
        exact absurd rfl (ne h4)
    · rw [List.getElem?_set_ne z1] at e1 e3
      by_cases z2 : i = k
      · subst z2
        rw [List.getElem?_set_self hiσ] at e4
        cases e4
        obtain ⟨a, us', h1, _, _, h4, _⟩ := R.ow j es e1
        rw [e3] at h1
        cases h1
        exact absurd rfl (ne h4)
      · rw [List.getElem?_set_ne z2] at e2 e4
        exact R.inj j k es us c e1 e2 e3 e4
  · by_cases z : i = j
    · subst z; rw [List.getElem?_set_self hi] at e; cases e
    · rw [List.getElem?_set_ne z] at e ⊢
      obtain ⟨a, o, h1, h2, h3, h4, h5⟩ := R.ob j od e
      exact ⟨a, o, h1, .inl h2, h3, by rw [upd_ne (ne h4)]; exact h4, h5.mono S⟩
  · by_cases z1 : i = j
    · subst z1; rw [List.getElem?_set_self hi] at e1; cases e1
    · by_cases z2 : i = k
      · subst z2; rw [List.getElem?_set_self hi] at e2; cases e2
      · rw [List.getElem?_set_ne z1] at e1 e3
        rw [List.getElem?_set_ne z2] at e2 e4
        exact R.obj j k od oe c e1 e2 e3 e4
theorem SF.new {F G : Addr → Prop} {H : Hp} {σ : L2.St} {δ : DSt} {i : Nat} {p : Addr} {o : HO} {x : Sl} {v : Option V} (n : H p = none) (h0 : i = 0 → ∀ ds, δ[0]? ≠ some (.own ds)) : SF F G (fun b => G b ∨ b = p) H (upd H p o) σ (σ.set i v) δ (δ.set i x) :=
  ⟨Fr.of (same_upd n), fun b z => z.elim .inl fun q => .inr (by rw [q]; exact n), (SF.set (F := F) (G := G) (H := H) (v := v) (x := x) h0).keep0⟩
/-- name = [e, ..], the list being the name's own -/
def vSetL (i : Nat) (f : EvA) : EvS := fun δ => (chk0 δ (f δ)).bind fun p => if p.1.length ≤ sizeLine then (setD i (.own p.1) p.2).bind fun δ2 => .ok (.nx, δ2) else .bad
theorem seqAS {F G : Addr → Prop} {H : Hp} {σ : L2.St} {δ : DSt} {f : EvA} {g : List PyData × DSt → Res (Flw × DSt)} {D : Ends} {Q : List V → Hp → Prop}
    (R : Rep X.K F G H σ δ) (hp : PostS X W F G H σ δ ((chk0 δ (f δ)).bind g) D)
    (hok : ∀ ds δ1 vs H1, SF F G G H H1 σ σ δ δ1 → Rep X.K F G H1 σ δ1 → DqAll X.K (hide G H1) vs ds → PostS X W F G H1 σ δ1 (g (ds, δ1)) D → Q vs H1) : tDA X W f σ H Q := by
  refine ⟨F, G, δ, R, ?_⟩
  cases e : f δ with
  | ok x =>
    obtain ⟨d, δ1⟩ := x
    rw [e] at hp
    cases q : chk0 δ (.ok (d, δ1)) with
    | ok y =>
      obtain ⟨y, δy⟩ := y
      obtain ⟨h1, h2⟩ := chk0_ok q
      cases h1
      rw [q] at hp
      intro v H1 fr R1 h
      have s : SF F G G H H1 σ σ δ δ1 := ⟨fr, fun _ z => .inl z, fun ds e => ⟨rfl, h2 ds e⟩⟩
      exact hok d δ1 v H1 s R1 h (hp.step s)
    | err c =>
      unfold chk0 at q
      split at q
      · dsimp only at q
        split at q <;> cases q
      · cases q
    | bad => rw [q] at hp; exact hp.elim
  | err c =>
    rw [e, chk0_err] at hp
    exact fun C H' hC fr => hp C σ H' hC fr
  | bad => rw [e, chk0_bad] at hp; exact hp.elim
theorem post_new {F G : Addr → Prop} {H : Hp} {σ : L2.St} {δ : DSt} {i : Nat} {ds : List PyData} {vs : List V} {p : Addr} {D : Ends} (R : Rep X.K F G H σ δ) (n : H p = none) (h : DqAll X.K (hide G H) vs ds) (q : PostS X W F G H σ δ ((setD i (.own ds) δ).bind fun δ2 => .ok (.nx, δ2)) D) :
    D.nx (σ.set i (some (.ref p))) (upd H p (.lst vs)) := by
  cases e : setD i (.own ds) δ with
  | ok δ2 =>
    rw [e] at q
    obtain ⟨h1, rfl, h3⟩ := setD_ok e
    exact q _ _ _ (SF.new n h3) (R.newOwn h1 n h)
  | err c =>
    unfold setD at e
    split at e
    · cases e
    · split at e <;> cases e
    · cases e
  | bad => rw [e] at q; exact q.elim
theorem ds_setL {i : Nat} {x : Str} {es : List Expr} {f : EvA} {pos pos' pos2 : Pos} (hN : X.N.Nodup) (he : DA X W es f) (hi : X.N[i]? = some x := by rfl) (hx : Loc X.env.scope x := by first | exact .inl rfl | exact .inr rfl) (hs : swapsWith (.List es pos2) (some (.Name x pos')) pos.line X.env = pure false := by rfl) (hf : X.fn x = true ∨ X.env.scope.names.lookup x = some .local := by first | exact .inl rfl | exact .inr rfl) :
    DS X W (.Assign [.Name x pos'] (.List es pos2) pos) (vSetL i f) := by
  refine PS_imp (ps_set hN hi hx (pe_lst he) hs hf) fun D σ H ⟨F, G, δ, R, p⟩ => seqAS R p fun ds δ1 vs H1 s R1 h1 p1 => ?_
  dsimp only at p1
  by_cases c : ds.length ≤ sizeLine
  · rw [if_pos c] at p1
    exact ⟨by rw [h1.length]; exact c, fun p n => post_new R1 n h1 p1⟩
  · rw [if_neg c] at p1
    exact p1.elim
/-- from now on the slot's list is data as any other -/
def frzD (i : Nat) (δ : DSt) : DSt := if i = 0 then δ else match δ[i]? with
  | some (.own ds) => δ.set i (.d (.list ds))
  | _ => δ
theorem Rep.frz {K : PySem.W.Frag} {F G : Addr → Prop} {H : Hp} {σ : L2.St} {δ : DSt} (R : Rep K F G H σ δ) (i : Nat) : ∃ G', Rep K F G' H σ (frzD i δ) ∧ SF F G G' H H σ σ δ (frzD i δ) := by
  unfold frzD
  by_cases hi0 : i = 0
  · rw [if_pos hi0]
    exact ⟨G, R, SF.refl⟩
  rw [if_neg hi0]
  cases e : δ[i]? with
  | none => exact ⟨G, R, SF.refl⟩
  | some s =>
    cases s with
    | own ls =>
      dsimp only
      have hil := (List.getElem?_eq_some_iff.mp e).1
      obtain ⟨a, xs, h1, h2, h3, h4, h5⟩ := R.ow i ls e
      have S : Same (hide G H) (hide (fun b => G b ∧ b ≠ a) H) := hide_same (fun b z => .inl z.1) fun b o e _ => e
      refine ⟨fun b => G b ∧ b ≠ a, ⟨fun b z => ⟨R.sub b z, fun q => h3 (q ▸ z)⟩, fun b z => R.vis b z.1, by rw [List.length_set]; exact R.len, fun j d q => ?_, fun j ds q => ?_, fun j ds q => ?_, fun j k ds es c e1 e2 e3 e4 => ?_, fun j od q => ?_, fun j k od oe c e1 e2 e3 e4 => ?_⟩, ⟨Fr.refl, fun b z => .inl z.1, fun ds q => ⟨rfl, ds, by rw [List.getElem?_set_ne hi0]; exact q⟩⟩⟩
      · by_cases z : i = j
        · subst z
          rw [List.getElem?_set_self hil] at q
          cases q
          exact ⟨_, h1, .lst (hide_of (fun z => z.2 rfl) h4) (h5.mono S)⟩
        · rw [List.getElem?_set_ne z] at q
          obtain ⟨v, q1, q2⟩ := R.dat j d q
          exact ⟨v, q1, q2.mono S⟩
      · by_cases z : i = j
        · subst z; rw [List.getElem?_set_self hil] at q; cases q
        · rw [List.getElem?_set_ne z] at q
          obtain ⟨b, o, us, q1, q2, q3, q4⟩ := R.tn j ds q
          exact ⟨b, o, us, q1, S _ _ q2, q3, q4.mono S⟩
      · by_cases z : i = j
        · subst z; rw [List.getElem?_set_self hil] at q; cases q
        · rw [List.getElem?_set_ne z] at q
          obtain ⟨b, us, q1, q2, q3, q4, q5⟩ := R.ow j ds q
          refine ⟨b, us, q1, ⟨q2, fun y => z ?_⟩, q3, q4, q5.mono S⟩
          subst y
          exact R.inj i j ls ds b e q h1 q1
      · have z1 : i ≠ j := fun z => by subst z; rw [List.getElem?_set_self hil] at e1; cases e1
        have z2 : i ≠ k := fun z => by subst z; rw [List.getElem?_set_self hil] at e2; cases e2
        rw [List.getElem?_set_ne z1] at e1
        rw [List.getElem?_set_ne z2] at e2
        exact R.inj j k ds es c e1 e2 e3 e4
      · by_cases z : i = j
        · subst z; rw [List.getElem?_set_self hil] at q; cases q
        · rw [List.getElem?_set_ne z] at q
          obtain ⟨b, o, q1, q2, q3, q4, q5⟩ := R.ob j od q
          exact ⟨b, o, q1, ⟨q2, fun y => by subst y; rw [h4] at q4; cases q4; exact q5.nl⟩, q3, q4, q5.mono S⟩
      · have z1 : i ≠ j := fun z => by subst z; rw [List.getElem?_set_self hil] at e1; cases e1
        have z2 : i ≠ k := fun z => by subst z; rw [List.getElem?_set_self hil] at e2; cases e2
        rw [List.getElem?_set_ne z1] at e1
        rw [List.getElem?_set_ne z2] at e2
        exact R.obj j k od oe c e1 e2 e3 e4
    | ob y => exact ⟨G, R, SF.refl⟩
    | no => exact ⟨G, R, SF.refl⟩
    | d y => exact ⟨G, R, SF.refl⟩
    | tn y => exact ⟨G, R, SF.refl⟩
def vFrz (i : Nat) (f : EvS) : EvS := fun δ => f (frzD i δ)
theorem dss_frz (i : Nat) {s : List Stmt} {f : EvS} (h : DSs X W s f) : DSs X W s (vFrz i f) := PSs_imp h fun D σ H ⟨F, G, δ, R, p⟩ => by
  obtain ⟨G', R', s⟩ := R.frz i
  exact ⟨F, G', frzD i δ, R', PostS.step p s⟩
/-- x.append(e), x (slot i) an own list -/
def vAppend (i : Nat) (f : EvE) : EvE := fun δ => match δ[i]? with
  | some (.own _) => (f δ).bind fun p => match p.2[i]? with
    | some (.own ls) => if ls.length < sizeLine then .ok (.none, p.2.set i (.own (ls ++ [p.1]))) else .bad
    | _ => .bad
  | _ => .bad
theorem Rep.wr {K : PySem.W.Frag} {F G : Addr → Prop} {H : Hp} {σ : L2.St} {δ : DSt} {i : Nat} {a : Addr} {xs ys : List V} {ls ms : List PyData} (R : Rep K F G H σ δ) (e : δ[i]? = some (.own ls)) (hσ : σ[i]? = some (some (.ref a))) (h : DqAll K (hide G H) ys ms) :
    Rep K F G (upd H a (.lst ys)) σ (δ.set i (.own ms)) ∧ Fr F G H (upd H a (.lst ys)) := by
  obtain ⟨a', xs', h1, h2, h3, h4, h5⟩ := R.ow i ls e
  rw [hσ] at h1
  cases h1
  have k : ∀ b o, H b = some o → b ≠ a → upd H a (.lst ys) b = some o := fun b o q z => by rw [upd_ne z]; exact q
  have S : Same (hide G H) (hide G (upd H a (.lst ys))) := hide_same (fun _ z => .inl z) fun b o q n => k b o q fun z => n (z ▸ h2)
  refine ⟨R.lent e hσ k upd_same (h.mono S), fun b o q n => k b o q fun z => ?_⟩
  subst z
  rcases n with n | n
  · exact h3 n
  · exact n h2
theorem de_append {i : Nat} {o e : Expr} {f : EvE} {apos cpos : Pos} (ho : PE X o (tVar i)) (he : DE X W e f)
    (hbase : attributeBase o "append" X.env (eval o X.env) = eval o X.env := by rfl)
    (hfew : ((backTo cpos (starEach (e :: []) X.env)).all (fun x => !x.1) && (backToKw cpos (keywordEach [] X.env)).all (fun x => x.1.isSome)
      && decide ((e :: ([] : List Expr)).length + ([] : List Keyword).length + (if ([] : List Keyword).isEmpty then 0 else 1) < 30)) = true := by rfl)
    (hline : (apos.endLine == cpos.line) = true := by rfl) (hs : starEach (e :: []) X.env = (false, eval e X.env) :: starEach [] X.env := by rfl) (hplain : (backTo cpos (starEach [] X.env)).any (·.1) = false := by rfl) :
    DE X W (.Call (.Attribute o "append" apos) [e] [] cpos) (vAppend i f) := by
  refine PE_imp (pe_bm PySem.F.plainAttrs_list PySem.F.slot_list_append PySem.F.type_list_append mt_append ho (pa_cons he pa_nil hs) hbase hfew hline hs hplain) fun σ H Q ⟨F, G, δ, R, p⟩ => ?_
  unfold vAppend at p
  split at p
  · rename_i ls0 e0
    obtain ⟨a, xs0, hσ, hG, hF, hH, _⟩ := R.ow i ls0 e0
    refine ⟨_, hσ, .inl ⟨rfl, xs0, .inl (.inl hH)⟩, ?_⟩
    refine seqE (P := fun H r => PostE X W F G H σ r Q) R p (fun _ _ f p => p.mono f) (fun _ p => p) (fun p => p) fun d δ1 v H1 f1 R1 h1 p1 => ?_
    dsimp only at p1
    split at p1
    · rename_i ls e1
      obtain ⟨a', xs, hσ', _, _, hH1, hx⟩ := R1.ow i ls e1
      rw [hσ] at hσ'
      cases hσ'
      by_cases c : ls.length < sizeLine
      · rw [if_pos c] at p1
        obtain ⟨R2, f2⟩ := R1.wr (xs := xs) (ys := xs ++ [v]) e1 hσ (hx.append (.cons h1 .nil))
        exact ⟨a, xs, v, rfl, rfl, hH1, by rw [hx.length]; exact c, p1 .non _ f2 R2 .non⟩
      · rw [if_neg c] at p1
        exact p1.elim
    · exact p1.elim
  · exact p.elim
/-- x[e], x (slot i) an own list -/
def vIxO (i : Nat) (f : EvE) : EvE := fun δ => match δ[i]? with
  | some (.own _) => (f δ).bind fun p => match p.1, p.2[i]? with
    | .int k, some (.own ls) => (match atI ls k with
      | some d => .ok (d, p.2)
      | none => .bad)
    | _, _ => .bad
  | _ => .bad
theorem de_ixO {i : Nat} {o e : Expr} {f : EvE} {pos : Pos} (ho : PE X o (tVar i)) (he : DE X W e f) (hs : PlainIx e := by exact fun _ _ => rfl) : DE X W (.Subscript o e pos) (vIxO i f) := by
  refine PE_imp (pe_ix ix_list ho he hs) fun σ H Q ⟨F, G, δ, R, p⟩ => ?_
  unfold vIxO at p
  split at p
  · rename_i ls0 e0
    obtain ⟨a, xs0, hσ, hG, hF, hH, _⟩ := R.ow i ls0 e0
    refine ⟨_, hσ, ?_⟩
    refine seqE (P := fun H r => PostE X W F G H σ r Q) R p (fun _ _ f p => p.mono f) (fun _ p => p) (fun p => p) fun d δ1 v H1 f1 R1 h1 p1 => ?_
    dsimp only at p1
    split at p1
    · rename_i k ls e1
      obtain ⟨a', xs, hσ', _, _, hH1, hx⟩ := R1.ow i ls e1
      rw [hσ] at hσ'
      cases hσ'
      cases h1
      cases ea : atI ls k with
      | none => rw [ea] at p1; exact p1.elim
      | some d =>
        rw [ea] at p1
        obtain ⟨u, hu, hd⟩ := hx.at ea
        exact ⟨a, xs, k, u, rfl, rfl, .inl (.inl hH1), hu, (PostE.gives p1 R1).here hd⟩
    · exact p1.elim
  · exact p.elim
/-- x[e] = f, x (slot i) an own list -/
def vSetIx (i : Nat) (f e : EvE) : EvS := fun δ => (chk0 δ (f δ)).bind fun p => match p.2[i]? with
  | some (.own _) => (chk0 p.2 (e p.2)).bind fun q => match q.1, q.2[i]? with
    | .int k, some (.own ls) => (match ixN ls.length k with
      | some j => .ok (.nx, q.2.set i (.own (ls.set j p.1)))
      | none => .bad)
    | _, _ => .bad
  | _ => .bad
theorem ds_setIx {i : Nat} {o e v : Expr} {fv fe : EvE} {pos pos' : Pos} (ho : PE X o (tVar i)) (he : DE X W e fe) (hv : DE X W v fv)
    (ha : ∀ v, assign (.Subscript o e pos') X.env v = (do
      let ov ← holding [v] (eval o X.env)
      let iv ← holding [v, ov] (eval e X.env)
      standAt pos'
      holding [v, ov, iv] (setItem ov iv v)
      release [v, ov, iv] []) := by intro _; rfl)
    (hs : swapsWithSole [.Subscript o e pos'] v pos.line X.env = pure false := by rfl) (hw : swappedStores [.Subscript o e pos'] v X.env = pure none := by rfl)
    (h1 : (assignEach [.Subscript o e pos'] X.env).map (·.2) = [assign (.Subscript o e pos') X.env] := by rfl) : DS X W (.Assign [.Subscript o e pos'] v pos) (vSetIx i fv fe) := by
  refine PS_imp (ps_asg hv (pg_sub ho he set_list ha) hs hw h1) fun D σ H ⟨F, G, δ, R, p⟩ => ?_
  refine seqES R p fun d δ1 v H1 s R1 h1 p1 => ?_
  dsimp only at p1
  split at p1
  · rename_i ls0 e0
    obtain ⟨a, xs0, hσ, hG, hF, hH, _⟩ := R1.ow i ls0 e0
    refine ⟨_, hσ, ?_⟩
    refine seqES R1 p1 fun k δ2 u H2 s2 R2 h2 p2 => ?_
    dsimp only at p2
    split at p2
    · rename_i k ls e1
      cases h2
      obtain ⟨a', xs, hσ', _, _, hH2, hx⟩ := R2.ow i ls e1
      rw [hσ] at hσ'
      cases hσ'
      cases ej : ixN ls.length k with
      | none => rw [ej] at p2; exact p2.elim
      | some j =>
        rw [ej] at p2
        obtain ⟨R3, f3⟩ := R2.wr (xs := xs) (ys := xs.set j v) e1 hσ (DqAll.set (h1.mono s2.hide) j hx)
        refine ⟨a, xs, k, j, rfl, rfl, hH2, by rw [hx.length]; exact ej, p2 σ _ G ⟨f3, fun _ z => .inl z, fun ds e => ⟨rfl, ?_⟩⟩ R3⟩
        by_cases z : i = 0
        · subst z
          exact ⟨_, List.getElem?_set_self (List.getElem?_eq_some_iff.mp e1).1⟩
        · exact ⟨ds, by rw [List.getElem?_set_ne z]; exact e⟩
    · exact p2.elim
  · exact p1.elim
/-! ### targets -/
structure KeepS (ts : List Nat) (σ σ' : L2.St) : Prop where
  len : σ'.length = σ.length
  eq : ∀ j, j ∉ ts → σ'[j]? = σ[j]?
theorem KeepS.refl {ts : List Nat} {σ : L2.St} : KeepS ts σ σ := ⟨rfl, fun _ _ => rfl⟩
/-- a target: what it makes of the slots; ts: the slots that it may change -/
def tDG (X : Cx) (g : PyData → DSt → Res DSt) (ts : List Nat) : TG := fun v σ H Q => ∃ F G δ d, Rep X.K F G H σ δ ∧ Dq X.K (hide G H) v d ∧ match g d δ with
  | .ok δ' => ∀ σ', SF F G G H H σ σ' δ δ' → Rep X.K F G H σ' δ' → KeepS ts σ σ' → Q σ' H
  | _ => False
def tDGs (X : Cx) (g : List PyData → DSt → Res DSt) (ts : List Nat) : TGs := fun vs σ H Q => ∃ F G δ ds, Rep X.K F G H σ δ ∧ DqAll X.K (hide G H) vs ds ∧ match g ds δ with
  | .ok δ' => ∀ σ', SF F G G H H σ σ' δ δ' → Rep X.K F G H σ' δ' → KeepS ts σ σ' → Q σ' H
  | _ => False
def DG (X : Cx) (e : Expr) (g : PyData → DSt → Res DSt) (ts : List Nat) : Prop := PG X e (tDG X g ts)
def DGs (X : Cx) (es : List Expr) (g : List PyData → DSt → Res DSt) (ts : List Nat) : Prop := PGs X es (tDGs X g ts)
theorem PG_imp {e : Expr} {t t' : TG} (h : PG X e t) (i : ∀ v σ H Q, t' v σ H Q → t v σ H Q) : PG X e t' := ⟨fun pins s σ H v u Q I r q => h.run pins s σ H v u Q I r (i _ _ _ _ q)⟩
theorem PGs_imp {es : List Expr} {t t' : TGs} (h : PGs X es t) (i : ∀ v σ H Q, t' v σ H Q → t v σ H Q) : PGs X es t' := ⟨fun pins s σ H v u Q I r q => h.run pins s σ H v u Q I r (i _ _ _ _ q)⟩
def wName (i : Nat) : PyData → DSt → Res DSt := fun d δ => setD i (.d d) δ
theorem dg_name {i : Nat} {x : Str} {pos : Pos} (hN : X.N.Nodup) (hi : X.N[i]? = some x := by rfl) (hx : Loc X.env.scope x := by first | exact .inl rfl | exact .inr rfl) (hf : X.fn x = true ∨ X.env.scope.names.lookup x = some .local := by first | exact .inl rfl | exact .inr rfl) : DG X (.Name x pos) (wName i) [i] := by
  refine PG_imp (pg_name hN hi hx hf) fun v σ H Q ⟨F, G, δ, d, R, h, p⟩ => ?_
  unfold wName at p
  cases e : setD i (.d d) δ with
  | ok δ' =>
    rw [e] at p
    obtain ⟨h1, rfl, h3⟩ := setD_ok e
    exact p _ (SF.set h3) (R.set h1 h) ⟨by rw [List.length_set], fun j hj => List.getElem?_set_ne fun z => hj (by rw [z]; exact List.mem_singleton.mpr rfl)⟩
  | err c => rw [e] at p; exact p.elim
  | bad => rw [e] at p; exact p.elim
def wNil : List PyData → DSt → Res DSt
  | [], δ => .ok δ
  | _, _ => .bad
def wCons (g : PyData → DSt → Res DSt) (gs : List PyData → DSt → Res DSt) : List PyData → DSt → Res DSt
  | d :: ds, δ => (g d δ).bind (gs ds)
  | _, _ => .bad
theorem dgs_nil : DGs X [] wNil [] := PGs_imp pgs_nil fun vs σ H Q ⟨F, G, δ, ds, R, h, p⟩ => by
  match ds, vs, h, p with
  | [], [], .nil, p => exact ⟨rfl, p σ SF.refl R KeepS.refl⟩
  | _ :: _, _, _, p => exact p.elim
theorem dgs_cons {e : Expr} {es : List Expr} {g : PyData → DSt → Res DSt} {gs : List PyData → DSt → Res DSt} {ts us : List Nat} (h1 : DG X e g ts) (h2 : DGs X es gs us)
    (hs : (assignEach (e :: es) X.env).map (·.2) = assign e X.env :: (assignEach es X.env).map (·.2) := by rfl) : DGs X (e :: es) (wCons g gs) (ts ++ us) := by
  refine PGs_imp (pgs_cons h1 h2 hs) fun vs σ H Q ⟨F, G, δ, ds, R, h, p⟩ => ?_
  match ds, vs, h, p with
  | [], _, .nil, p => exact p.elim
  | d :: ds, v :: vs, .cons hd hr, p =>
    refine ⟨v, vs, rfl, F, G, δ, d, R, hd, ?_⟩
    have p' : match (g d δ).bind (gs ds) with | .ok δ' => ∀ σ', SF F G G H H σ σ' δ δ' → Rep X.K F G H σ' δ' → KeepS (ts ++ us) σ σ' → Q σ' H | _ => False := p
    cases eg : g d δ with
    | ok δ1 =>
      rw [eg] at p'
      intro σ1 s1 R1 k1
      refine ⟨F, G, δ1, ds, R1, hr, ?_⟩
      rw [Res.bind_ok] at p'
      cases eg2 : gs ds δ1 with
      | ok δ2 =>
        rw [eg2] at p'
        exact fun σ2 s2 R2 k2 => p' σ2 (s1.trans s2) R2 ⟨k2.len.trans k1.len, fun j hj => (k2.eq j fun z => hj (List.mem_append_right _ z)).trans (k1.eq j fun z => hj (List.mem_append_left _ z))⟩
      | err c => rw [eg2] at p'; exact p'.elim
      | bad => rw [eg2] at p'; exact p'.elim
    | err c => rw [eg] at p'; exact p'.elim
    | bad => rw [eg] at p'; exact p'.elim
def wTup (n : Nat) (g : List PyData → DSt → Res DSt) : PyData → DSt → Res DSt
  | .tuple ds, δ => if ds.length = n then g ds δ else .bad
  | _, _ => .bad
theorem dg_tup {es : List Expr} {k : Nat} {g : List PyData → DSt → Res DSt} {ts : List Nat} {n : Nat} {pos : Pos} (hc : X.calm = true) (h : DGs X es g ts) (hn : (assignEach es X.env).length = n := by rfl) (hst : (assignEach es X.env).findIdx? (·.1) = none := by rfl) : DG X (.Tuple es k pos) (wTup n g) ts := by
  refine PG_imp (pg_tup hc h hn hst) fun v σ H Q ⟨F, G, δ, d, R, h, p⟩ => ?_
  cases d <;> try exact p.elim
  rename_i ds
  cases h with
  | tup hs ha =>
    unfold wTup at p
    dsimp only at p
    by_cases c : ds.length = n
    · rw [if_pos c] at p
      exact ⟨_, _, rfl, seqT unhide hs, by rw [ha.length]; exact c, F, G, δ, ds, R, ha, p⟩
    · rw [if_neg c] at p
      exact p.elim
/-- target = e -/
def vAsg (f : EvE) (g : PyData → DSt → Res DSt) : EvS := fun δ => (chk0 δ (f δ)).bind fun p => (noErr (g p.1 p.2)).bind fun δ2 => .ok (.nx, δ2)
theorem ds_asg {tg e : Expr} {f : EvE} {g : PyData → DSt → Res DSt} {ts : List Nat} {pos : Pos} (he : DE X W e f) (hg : DG X tg g ts) (hs : swapsWithSole [tg] e pos.line X.env = pure false := by rfl) (hw : swappedStores [tg] e X.env = pure none := by rfl)
    (h1 : (assignEach [tg] X.env).map (·.2) = [assign tg X.env] := by rfl) : DS X W (.Assign [tg] e pos) (vAsg f g) := by
  refine PS_imp (ps_asg he hg hs hw h1) fun D σ H ⟨F, G, δ, R, p⟩ => seqES R p fun d δ1 v H1 s R1 h1 p1 => ⟨F, G, δ1, d, R1, h1, ?_⟩
  dsimp only at p1
  cases eg : g d δ1 with
  | ok δ2 =>
    rw [eg] at p1
    exact fun σ' s' R' _ => p1 σ' H1 G s' R'
  | err c => rw [eg] at p1; exact p1.elim
  | bad => rw [eg] at p1; exact p1.elim
/-- x, y = a, b, plain local names -/
def vPar (i j : Nat) (f : EvA) : EvS := fun δ => (chk0 δ (f δ)).bind fun p => match p.1 with
  | [d, e] => (setD i (.d d) p.2).bind fun δ1 => (setD j (.d e) δ1).bind fun δ2 => .ok (.nx, δ2)
  | _ => .bad
theorem ds_par {i j : Nat} {x y : Str} {a b : Expr} {f : EvA} {px py pt pos : Pos} {kt k2 pt2} (hc : X.calm = true) (hN : X.N.Nodup) (ha : DA X W [a, b] f) (hij : i ≠ j) (hi : X.N[i]? = some x := by rfl) (hj : X.N[j]? = some y := by rfl)
    (hx : X.env.scope.names.lookup x = some .local := by rfl) (hy : X.env.scope.names.lookup y = some .local := by rfl)
    (hw : swappedStores [.Tuple [.Name x px, .Name y py] kt pt] (.Tuple [a, b] k2 pt2) X.env = pure (some [x, y]) := by rfl)
    (hs : swapsWithSole [.Tuple [.Name x px, .Name y py] kt pt] (.Tuple [a, b] k2 pt2) pos.line X.env = pure false := by rfl) :
    DS X W (.Assign [.Tuple [.Name x px, .Name y py] kt pt] (.Tuple [a, b] k2 pt2) pos) (vPar i j f) := by
  refine PS_imp (ps_par hc hN hi hj hij hx hy ha hw hs) fun D σ H ⟨F, G, δ, R, p⟩ => seqAS R p fun ds δ1 vs H1 s R1 h1 p1 => ?_
  match ds, vs, h1, p1 with
  | [d, e], [v, u], .cons hd (.cons he .nil), p1 =>
    refine ⟨v, u, rfl, ?_⟩
    have p1' : PostS X W F G H1 σ δ1 ((setD i (.d d) δ1).bind fun δ2 => (setD j (.d e) δ2).bind fun δ3 => .ok (.nx, δ3)) D := p1
    cases e1 : setD i (.d d) δ1 with
    | ok δ2 =>
      rw [e1] at p1'
      obtain ⟨k1, rfl, k3⟩ := setD_ok e1
      have p2 := PostS.step p1' (SF.set (σ := σ) (x := .d d) (v := some v) k3)
      rw [Res.bind_ok] at p2
      exact post_set (R1.set (x := .d d) k1 hd) he p2
    | err c => rw [e1] at p1'; unfold setD at e1; split at e1 <;> (try cases e1); split at e1 <;> cases e1
    | bad => rw [e1] at p1'; exact p1'.elim
/-! ### while -/
def vWhile (t : EvT) (b : EvS) : Nat → EvS
  | 0, _ => .bad
  | n + 1, δ => (chk0 δ (t δ)).bind fun p => if p.1 = true then (b p.2).bind fun q => (match q.1 with
    | .nx | .ct => vWhile t b n q.2
    | .bk => .ok (.nx, q.2)
    | .rn d => .ok (.rn d, q.2)
    | .rt d => .ok (.rt d, q.2)) else .ok (.nx, p.2)
theorem ds_while {c : Expr} {body : List Stmt} {t : EvT} {b : EvS} {pos : Pos} (n : Nat) (hp : PassesOwn (model X.prog X.w) X.A X.env X.xe) (hc : DT X W c t) (hb : DSs X W body b) : DS X W (.While c body [] pos) (vWhile t b n) := by
  refine PS_imp (ps_while hp hc hb) fun D σ H ⟨F, G, δ, R, p⟩ => ?_
  refine ⟨fun m σ' H' => ∃ G' δ', Rep X.K F G' H' σ' δ' ∧ PostS X W F G' H' σ' δ' (vWhile t b m δ') D, ⟨n, G, δ, R, p⟩, ?_⟩
  rintro m σ' H' ⟨G', δ', R', p'⟩
  cases m with
  | zero => exact p'.elim
  | succ m =>
    have p'' : PostS X W F G' H' σ' δ' ((chk0 δ' (t δ')).bind fun p => if p.1 = true then (b p.2).bind fun q => (match q.1 with
      | .nx | .ct => vWhile t b m q.2
      | .bk => .ok (.nx, q.2)
      | .rn d => .ok (.rn d, q.2)
      | .rt d => .ok (.rt d, q.2)) else .ok (.nx, p.2)) D := p'
    refine seqTS R' p'' fun k δ1 H1 s R1 p1 => ?_
    cases k with
    | false =>
      rw [if_neg Bool.false_ne_true]
      exact p1 σ' H1 G' SF.refl R1
    | true =>
      rw [if_pos rfl]
      refine ⟨fun σ2 H2 => ∃ G2 δ2, Rep X.K F G2 H2 σ2 δ2 ∧ PostS X W F G2 H2 σ2 δ2 (vWhile t b m δ2) D, fun σ2 H2 z => ⟨m, Nat.lt_succ_self m, z⟩, F, G', δ1, R1, ?_⟩
      have p2 : PostS X W F G' H1 σ' δ1 ((b δ1).bind fun q => (match q.1 with
        | .nx | .ct => vWhile t b m q.2
        | .bk => .ok (.nx, q.2)
        | .rn d => .ok (.rn d, q.2)
        | .rt d => .ok (.rt d, q.2))) D := p1
      cases eb : b δ1 with
      | ok q =>
        obtain ⟨fl, δ2⟩ := q
        rw [eb] at p2
        cases fl with
        | nx => exact fun σ2 H2 G2 s2 R2 => ⟨G2, δ2, R2, PostS.step p2 s2⟩
        | ct => exact fun σ2 H2 G2 s2 R2 => ⟨G2, δ2, R2, PostS.step p2 s2⟩
        | bk => exact p2
        | rt d => exact p2
        | rn d => exact p2
      | err c => rw [eb] at p2; exact p2
      | bad => rw [eb] at p2; exact p2.elim
end
end DL
set_option Elab.async false
set_option linter.all false
set_option maxRecDepth 100000
set_option maxHeartbeats 2000000
namespace DL
open PySem PySem.Spec L2
/-! ### walks over data -/
structure Wk (K : PySem.W.Frag) (G : Addr → Prop) (H0 : Hp) (J : It) (ds : List PyData) : Prop where
  w : Walk J ds.length (fun H => ∀ b o, H0 b = some o → ¬ G b → H b = some o) (fun i H x H2 => ∃ d, ds[i]? = some d ∧ Same H H2 ∧ ∀ Gc : Addr → Prop, (∀ b, Gc b → H b ≠ none) → Same (hide G H0) (hide Gc H) → Dq K (hide Gc H2) x d)
section
variable {X : Cx} {W : WX}
def PostI (X : Cx) (W : WX) (F G : Addr → Prop) (H : Hp) (σ : L2.St) (r : Res (List PyData × DSt)) (R : It → Hp → Prop) : Prop := match r with
  | .ok (ds, δ') => ∀ J H', Fr F G H H' → Rep X.K F G H' σ δ' → Wk X.K G H' J ds → R J H'
  | .err c => ∀ C H', X.mg c = some (.ref C) → Fr F G H H' → W (.ref C) none σ H'
  | .bad => False
def tDI (X : Cx) (W : WX) (f : EvA) : TI := fun σ H R => ∃ F G δ, Rep X.K F G H σ δ ∧ PostI X W F G H σ (f δ) R
def DI (X : Cx) (W : WX) (tg it : Expr) (f : EvA) : Prop := PI X tg it (tDI X W f)
theorem PI_or {tg it : Expr} {t u : TI} (h : PI X tg it t) (k : PI X tg it u) : PI X tg it (fun σ H R => t σ H R ∨ u σ H R) :=
  ⟨fun pins s σ H R I q => q.elim (h.run pins s σ H R I) (k.run pins s σ H R I)⟩
theorem yat {K : PySem.W.Frag} {G : Addr → Prop} {H0 H H2 : Hp} {xs : List V} {ds : List PyData} (h : DqAll K (hide G H0) xs ds) {i : Nat} {x : V} (y : YAt xs i H x H2) : ∃ d, ds[i]? = some d ∧ Same H H2 ∧ ∀ Gc : Addr → Prop, (∀ b, Gc b → H b ≠ none) → Same (hide G H0) (hide Gc H) → Dq K (hide Gc H2) x d := by
  obtain ⟨rfl, e⟩ := y
  obtain ⟨d, e1, e2⟩ := h.get' e
  exact ⟨d, e1, Same.refl _, fun Gc _ s => e2.mono s⟩
theorem wk_list {K : PySem.W.Frag} {G : Addr → Prop} {H : Hp} {a : Addr} {xs : List V} {ds : List PyData} (ha : hide G H a = some (.lst xs)) (h : DqAll K (hide G H) xs ds) : Wk K G H (Itl K a) ds := by
  refine ⟨?_⟩
  rw [← h.length]
  exact (walk_list (K := K) (a := a) (xs := xs)).mono (fun H' k => .inl (.inl (k _ _ (hide_some ha).2 (hide_some ha).1))) fun i H' x H2 _ _ y => yat h y
theorem wk_tup {K : PySem.W.Frag} {G : Addr → Prop} {H : Hp} {a : Addr} {xs : List V} {ds : List PyData} (ha : SqT K (hide G H) a xs) (h : DqAll K (hide G H) xs ds) : Wk K G H (Itt K a) ds := by
  refine ⟨?_⟩
  rw [← h.length]
  refine (walk_tup (K := K) (a := a) (xs := xs)).mono (fun H' k => ?_) fun i H' x H2 _ _ y => yat h y
  rcases ha with (ha | ⟨o, ha⟩) | ha
  · exact .inl (.inl (k _ _ (hide_some ha).2 (hide_some ha).1))
  · exact .inl (.inr ⟨o, k _ _ (hide_some ha).2 (hide_some ha).1⟩)
  · exact .inr ha
def signs (z : Str) : List PyData := z.cps.toList.map fun c => .str ⟨#[c]⟩
theorem wk_str {K : PySem.W.Frag} {G : Addr → Prop} {H : Hp} {z : Str} : Wk K G H (Its z) (signs z) := by
  refine ⟨?_⟩
  have e : (signs z).length = z.cps.size := by unfold signs; rw [List.length_map, Array.length_toList]
  rw [e]
  refine (walk_str (z := z)).mono (fun _ _ => trivial) fun i H' x H2 _ _ y => ?_
  obtain ⟨rfl, c, hc, rfl⟩ := y
  refine ⟨.str ⟨#[c]⟩, ?_, Same.refl _, fun _ _ _ => .str _⟩
  unfold signs
  rw [List.getElem?_map, Array.getElem?_toList, hc] <;> rfl
/-- what a for, a comprehension walks: a list, a tuple, a text -/
def itemsOf : PyData → Res (List PyData)
  | .list ds => .ok ds
  | .tuple ds => .ok ds
  | .str z => .ok (signs z)
  | _ => .bad
def vItems (f : EvE) : EvA := fun δ => (f δ).bind fun p => (itemsOf p.1).bind fun ds => .ok (ds, p.2)
theorem di_any {tg it : Expr} {f : EvE} (h : DE X W it f) : DI X W tg it (vItems f) := by
  refine PI_imp (PI_or (pi_list (X := X) (tg := tg) h) (PI_or (pi_tup (tg := tg) h) (pi_str (tg := tg) h))) fun σ H Q ⟨F, G, δ, R, p⟩ => ?_
  unfold vItems at p
  cases e : f δ with
  | err c => rw [e] at p; exact .inl ⟨F, G, δ, R, by rw [e]; exact p⟩
  | bad => rw [e] at p; exact p.elim
  | ok x =>
    obtain ⟨d, δ1⟩ := x
    rw [e] at p
    cases d <;> try exact p.elim
    · refine .inr (.inr ⟨F, G, δ, R, ?_⟩)
      rw [e]
      intro v H1 fr R1 hv
      cases hv
      exact ⟨_, rfl, p _ H1 fr R1 wk_str⟩
    · refine .inl ⟨F, G, δ, R, ?_⟩
      rw [e]
      intro v H1 fr R1 hv
      cases hv with
      | lst hs ha => exact ⟨_, rfl, ⟨_, .inl (.inl (hide_some hs).2)⟩, p _ H1 fr R1 (wk_list hs ha)⟩
    · refine .inr (.inl ⟨F, G, δ, R, ?_⟩)
      rw [e]
      intro v H1 fr R1 hv
      cases hv with
      | tup hs ha => exact ⟨_, rfl, ⟨_, seqT unhide hs⟩, p _ H1 fr R1 (wk_tup hs ha)⟩
/-- range(e) -/
def rangeD (n : Nat) : List PyData := (List.range n).map fun i => .int (i : Nat)
theorem wk_range {K : PySem.W.Frag} {G : Addr → Prop} {H : Hp} {n : Nat} : Wk K G H (Itr 0 n) (rangeD n) := by
  refine ⟨?_⟩
  have e : (rangeD n).length = n := by unfold rangeD; rw [List.length_map, List.length_range]
  rw [e]
  refine (walk_range (lo := 0) (n := n)).mono (fun _ _ => trivial) fun i H' x H2 hi _ y => ?_
  obtain ⟨rfl, rfl⟩ := y
  refine ⟨.int (i : Nat), ?_, Same.refl _, fun _ _ _ => ?_⟩
  · unfold rangeD
    rw [List.getElem?_map, List.getElem?_range hi] <;> rfl
  · have q : (0 : Int) + (i : Nat) = (i : Nat) := by omega
    show Dq K _ (.int (0 + (i : Nat))) _
    rw [q]
    exact .int _
def vRange (f : EvE) : EvA := fun δ => (f δ).bind fun p => match p.1 with
  | .int j => if -(2 ^ 62) ≤ j ∧ j < 2 ^ 62 then .ok (rangeD j.toNat, p.2) else .bad
  | _ => .bad
theorem di_range {tg a : Expr} {f : EvE} {p pos : Pos} (ha : DE X W a f) (hm : X.mg "range" = none) (hg : Gl X "range" := by rfl) (hs : starEach [a] X.env = [(false, eval a X.env)] := by rfl) : DI X W tg (.Call (.Name "range" p) [a] [] pos) (vRange f) := by
  refine PI_imp (pi_range1 hg hm (pa_cons ha pa_nil hs) hs) fun σ H Q ⟨F, G, δ, R, p⟩ => ?_
  refine ⟨F, G, δ, R, ?_⟩
  unfold vRange at p
  cases e : f δ with
  | err c => rw [e] at p; exact p
  | bad => rw [e] at p; exact p.elim
  | ok x =>
    obtain ⟨d, δ1⟩ := x
    rw [e] at p
    intro v H1 fr R1 hv
    cases d <;> try exact p.elim
    rename_i j
    cases hv
    have p' : PostI X W F G H σ (if -(2 ^ 62) ≤ j ∧ j < 2 ^ 62 then Res.ok (rangeD j.toNat, δ1) else .bad) Q := p
    by_cases c : -(2 ^ 62) ≤ j ∧ j < 2 ^ 62
    · rw [if_pos c] at p'
      exact ⟨j, rfl, c.1, c.2, p' _ H1 fr R1 wk_range⟩
    · rw [if_neg c] at p'
      exact p'.elim
/-! ### for -/
def vForL (g : PyData → DSt → Res DSt) (b : EvS) : List PyData → EvS
  | [], δ => .ok (.nx, δ)
  | d :: ds, δ => (noErr (g d δ)).bind fun δ1 => (b δ1).bind fun q => match q.1 with
    | .nx | .ct => vForL g b ds q.2
    | .bk => .ok (.nx, q.2)
    | .rn d => .ok (.rn d, q.2)
    | .rt d => .ok (.rt d, q.2)
def vFor (f : EvA) (g : PyData → DSt → Res DSt) (b : EvS) : EvS := fun δ => (chk0 δ (f δ)).bind fun p => vForL g b p.1 p.2
theorem seqIS {F G : Addr → Prop} {H : Hp} {σ : L2.St} {δ : DSt} {f : EvA} {g : List PyData × DSt → Res (Flw × DSt)} {D : Ends} {Q : It → Hp → Prop}
    (R : Rep X.K F G H σ δ) (hp : PostS X W F G H σ δ ((chk0 δ (f δ)).bind g) D)
    (hok : ∀ ds δ1 J H1, SF F G G H H1 σ σ δ δ1 → Rep X.K F G H1 σ δ1 → Wk X.K G H1 J ds → PostS X W F G H1 σ δ1 (g (ds, δ1)) D → Q J H1) : tDI X W f σ H Q := by
  refine ⟨F, G, δ, R, ?_⟩
  cases e : f δ with
  | ok x =>
    obtain ⟨d, δ1⟩ := x
    rw [e] at hp
    cases q : chk0 δ (.ok (d, δ1)) with
    | ok y =>
      obtain ⟨y, δy⟩ := y
      obtain ⟨h1, h2⟩ := chk0_ok q
      cases h1
      rw [q] at hp
      intro v H1 fr R1 h
      have s : SF F G G H H1 σ σ δ δ1 := ⟨fr, fun _ z => .inl z, fun ds e => ⟨rfl, h2 ds e⟩⟩
      exact hok d δ1 v H1 s R1 h (hp.step s)
    | err c =>
      unfold chk0 at q
      split at q
      · dsimp only at q
        split at q <;> cases q
      · cases q
    | bad => rw [q] at hp; exact hp.elim
  | err c =>
    rw [e, chk0_err] at hp
    exact fun C H' hC fr => hp C σ H' hC fr
  | bad => rw [e, chk0_bad] at hp; exact hp.elim
theorem ds_for {tg it : Expr} {body : List Stmt} {f : EvA} {g : PyData → DSt → Res DSt} {ts : List Nat} {b : EvS} {pos : Pos} (hp : PassesOwn (model X.prog X.w) X.A X.env X.xe) (hc : X.calm = true) (hi : DI X W tg it f) (hg : DG X tg g ts) (hb : DSs X W body b)
    (hs : ∀ x, foldedSetIterable it X.env x = pure x := by intro _; rfl) : DS X W (.For tg it body [] pos) (vFor f g b) := by
  refine PS_imp (ps_for hp hc hi hg hb hs) fun D σ H ⟨F, G, δ, R, p⟩ => seqIS R p fun ds δ1 J H1 s R1 wk p1 => ?_
  refine for_it wk.w (fun i σ' H' => ∃ G' δ', SF F G G' H1 H' σ σ' δ1 δ' ∧ Rep X.K F G' H' σ' δ' ∧ PostS X W F G' H' σ' δ' (vForL g b (ds.drop i) δ') D) ⟨G, δ1, SF.refl, R1, p1⟩ (fun i σ' H' _ ⟨G', δ', s', _, _⟩ b o e n => s'.fr b o e (.inr n)) ?_ ?_
  · rintro i x σ' H' H2 hi ⟨G', δ', s', R', p'⟩ ⟨d, ed, same, hd⟩
    have R2 := R'.same same
    have hx := hd G' R'.vis s'.hide
    have ec : ds.drop i = d :: ds.drop (i + 1) := by
      obtain ⟨h1, h2⟩ := List.getElem?_eq_some_iff.mp ed
      rw [List.drop_eq_getElem_cons h1, h2]
    rw [ec] at p'
    have p2 : PostS X W F G' H2 σ' δ' ((noErr (g d δ')).bind fun δ1 => (b δ1).bind fun q => match q.1 with
      | .nx | .ct => vForL g b (ds.drop (i + 1)) q.2
      | .bk => .ok (.nx, q.2)
      | .rn d => .ok (.rn d, q.2)
      | .rt d => .ok (.rt d, q.2)) D := PostS.step p' ⟨.of same, fun _ z => .inl z, fun ds e => ⟨rfl, ds, e⟩⟩
    refine ⟨F, G', δ', d, R2, hx, ?_⟩
    cases eg : g d δ' with
    | err c => rw [eg] at p2; exact p2.elim
    | bad => rw [eg] at p2; exact p2.elim
    | ok δ2 =>
      rw [eg] at p2
      intro σ2 s2 R3 _
      have p3 : PostS X W F G' H2 σ2 δ2 ((b δ2).bind fun q => match q.1 with
        | .nx | .ct => vForL g b (ds.drop (i + 1)) q.2
        | .bk => .ok (.nx, q.2)
        | .rn d => .ok (.rn d, q.2)
        | .rt d => .ok (.rt d, q.2)) D := PostS.step p2 s2
      have s3 : SF F G G' H1 H2 σ σ2 δ1 δ2 := (s'.trans ⟨.of same, fun _ z => .inl z, fun ds e => ⟨rfl, ds, e⟩⟩).trans s2
      refine ⟨F, G', δ2, R3, ?_⟩
      cases eb : b δ2 with
      | ok q =>
        obtain ⟨fl, δ3⟩ := q
        rw [eb] at p3
        cases fl with
        | nx => exact fun σ4 H4 G4 s4 R4 => ⟨G4, δ3, s3.trans s4, R4, PostS.step p3 s4⟩
        | ct => exact fun σ4 H4 G4 s4 R4 => ⟨G4, δ3, s3.trans s4, R4, PostS.step p3 s4⟩
        | bk => exact p3
        | rt d => exact p3
        | rn d => exact p3
      | err c => rw [eb] at p3; exact p3
      | bad => rw [eb] at p3; exact p3.elim
  · rintro σ' H' ⟨G', δ', s', R', p'⟩
    rw [List.drop_length] at p'
    exact p' σ' H' G' SF.refl R'
/-! ### comprehensions -/
def wipeD (δ : DSt) : List Nat → DSt
  | [] => δ
  | v :: vs => (wipeD δ vs).set v .no
/-- none of the slots holds an own list -/
def freeOf (δ : DSt) (vs : List Nat) : Bool := vs.all fun i => match δ[i]? with
  | some (.own _) => false
  | some (.ob _) => false
  | _ => true
/-- the slots as they were, the others as they are now -/
def backD (δ δ' : DSt) : List Nat → DSt
  | [] => δ'
  | v :: vs => (backD δ δ' vs).set v (δ.getD v .no)
theorem wipeD_len (δ : DSt) : ∀ vs, (wipeD δ vs).length = δ.length
  | [] => rfl
  | v :: vs => by rw [wipeD, List.length_set, wipeD_len δ vs]
theorem backD_len (δ δ' : DSt) : ∀ vs, (backD δ δ' vs).length = δ'.length
  | [] => rfl
  | v :: vs => by rw [backD, List.length_set, backD_len δ δ' vs]
theorem wipeD_at (δ : DSt) {i : Nat} : ∀ {vs : List Nat}, (wipeD δ vs)[i]? = if i ∈ vs ∧ i < δ.length then some .no else δ[i]?
  | [] => by simp [wipeD]
  | v :: vs => by
    rw [wipeD]
    by_cases z : v = i
    · subst z
      by_cases h : v < δ.length
      · rw [List.getElem?_set_self (by rw [wipeD_len]; exact h), if_pos ⟨List.mem_cons_self, h⟩]
      · rw [if_neg fun q => h q.2, List.getElem?_eq_none (by rw [List.length_set, wipeD_len]; omega), List.getElem?_eq_none (by omega)]
    · rw [List.getElem?_set_ne z, wipeD_at δ]
      simp [Ne.symm z]
theorem backD_at (δ δ' : DSt) (hl : δ'.length = δ.length) {i : Nat} : ∀ {vs : List Nat}, (backD δ δ' vs)[i]? = if i ∈ vs then δ[i]? else δ'[i]?
  | [] => by simp [backD]
  | v :: vs => by
    rw [backD]
    by_cases z : v = i
    · subst z
      rw [if_pos List.mem_cons_self]
      by_cases h : v < δ.length
      · rw [List.getElem?_set_self (by rw [backD_len, hl]; exact h), List.getD_eq_getElem?_getD, List.getElem?_eq_getElem h] <;> rfl
      · rw [List.getElem?_eq_none (by rw [List.length_set, backD_len, hl]; omega), List.getElem?_eq_none (by omega)]
    · rw [List.getElem?_set_ne z, backD_at δ δ' hl]
      simp [Ne.symm z]
theorem wipe_at {σ : L2.St} {i : Nat} : ∀ {vs : List Nat}, i ∉ vs → (wipe σ vs)[i]? = σ[i]? := fun {vs} h => wipe_out h
theorem Rep.wiped {K : PySem.W.Frag} {F G : Addr → Prop} {H : Hp} {σ : L2.St} {δ : DSt} (R : Rep K F G H σ δ) (vs : List Nat) : Rep K F G H (wipe σ vs) (wipeD δ vs) := by
  have at' : ∀ (i : Nat) (x : Sl), (wipeD δ vs)[i]? = some x → x = .no ∨ (i ∉ vs ∧ δ[i]? = some x) := fun i x e => by
    rw [wipeD_at] at e
    by_cases c : i ∈ vs ∧ i < δ.length
    · rw [if_pos c] at e; cases e; exact .inl rfl
    · rw [if_neg c] at e
      refine .inr ⟨fun z => ?_, e⟩
      exact c ⟨z, (List.getElem?_eq_some_iff.mp e).1⟩
  refine ⟨R.sub, R.vis, by rw [wipeD_len, wipe_length]; exact R.len, fun i d e => ?_, fun i ds e => ?_, fun i ds e => ?_, fun i j ds es a e1 e2 e3 e4 => ?_, fun i od e => ?_, fun i j od oe a e1 e2 e3 e4 => ?_⟩
  · rcases at' i _ e with z | ⟨n, e'⟩
    · cases z
    · rw [wipe_at n]; exact R.dat i d e'
  · rcases at' i _ e with z | ⟨n, e'⟩
    · cases z
    · rw [wipe_at n]; exact R.tn i ds e'
  · rcases at' i _ e with z | ⟨n, e'⟩
    · cases z
    · rw [wipe_at n]; exact R.ow i ds e'
  · rcases at' i _ e1 with z | ⟨n1, e1'⟩
    · cases z
    rcases at' j _ e2 with z | ⟨n2, e2'⟩
    · cases z
    rw [wipe_at n1] at e3
    rw [wipe_at n2] at e4
    exact R.inj i j ds es a e1' e2' e3 e4
  · rcases at' i _ e with z | ⟨n, e'⟩
    · cases z
    · rw [wipe_at n]; exact R.ob i od e'
  · rcases at' i _ e1 with z | ⟨n1, e1'⟩
    · cases z
    rcases at' j _ e2 with z | ⟨n2, e2'⟩
    · cases z
    rw [wipe_at n1] at e3
    rw [wipe_at n2] at e4
    exact R.obj i j od oe a e1' e2' e3 e4
/-- behind the comprehension: its own slots as they were -/
theorem Rep.back {K : PySem.W.Frag} {F G : Addr → Prop} {H H' : Hp} {σ : L2.St} {δ δ' : DSt} {vs : List Nat} (R : Rep K F G H σ δ) (R' : Rep K F G H' (wipe σ vs) δ') (f : Fr F G H H') (hf : freeOf δ vs = true) : Rep K F G H' σ (backD δ δ' vs) := by
  have hl : δ'.length = δ.length := by rw [R'.len, wipe_length, R.len]
  have S := f.hide
  have nown : ∀ (i : Nat) (ds : List PyData), i ∈ vs → δ[i]? ≠ some (.own ds) := fun i ds hi e => by
    unfold freeOf at hf
    rw [List.all_eq_true] at hf
    have q := hf i hi
    rw [e] at q
    cases q
  have own : ∀ (i : Nat) (ds : List PyData), (backD δ δ' vs)[i]? = some (.own ds) → i ∉ vs ∧ δ'[i]? = some (.own ds) := fun i ds e => by
    rw [backD_at δ δ' hl] at e
    by_cases c : i ∈ vs
    · rw [if_pos c] at e
      exact absurd e (nown i ds c)
    · rw [if_neg c] at e
      exact ⟨c, e⟩
  have nob : ∀ (i : Nat) (od : OD), i ∈ vs → δ[i]? ≠ some (.ob od) := fun i od hi e => by
    unfold freeOf at hf
    rw [List.all_eq_true] at hf
    have q := hf i hi
    rw [e] at q
    cases q
  have obs : ∀ (i : Nat) (od : OD), (backD δ δ' vs)[i]? = some (.ob od) → i ∉ vs ∧ δ'[i]? = some (.ob od) := fun i od e => by
    rw [backD_at δ δ' hl] at e
    by_cases c : i ∈ vs
    · rw [if_pos c] at e
      exact absurd e (nob i od c)
    · rw [if_neg c] at e
      exact ⟨c, e⟩
  refine ⟨R.sub, R'.vis, by rw [backD_len, hl]; exact R.len, fun i d e => ?_, fun i ds e => ?_, fun i ds e => ?_, fun i j ds es a e1 e2 e3 e4 => ?_, fun i od e => ?_, fun i j od oe a e1 e2 e3 e4 => ?_⟩
  · rw [backD_at δ δ' hl] at e
    by_cases c : i ∈ vs
    · rw [if_pos c] at e
      obtain ⟨v, h1, h2⟩ := R.dat i d e
      exact ⟨v, h1, h2.mono S⟩
    · rw [if_neg c] at e
      obtain ⟨v, h1, h2⟩ := R'.dat i d e
      rw [wipe_at c] at h1
      exact ⟨v, h1, h2⟩
  · rw [backD_at δ δ' hl] at e
    by_cases c : i ∈ vs
    · rw [if_pos c] at e
      obtain ⟨a, o, us, h1, h2, h3, h4⟩ := R.tn i ds e
      exact ⟨a, o, us, h1, S _ _ h2, h3, h4.mono S⟩
    · rw [if_neg c] at e
      obtain ⟨a, o, us, h1, h2, h3, h4⟩ := R'.tn i ds e
      rw [wipe_at c] at h1
      exact ⟨a, o, us, h1, h2, h3, h4⟩
  · obtain ⟨c, e'⟩ := own i ds e
    have q := R'.ow i ds e'
    rw [wipe_at c] at q
    exact q
  · obtain ⟨c1, e1'⟩ := own i ds e1
    obtain ⟨c2, e2'⟩ := own j es e2
    refine R'.inj i j ds es a e1' e2' ?_ ?_
    · rw [wipe_at c1]; exact e3
    · rw [wipe_at c2]; exact e4
  · obtain ⟨c, e'⟩ := obs i od e
    have q := R'.ob i od e'
    rw [wipe_at c] at q
    exact q
  · obtain ⟨c1, e1'⟩ := obs i od e1
    obtain ⟨c2, e2'⟩ := obs j oe e2
    refine R'.obj i j od oe a e1' e2' ?_ ?_
    · rw [wipe_at c1]; exact e3
    · rw [wipe_at c2]; exact e4
/-- the block's turns -/
def vLcL (g : PyData → DSt → Res DSt) (t : EvT) (f : EvE) (vs : List Nat) : List PyData → DSt → Res (List PyData × DSt)
  | [], δ => .ok ([], wipeD δ vs)
  | d :: ds, δ => (noErr (g d (wipeD δ vs))).bind fun δ1 => (t δ1).bind fun p => if p.1 = true then (f p.2).bind fun q => (vLcL g t f vs ds q.2).bind fun r => if r.1.length < sizeLine then .ok (q.1 :: r.1, r.2) else .bad else vLcL g t f vs ds p.2
def noErrA : Res (List PyData × DSt) → Res (List PyData × DSt)
  | .err _ => .bad
  | r => r
def vLcA (i : EvA) (g : PyData → DSt → Res DSt) (t : EvT) (f : EvE) (vs : List Nat) : EvA := fun δ => if freeOf δ vs = true then (i δ).bind fun p => if freeOf p.2 vs = true then (noErrA (vLcL g t f vs p.1 p.2)).bind fun r => .ok (r.1, backD p.2 r.2 vs) else .bad else .bad
theorem vLcL_len {g : PyData → DSt → Res DSt} {t : EvT} {f : EvE} {vs : List Nat} : ∀ {ds : List PyData} {δ : DSt} {rs : List PyData} {δf : DSt}, vLcL g t f vs ds δ = .ok (rs, δf) → rs.length ≤ sizeLine
  | [], δ, rs, δf, h => by cases h; exact Nat.zero_le _
  | d :: ds, δ, rs, δf, h => by
    rw [vLcL] at h
    cases e1 : noErr (g d (wipeD δ vs)) with
    | ok δ1 =>
      rw [e1, Res.bind_ok] at h
      cases e2 : t δ1 with
      | ok p =>
        rw [e2, Res.bind_ok] at h
        by_cases c : p.1 = true
        · rw [if_pos c] at h
          cases e3 : f p.2 with
          | ok q =>
            rw [e3, Res.bind_ok] at h
            cases e4 : vLcL g t f vs ds q.2 with
            | ok r =>
              rw [e4, Res.bind_ok] at h
              by_cases c2 : r.1.length < sizeLine
              · rw [if_pos c2] at h
                cases h
                exact c2
              · rw [if_neg c2] at h; cases h
            | err c => rw [e4] at h; cases h
            | bad => rw [e4] at h; cases h
          | err c => rw [e3] at h; cases h
          | bad => rw [e3] at h; cases h
        · rw [if_neg c] at h
          exact vLcL_len h
      | err c => rw [e2] at h; cases h
      | bad => rw [e2] at h; cases h
    | err c => rw [e1] at h; cases h
    | bad => rw [e1] at h; cases h
/-- nothing is raised -/
abbrev W0 : WX := fun _ _ _ _ => False
/-- hiding one more address, that is nobody's -/
theorem Rep.more {K : PySem.W.Frag} {F G : Addr → Prop} {H : Hp} {σ : L2.St} {δ : DSt} {D : Addr} {o : HO} (R : Rep K F G H σ δ) (n : H D = none) : Rep K (fun b => F b ∨ b = D) (fun b => G b ∨ b = D) (upd H D o) σ δ := by
  have S : Same (hide G H) (hide (fun b => G b ∨ b = D) (upd H D o)) := hide_new n
  refine ⟨fun b z => z.imp (R.sub b) fun q => q, fun b z e => ?_, R.len, fun i d e => ?_, fun i ds e => ?_, fun i ds e => ?_, R.inj, fun i od e => ?_, R.obj⟩
  · by_cases q : b = D
    · subst q; rw [upd_same] at e; cases e
    · rw [upd_ne q] at e
      rcases z with z | z
      · exact R.vis b z e
      · exact q z
  · obtain ⟨v, h1, h2⟩ := R.dat i d e
    exact ⟨v, h1, h2.mono S⟩
  · obtain ⟨a, ob, us, h1, h2, h3, h4⟩ := R.tn i ds e
    exact ⟨a, ob, us, h1, S _ _ h2, h3, h4.mono S⟩
  · obtain ⟨a, us, h1, h2, h3, h4, h5⟩ := R.ow i ds e
    have ne : a ≠ D := ne_of_none h4 n
    exact ⟨a, us, h1, .inl h2, fun z => z.elim h3 ne, by rw [upd_ne ne]; exact h4, h5.mono S⟩
  · obtain ⟨a, o2, h1, h2, h3, h4, h5⟩ := R.ob i od e
    have ne : a ≠ D := ne_of_none h4 n
    exact ⟨a, o2, h1, .inl h2, fun z => z.elim h3 ne, by rw [upd_ne ne]; exact h4, h5.mono S⟩
theorem Rep.less {K : PySem.W.Frag} {F G : Addr → Prop} {H : Hp} {σ : L2.St} {δ : DSt} {D : Addr} (R : Rep K (fun b => F b ∨ b = D) (fun b => G b ∨ b = D) H σ δ) (sub : ∀ b, F b → G b) : Rep K F G H σ δ := by
  have S : Same (hide (fun b => G b ∨ b = D) H) (hide G H) := hide_same (fun b z => .inl (.inl z)) fun b o e _ => e
  refine ⟨sub, fun b z => R.vis b (.inl z), R.len, fun i d e => ?_, fun i ds e => ?_, fun i ds e => ?_, R.inj, fun i od e => ?_, R.obj⟩
  · obtain ⟨v, h1, h2⟩ := R.dat i d e
    exact ⟨v, h1, h2.mono S⟩
  · obtain ⟨a, ob, us, h1, h2, h3, h4⟩ := R.tn i ds e
    exact ⟨a, ob, us, h1, S _ _ h2, h3, h4.mono S⟩
  · obtain ⟨a, us, h1, h2, h3, h4, h5⟩ := R.ow i ds e
    exact ⟨a, us, h1, h2.elim _root_.id fun z => absurd (.inr z) h3, fun z => h3 (.inl z), h4, h5.mono S⟩
  · obtain ⟨a, o2, h1, h2, h3, h4, h5⟩ := R.ob i od e
    exact ⟨a, o2, h1, h2.elim _root_.id fun z => absurd (.inr z) h3, fun z => h3 (.inl z), h4, h5.mono S⟩
/-- the list D, that is hidden, is written -/
theorem Rep.upD {K : PySem.W.Frag} {F G : Addr → Prop} {H : Hp} {σ : L2.St} {δ : DSt} {D : Addr} {o o' : HO} (R : Rep K F G H σ δ) (hF : F D) (e : H D = some o) : Rep K F G (upd H D o') σ δ ∧ Same (hide G H) (hide G (upd H D o')) := by
  have S : Same (hide G H) (hide G (upd H D o')) := hide_same (fun b z => .inl z) fun b u q n => by
    have ne : b ≠ D := fun z => n (z ▸ R.sub D hF)
    rw [upd_ne ne]
    exact q
  refine ⟨⟨R.sub, fun b z q => ?_, R.len, fun i d q => ?_, fun i ds q => ?_, fun i ds q => ?_, R.inj, fun i od q => ?_, R.obj⟩, S⟩
  · by_cases y : b = D
    · subst y; rw [upd_same] at q; cases q
    · rw [upd_ne y] at q; exact R.vis b z q
  · obtain ⟨v, h1, h2⟩ := R.dat i d q
    exact ⟨v, h1, h2.mono S⟩
  · obtain ⟨a, ob, us, h1, h2, h3, h4⟩ := R.tn i ds q
    exact ⟨a, ob, us, h1, S _ _ h2, h3, h4.mono S⟩
  · obtain ⟨a, us, h1, h2, h3, h4, h5⟩ := R.ow i ds q
    have ne : a ≠ D := fun z => h3 (z ▸ hF)
    exact ⟨a, us, h1, h2, h3, by rw [upd_ne ne]; exact h4, h5.mono S⟩
  · obtain ⟨a, o2, h1, h2, h3, h4, h5⟩ := R.ob i od q
    have ne : a ≠ D := fun z => h3 (z ▸ hF)
    exact ⟨a, o2, h1, h2, h3, by rw [upd_ne ne]; exact h4, h5.mono S⟩
theorem wipe_set_eq {σ σ' : L2.St} {vs ts : List Nat} (hl : σ'.length = (wipe σ vs).length) (h : ∀ j, j ∉ ts → σ'[j]? = (wipe σ vs)[j]?) (hs : ∀ j ∈ ts, j ∈ vs) : wipe σ' vs = wipe σ vs := by
  have nn : ∀ (τ : L2.St) (ws : List Nat) (i : Nat), i ∈ ws → i < τ.length → (wipe τ ws)[i]? = some none := by
    intro τ ws
    induction ws with
    | nil => intro i hi; cases hi
    | cons w ws ih =>
      intro i hi hl
      unfold wipe
      by_cases z : w = i
      · subst z; rw [List.getElem?_set_self (by rw [wipe_length]; exact hl)]
      · rw [List.getElem?_set_ne z]
        exact ih i ((List.mem_cons.mp hi).resolve_left (Ne.symm z)) hl
  have hl' : σ'.length = σ.length := by rw [hl, wipe_length]
  apply List.ext_getElem?
  intro i
  by_cases hi : i ∈ vs
  · by_cases hlt : i < σ.length
    · rw [nn σ' vs i hi (by omega), nn σ vs i hi hlt]
    · rw [List.getElem?_eq_none (by rw [wipe_length]; omega), List.getElem?_eq_none (by rw [wipe_length]; omega)]
  · rw [wipe_at hi, h i fun z => hi (hs i z)]
theorem lc_data {g : PyData → DSt → Res DSt} {t : EvT} {f : EvE} {vs ts : List Nat} {F G : Addr → Prop} {H1 : Hp} {σ : L2.St} {δ1 δf : DSt} {J : It} {ds rs : List PyData} {D : Addr} {Qd : Hp → Prop}
    (wk : Wk X.K G H1 J ds) (R1 : Rep X.K F G H1 σ δ1) (hfr : freeOf δ1 vs = true) (nD : H1 D = none) (hts : ∀ j ∈ ts, j ∈ vs) (er : vLcL g t f vs ds δ1 = .ok (rs, δf))
    (hQ : ∀ H' acc, Fr F G H1 H' → Rep X.K F G H' σ (backD δ1 δf vs) → hide G H' D = some (.lst acc) → DqAll X.K (hide G H') acc rs → Qd H') :
    ∃ W : Nat → Nat → Hp → Prop, (∃ m, W 0 m (upd H1 D (.lst []))) ∧ ∀ i m H, W i m H →
      (J.stop i H ∧ Qd H) ∨ (J.go i H ∧ ∃ Nx : Hp → Prop, (∀ H', Nx H' → ∃ m', m' < m ∧ W (i + 1) m' H') ∧ ∀ x H', J.yld i H x H' → tDG X g ts x (wipe σ vs) H' fun σ2 H2 => wipe σ2 vs = wipe σ vs ∧ tDT X W0 t σ2 H2 fun b H3 =>
        if b = true then tD X W0 f σ2 H3 fun y H4 => ∃ acc, H4 D = some (.lst acc) ∧ acc.length < sizeLine ∧ Nx (upd H4 D (.lst (acc ++ [y]))) else Nx H3) := by
  have nG : ¬ G D := fun z => R1.vis D z nD
  let F' : Addr → Prop := fun b => F b ∨ b = D
  let G' : Addr → Prop := fun b => G b ∨ b = D
  have hF'D : F' D := .inr rfl
  refine lc_it wk.w (vs := vs) (σ := σ) (H1 := H1) (D := D) (fun i H => ∃ acc as rest δ', H D = some (.lst acc) ∧ Fr F G H1 H ∧ Rep X.K F' G' H (wipe σ vs) (wipeD δ' vs) ∧ DqAll X.K (hide G' H) acc as ∧ vLcL g t f vs (ds.drop i) δ' = .ok (rest, δf) ∧ as ++ rest = rs ∧ as.length + rest.length ≤ sizeLine)
    ⟨[], [], rs, δ1, upd_same, Fr.of (same_upd nD), ((R1.more (o := .lst []) nD).wiped vs), .nil, er, rfl, by rw [List.length_nil, Nat.zero_add]; exact vLcL_len er⟩ (fun i H _ ⟨acc, as, rest, δ', hD, fr, _⟩ b o e n => fr b o e (.inr n)) ?_ ?_
  · rintro i x H H' hi ⟨acc, as, rest, δ', hD, fr, R, ha, ev, esum, hz⟩ ⟨d, ed, same, hd⟩
    have ec : ds.drop i = d :: ds.drop (i + 1) := by
      obtain ⟨h1, h2⟩ := List.getElem?_eq_some_iff.mp ed
      rw [List.drop_eq_getElem_cons h1, h2]
    rw [ec, vLcL] at ev
    have R2 := R.same same
    have S0 : Same (hide G H1) (hide G' H) := hide_same (fun b z => z.elim .inl fun q => .inr (by rw [q]; exact nD)) fun b o e n => fr b o e (.inr n)
    have hx := hd G' R.vis S0
    have hD2 := same _ _ hD
    have ha2 := ha.mono (hideS (G := G') same)
    have fr2 : Fr F G H1 H' := fr.trans (.of same)
    -- what the block's parts keep
    have keepD : ∀ {Ha Hb : Hp} {ac : List V}, Fr F' G' Ha Hb → Ha D = some (.lst ac) → Hb D = some (.lst ac) := by
      intro Ha Hb ac k e
      exact k D _ e (.inl hF'D)
    have frG : ∀ {Ha Hb : Hp}, Fr F G H1 Ha → Fr F' G' Ha Hb → Fr F G H1 Hb := fun {Ha Hb} f k b o e n => by
      have ne : b ≠ D := ne_of_none e nD
      exact k b o (f b o e n) (by
        rcases n with n | n
        · exact .inl (.inl n)
        · exact .inr fun z => z.elim n ne)
    refine ⟨F', G', wipeD δ' vs, d, R2, hx, ?_⟩
    cases eg : g d (wipeD δ' vs) with
    | err c => rw [eg] at ev; cases ev
    | bad => rw [eg] at ev; cases ev
    | ok δ2 =>
      rw [eg] at ev
      replace ev : ((t δ2).bind fun p => if p.1 = true then (f p.2).bind fun q => (vLcL g t f vs (ds.drop (i + 1)) q.2).bind fun r => if r.1.length < sizeLine then Res.ok (q.1 :: r.1, r.2) else .bad else vLcL g t f vs (ds.drop (i + 1)) p.2) = .ok (rest, δf) := ev
      intro σ2 s2 R3 keep
      have wq : wipe σ2 vs = wipe σ vs := wipe_set_eq keep.len keep.eq hts
      refine ⟨wq, F', G', δ2, R3, ?_⟩
      cases et : t δ2 with
      | err c => rw [et] at ev; cases ev
      | bad => rw [et] at ev; cases ev
      | ok p =>
        obtain ⟨k, δ3⟩ := p
        rw [et, Res.bind_ok] at ev
        intro H3 f3 R4
        have hD3 := keepD f3 hD2
        have ha3 := ha2.mono f3.hide
        have fr3 := frG fr2 f3
        cases k with
        | false =>
          rw [if_neg Bool.false_ne_true] at ev ⊢
          have R5 := R4.wiped vs
          rw [wq] at R5
          exact ⟨acc, as, rest, δ3, hD3, fr3, R5, ha3, ev, esum, hz⟩
        | true =>
          rw [if_pos rfl] at ev ⊢
          refine ⟨F', G', δ3, R4, ?_⟩
          cases ef : f δ3 with
          | err c => rw [ef] at ev; cases ev
          | bad => rw [ef] at ev; cases ev
          | ok q =>
            obtain ⟨y, δ4⟩ := q
            rw [ef, Res.bind_ok] at ev
            intro v H4 f4 R5 hv
            have hD4 := keepD f4 hD3
            have ha4 := ha3.mono f4.hide
            have fr4 := frG fr3 f4
            cases er2 : vLcL g t f vs (ds.drop (i + 1)) δ4 with
            | err c => rw [er2] at ev; cases ev
            | bad => rw [er2] at ev; cases ev
            | ok r =>
              rw [er2, Res.bind_ok] at ev
              by_cases c2 : r.1.length < sizeLine
              · rw [if_pos c2] at ev
                cases ev
                rw [List.length_cons] at hz
                have la := ha4.length
                obtain ⟨R6, S6⟩ := R5.upD (o' := .lst (acc ++ [v])) hF'D hD4
                have R7 := R6.wiped vs
                rw [wq] at R7
                refine ⟨acc, hD4, by omega, acc ++ [v], as ++ [y], r.1, δ4, upd_same, fun b o e n => ?_, R7, (ha4.mono S6).append (.cons (hv.mono S6) .nil), er2, by rw [List.append_assoc] <;> exact esum, ?_⟩
                · rw [upd_ne (ne_of_none e nD)]
                  exact fr4 b o e n
                · rw [List.length_append, List.length_singleton]
                  omega
              · rw [if_neg c2] at ev; cases ev
  · rintro H ⟨acc, as, rest, δ', hD, fr, R, ha, ev, esum, hz⟩
    rw [List.drop_length, vLcL] at ev
    cases ev
    rw [List.append_nil] at esum
    subst esum
    have R' : Rep X.K F G H (wipe σ vs) (wipeD δ' vs) := R.less R1.sub
    have S : Same (hide G' H) (hide G H) := hide_same (fun b z => .inl (.inl z)) fun b o e _ => e
    exact hQ H acc fr (R1.back R' fr hfr) (hide_of nG hD) (ha.mono S)
/-- tests of a comprehension -/
def DTs (X : Cx) (es : List Expr) (t : EvT) : Prop := PTs X es (tDT X W0 t)
theorem PTs_imp {X : Cx} {es : List Expr} {t t' : TT} (h : PTs X es t) (i : ∀ σ H Q, t' σ H Q → t σ H Q) : PTs X es t' := ⟨fun pins s σ H Q I q => h.run pins s σ H Q I (i _ _ _ q)⟩
def vTrue : EvT := fun δ => .ok (true, δ)
theorem dts_nil : DTs X [] vTrue := PTs_imp pts_nil fun σ H Q ⟨F, G, δ, R, p⟩ => p H Fr.refl R
theorem dts_one {c : Expr} {t : EvT} (h : DT X W0 c t) : DTs X [c] t := PTs_imp (pts_one h) fun σ H Q h => h
theorem noErrA_ok {r : Res (List PyData × DSt)} {x : List PyData × DSt} (h : noErrA r = .ok x) : r = .ok x := by
  cases r with
  | ok y => exact h
  | err c => cases h
  | bad => cases h
/-- the reading of a comprehension -/
theorem tLc_data {wi : EvA} {g : PyData → DSt → Res DSt} {t : EvT} {f : EvE} {vs ts : List Nat} (hts : ∀ j ∈ ts, j ∈ vs) {σ : L2.St} {H : Hp} {Q : VK}
    (h : ∃ F G δ, Rep X.K F G H σ δ ∧ ∃ rs δ', vLcA wi g t f vs δ = .ok (rs, δ') ∧ ∀ H' D acc, Fr F G H H' → Rep X.K F G H' σ δ' → H D = none → hide G H' D = some (.lst acc) → DqAll X.K (hide G H') acc rs → Q (.ref D) H') :
    tLc (tDI X W wi) (tDG X g ts) (tDT X W0 t) (tD X W0 f) vs σ H Q := by
  obtain ⟨F, G, δ, R, rs, δ', ev, hQ⟩ := h
  unfold vLcA at ev
  by_cases c1 : freeOf δ vs = true
  · rw [if_pos c1] at ev
    refine ⟨F, G, δ, R, ?_⟩
    cases ei : wi δ with
    | err c => rw [ei] at ev; cases ev
    | bad => rw [ei] at ev; cases ev
    | ok x =>
      obtain ⟨ds, δ1⟩ := x
      rw [ei, Res.bind_ok] at ev
      by_cases c2 : freeOf δ1 vs = true
      · rw [if_pos c2] at ev
        cases el : noErrA (vLcL g t f vs ds δ1) with
        | err c => rw [el] at ev; cases ev
        | bad => rw [el] at ev; cases ev
        | ok r =>
          rw [el, Res.bind_ok] at ev
          cases ev
          intro J H1 f1 R1 wk D nD
          refine lc_data wk R1 c2 nD hts (noErrA_ok el) fun H' acc fr R' hD ha => hQ H' D acc (f1.trans fr) R' ?_ hD ha
          cases q : H D with
          | none => rfl
          | some o =>
            by_cases gD : F D ∨ ¬ G D
            · rw [f1 D o q gD] at nD; cases nD
            · have gD' : G D := Classical.byContradiction fun z => gD (.inr z)
              exact absurd nD (R1.vis D gD')
      · rw [if_neg c2] at ev; cases ev
  · rw [if_neg c1] at ev; cases ev
variable {elt tg iter : Expr} {ifs : List Expr} {scope : Scope} {own : List (Str × Nat)} {pos : Pos} {wi : EvA} {g : PyData → DSt → Res DSt} {ts : List Nat} {t : EvT} {f : EvE}
/-- [e for x in it if t]; nothing in it raises -/
def vComp (wi : EvA) (g : PyData → DSt → Res DSt) (t : EvT) (f : EvE) (vs : List Nat) : EvE := fun δ => (noErr (vLcA wi g t f vs δ)).bind fun p => .ok (.list p.1, p.2)
theorem de_lc (own : List (Str × Nat)) (hc : X.calm = true) (hN : X.N.Nodup) (hi : DI X W tg iter wi) (ok : blkC X.N X.env.scope scope own = true) (hts : ∀ j ∈ ts, j ∈ own.map (·.2))
    (hg : ∀ (s : Shared) (H : Hp) (C : Addr) (cl : List (Str × Addr)) (fp : List Addr), DG (X.blk s H scope (compEnvC scope cl C X.env) fp) tg g ts) (ht : ∀ (s : Shared) (H : Hp) (C : Addr) (cl : List (Str × Addr)) (fp : List Addr), DTs (X.blk s H scope (compEnvC scope cl C X.env) fp) ifs t)
    (he : ∀ (s : Shared) (H : Hp) (C : Addr) (cl : List (Str × Addr)) (fp : List Addr), DE (X.blk s H scope (compEnvC scope cl C X.env) fp) W0 elt f) (hs : ∀ x, foldedSetIterable iter X.env x = pure x := by intro _; rfl) :
    DE X W (.ListComp elt [⟨tg, iter, ifs, 0⟩] scope pos) (vComp wi g t f (own.map (·.2))) := by
  refine PE_imp (pe_lc (g := tDG X g ts) (tt := tDT X W0 t) (te := tD X W0 f) hc hN hi (blkOk_by ok) hg ht he hs) fun σ H Q ⟨F, G, δ, R, p⟩ => tLc_data hts ⟨F, G, δ, R, ?_⟩
  unfold vComp at p
  cases e : vLcA wi g t f (own.map (·.2)) δ with
  | err c => rw [e] at p; exact p.elim
  | bad => rw [e] at p; exact p.elim
  | ok r =>
    rw [e] at p
    exact ⟨r.1, r.2, rfl, fun H' D acc fr R' nD hD ha => p _ H' fr R' (.lst hD ha)⟩
/-- name = [.. for ..] on one line, as data -/
theorem ds_setLc {i : Nat} {y : Str} {py spos : Pos} (own : List (Str × Nat)) (hc : X.calm = true) (hN : X.N.Nodup) (hi : DI X W tg iter wi) (ok : blkC X.N X.env.scope scope own = true) (hts : ∀ j ∈ ts, j ∈ own.map (·.2))
    (hg : ∀ (s : Shared) (H : Hp) (C : Addr) (cl : List (Str × Addr)) (fp : List Addr), DG (X.blk s H scope (compEnvC scope cl C X.env) fp) tg g ts) (ht : ∀ (s : Shared) (H : Hp) (C : Addr) (cl : List (Str × Addr)) (fp : List Addr), DTs (X.blk s H scope (compEnvC scope cl C X.env) fp) ifs t)
    (he : ∀ (s : Shared) (H : Hp) (C : Addr) (cl : List (Str × Addr)) (fp : List Addr), DE (X.blk s H scope (compEnvC scope cl C X.env) fp) W0 elt f) (hy : X.N[i]? = some y := by rfl) (hyl : X.env.scope.names.lookup y = some .local := by rfl)
    (hsw : swapsWith (.ListComp elt [⟨tg, iter, ifs, 0⟩] scope pos) (some (.Name y py)) spos.line X.env = pure true := by exact sw_true rfl rfl rfl (by decide +kernel)) (hs : ∀ x, foldedSetIterable iter X.env x = pure x := by intro _; rfl) :
    DS X W (.Assign [.Name y py] (.ListComp elt [⟨tg, iter, ifs, 0⟩] scope pos) spos) (vSet i (vComp wi g t f (own.map (·.2)))) := by
  refine PS_imp (ps_setLc (g := tDG X g ts) (tt := tDT X W0 t) (te := tD X W0 f) hc hN hy hyl hsw hi (blkOk_by ok) hg ht he hs) fun D σ H ⟨F, G, δ, R, p⟩ => tLc_data hts ⟨F, G, δ, R, ?_⟩
  unfold vSet at p
  cases e : vLcA wi g t f (own.map (·.2)) δ with
  | err c =>
    have e2 : vComp wi g t f (own.map (·.2)) δ = .bad := by unfold vComp; rw [e] <;> rfl
    rw [e2, chk0_bad] at p
    exact p.elim
  | bad =>
    have e2 : vComp wi g t f (own.map (·.2)) δ = .bad := by unfold vComp; rw [e] <;> rfl
    rw [e2, chk0_bad] at p
    exact p.elim
  | ok r =>
    have e2 : vComp wi g t f (own.map (·.2)) δ = .ok (.list r.1, r.2) := by unfold vComp; rw [e] <;> rfl
    rw [e2] at p
    refine ⟨r.1, r.2, rfl, fun H' L acc fr R' nD hD ha => ?_⟩
    cases q : chk0 δ (Res.ok (PyData.list r.1, r.2)) with
    | err c =>
      unfold chk0 at q
      split at q
      · dsimp only at q
        split at q <;> cases q
      · cases q
    | bad => rw [q] at p; exact p.elim
    | ok z =>
      obtain ⟨z, δz⟩ := z
      obtain ⟨h1, h2⟩ := chk0_ok q
      cases h1
      rw [q] at p
      have s : SF F G G H H' σ σ δ r.2 := ⟨fr, fun _ z => .inl z, fun ds e => ⟨rfl, h2 ds e⟩⟩
      exact post_set R' (.lst hD ha) (PostS.step p s)
end
end DL
set_option Elab.async false
set_option linter.all false
set_option maxRecDepth 100000
set_option maxHeartbeats 2000000
namespace DL
open PySem PySem.Spec L2
/-! ### defs -/
def startD (n : Nat) (ds : List PyData) : DSt := ds.map Sl.d ++ List.replicate (n - ds.length) .no
def endP : Res (Flw × DSt) → Res PyData
  | .ok (.rt d, _) => .ok d
  | .ok (.rn ds, _) => .ok (.tuple ds)
  | .ok (.nx, _) => .ok .none
  | .ok _ => .bad
  | .err c => .err c
  | .bad => .bad
def runP (n m : Nat) (b : EvS) : List PyData → Res PyData := fun ds => if ds.length = m then endP (b (startD n ds)) else .bad
def endM : Res (Flw × DSt) → Res (PyData × List PyData)
  | .ok (.rt d, δ) => (match δ[(0 : Nat)]? with
    | some (.own ls) => .ok (d, ls)
    | _ => .bad)
  | .ok (.nx, δ) => (match δ[(0 : Nat)]? with
    | some (.own ls) => .ok (.none, ls)
    | _ => .bad)
  | .ok _ => .bad
  | .err c => .err c
  | .bad => .bad
def runM (n m : Nat) (b : EvS) : List PyData → List PyData → Res (PyData × List PyData) := fun ls ds => if ds.length + 1 = m then endM (b (.own ls :: startD (n - 1) ds)) else .bad
/-- a def of the module as the top has left it -/
structure DefAt (K : PySem.W.Frag) (mg : Str → Option Value) (x : Str) (st : Stmt) (ps : List Str) : Prop where
  ex : ∃ f fd, Fun K x x st f fd ∧ mg x = some (.ref f) ∧ Binds K fd ps []
theorem startD_at {K : PySem.W.Frag} {H : Hp} {N : List Str} {vs : List V} {ds : List PyData} (h : DqAll K H vs ds) (i : Nat) (s : Sl) (e : (startD N.length ds)[i]? = some s) : s = .no ∨ ∃ d v, s = .d d ∧ ds[i]? = some d ∧ vs[i]? = some v ∧ (L2.start N vs)[i]? = some (some v) ∧ Dq K H v d := by
  unfold startD at e
  by_cases c : i < ds.length
  · rw [List.getElem?_append_left (by rw [List.length_map]; exact c), List.getElem?_map] at e
    cases q : ds[i]? with
    | none => rw [q] at e; cases e
    | some d =>
      rw [q] at e
      cases e
      obtain ⟨v, h1, h2⟩ := h.get q
      refine .inr ⟨d, v, rfl, rfl, h1, ?_, h2⟩
      unfold L2.start
      rw [List.getElem?_append_left (by rw [List.length_map, h.length]; exact c), List.getElem?_map, h1] <;> rfl
  · rw [List.getElem?_append_right (by rw [List.length_map]; omega), List.getElem?_replicate] at e
    split at e
    · cases e; exact .inl rfl
    · cases e
theorem startD_len {N : List Str} {ds : List PyData} (h : ds.length ≤ N.length) : (startD N.length ds).length = N.length := by
  unfold startD
  rw [List.length_append, List.length_map, List.length_replicate]
  omega
theorem start_len {N : List Str} {vs : List V} (h : vs.length ≤ N.length) : (L2.start N vs).length = N.length := by
  unfold L2.start
  rw [List.length_append, List.length_map, List.length_replicate]
  omega
theorem Rep.start {K : PySem.W.Frag} {F : Addr → Prop} {H : Hp} {N : List Str} {vs : List V} {ds : List PyData} (vis : ∀ b, F b → H b ≠ none) (h : DqAll K (hide F H) vs ds) (hl : ds.length ≤ N.length) : Rep K F F H (L2.start N vs) (startD N.length ds) where
  sub := fun _ z => z
  vis := vis
  len := by rw [startD_len hl, start_len (by rw [h.length]; exact hl)]
  dat := fun i d e => by
    rcases startD_at (N := N) h i _ e with z | ⟨d', v, z, _, _, h3, h4⟩
    · cases z
    · cases z; exact ⟨v, h3, h4⟩
  tn := fun i d e => by
    rcases startD_at (N := N) h i _ e with z | ⟨d', v, z, _, _, h3, h4⟩ <;> cases z
  ow := fun i d e => by
    rcases startD_at (N := N) h i _ e with z | ⟨d', v, z, _, _, h3, h4⟩ <;> cases z
  inj := fun i j ds' es a e1 => by
    rcases startD_at (N := N) h i _ e1 with z | ⟨d', v, z, _, _, h3, h4⟩ <;> cases z
  ob := fun i od e => by
    rcases startD_at (N := N) h i _ e with z | ⟨d', v, z, _, _, h3, h4⟩ <;> cases z
  obj := fun i j od oe a e1 => by
    rcases startD_at (N := N) h i _ e1 with z | ⟨d', v, z, _, _, h3, h4⟩ <;> cases z
section
variable {P : Program} {w : World} {K : PySem.W.Frag} {mg : Str → Option Value} {base : Heap}
theorem FnScope.le {N ps : List Str} {sc : Scope} (S : FnScope N ps sc) : ps.length ≤ N.length := by
  have := congrArg List.length S.pre
  rw [List.length_take] at this
  omega
/-- a def that may raise, where nothing is handled: what it raises has no context -/
theorem okN {x qual : Str} {st : Stmt} {f : Addr} {fd : FuncData} {N ps : List Str} {k : Nat} {sp : Sp} (F : Fun K x qual st f fd) (S : FnScope N ps (defScope st)) (len : ∀ vs H Q E, sp vs H Q E → vs.length = ps.length)
    (body : ∀ (cdv : Value) (A : Around) (outer : List Env) (s : Shared) (H : Hp) (vs : List V) (Q : VK) (E : XK), Room k (A.deeper (PyProof.Rows.envOfC qual (defScope st) s.heap.objs.size f cdv)) → sp vs H Q E →
      ∃ t, PSs (cxOf (L2N.CX P w) P w K mg base N qual (defScope st) f cdv A outer s H E) (defBody st) t ∧ t { nx := fun _ H' => Q .non H', rt := Q } (L2.start N vs) H) : FnOk P w K mg base (L2N.CX P w) (k + 1) f fd ps sp := by
  obtain ⟨_, _, _, _, _, _, cdv, _, _, e, lk, hc⟩ := F.ex
  subst e
  exact fn_of lk hc S len fun A o s H vs Q E r q => body cdv A o s H vs Q E r q
/-- a def of plain data, by its body -/
theorem def_p {x : Str} {st : Stmt} {ps N : List Str} {k : Nat} {b : EvS} {n m : Nat} (A : DefAt K mg x st ps) (S : FnScope N ps (defScope st)) (hn : N.length = n) (hm : ps.length = m)
    (hb : ∀ (cdv : Value) (f : Addr) (A : Around) (outer : List Env) (s : Shared) (H : Hp) (E : XK), Room k (A.deeper (PyProof.Rows.envOfC x (defScope st) s.heap.objs.size f cdv)) →
      DSs (cxOf (L2N.CX P w) P w K mg base N x (defScope st) f cdv A outer s H E) (fun cls d _ H => E cls d H) (defBody st) b) :
    Cal P w K mg base x (k + 1) (spP K mg (runP n m b)) := by
  subst hn hm
  obtain ⟨f, fd, F, hm, hB⟩ := A.ex
  refine ⟨f, fd, ps, ?_, hm, F.kp, hB⟩
  refine okN F S (fun vs H Q E ⟨G, ds, _, h, p⟩ => ?_) (fun cdv A outer s H vs Q E hr ⟨G, ds, vis, h, p⟩ => ⟨_, hb cdv f A outer s H E hr, ?_⟩)
  · unfold runP at p
    by_cases c : ds.length = ps.length
    · rw [h.length]; exact c
    · rw [if_neg c] at p; exact p.elim
  · unfold runP at p
    by_cases c : ds.length = ps.length
    · rw [if_pos c] at p
      refine ⟨G, G, startD N.length ds, Rep.start (N := N) vis h (by rw [c]; exact FnScope.le S), ?_⟩
      have same : ∀ {G' : Addr → Prop} {H' : Hp} {σ' : L2.St} {δ' : DSt}, SF G G G' H H' (L2.start N vs) σ' (startD N.length ds) δ' → Same H H' := fun {G' H' σ' δ'} s b o e => s.fr b o e (Classical.em (G b) |>.elim .inl .inr)
      cases e : b (startD N.length ds) with
      | ok r =>
        obtain ⟨fl, δ1⟩ := r
        rw [e] at p
        cases fl with
        | rt d => exact fun v σ' H' G' s R hv => p v H' (same s) (hv.mono (hide_same (fun b z => .inl (R.sub b z)) fun b o e _ => e))
        | rn ds => exact fun a o vs σ' H' G' s R h1 h2 h3 => p (.ref a) H' (same s) ((Dq.tup (.inl (.inr ⟨o, h1⟩)) h3).mono (hide_same (fun b z => .inl (R.sub b z)) fun b o e _ => e))
        | nx => exact fun σ' H' G' s R => p .non H' (same s) .non
        | bk => exact p.elim
        | ct => exact p.elim
      | err c => rw [e] at p; exact fun C σ' H' hC fr => p C H' hC fun b o e => fr b o e (Classical.em (G b) |>.elim .inl .inr)
      | bad => rw [e] at p; exact p.elim
    · rw [if_neg c] at p; exact p.elim
/-- a def that is lent a list first -/
theorem def_m {x : Str} {st : Stmt} {ps N : List Str} {k : Nat} {b : EvS} {n m : Nat} (A : DefAt K mg x st ps) (S : FnScope N ps (defScope st)) (hn : N.length = n) (hm : ps.length = m)
    (hb : ∀ (cdv : Value) (f : Addr) (A : Around) (outer : List Env) (s : Shared) (H : Hp) (E : XK), Room k (A.deeper (PyProof.Rows.envOfC x (defScope st) s.heap.objs.size f cdv)) →
      DSs (cxOf (L2N.CX P w) P w K mg base N x (defScope st) f cdv A outer s H E) (fun cls d _ H => E cls d H) (defBody st) b) :
    Cal P w K mg base x (k + 1) (spM K mg (runM n m b)) := by
  subst hn hm
  obtain ⟨f, fd, F, hm, hB⟩ := A.ex
  refine ⟨f, fd, ps, ?_, hm, F.kp, hB⟩
  refine okN F S (fun vs H Q E ⟨G, a, xs, ls, us, ds, ev, _, _, _, _, h, p⟩ => ?_) (fun cdv A outer s H vs Q E hr ⟨G, a, xs, ls, us, ds, ev, vis, nG, ha, hx, h, p⟩ => ⟨_, hb cdv f A outer s H E hr, ?_⟩)
  · unfold runM at p
    by_cases c : ds.length + 1 = ps.length
    · rw [ev, List.length_cons, h.length]; exact c
    · rw [if_neg c] at p; exact p.elim
  · subst ev
    unfold runM at p
    by_cases c : ds.length + 1 = ps.length
    · rw [if_pos c] at p
      have hle := FnScope.le S
      -- the state at the entry: slot 0 is the list
      have hN : ∃ n N', N = n :: N' := by
        cases N with
        | nil =>
          have z : ps.length ≤ 0 := hle
          omega
        | cons n N' => exact ⟨n, N', rfl⟩
      obtain ⟨n, N', rfl⟩ := hN
      have est : L2.start (n :: N') (V.ref a :: us) = some (V.ref a) :: L2.start N' us := by
        unfold L2.start
        rw [List.length_cons, List.length_cons, Nat.add_sub_add_right] <;> rfl
      have vis' : ∀ b, (G b ∨ b = a) → H b ≠ none := fun b z => by
        rcases z with z | z
        · exact vis b z
        · rw [z, ha]; exact fun q => by cases q
      have hl' : ds.length ≤ N'.length := by rw [List.length_cons] at hle; omega
      have R0 : Rep K (fun b => G b ∨ b = a) (fun b => G b ∨ b = a) H (L2.start N' us) (startD N'.length ds) := Rep.start (N := N') vis' h hl'
      have R : Rep K G (fun b => G b ∨ b = a) H (L2.start (n :: N') (V.ref a :: us)) (.own ls :: startD N'.length ds) := by
        rw [est]
        refine ⟨fun b z => .inl z, vis', ?_, fun i d e => ?_, fun i d e => ?_, fun i d e => ?_, fun i j d1 d2 b e1 e2 e3 e4 => ?_, fun i od e => ?_, fun i j od oe b e1 e2 e3 e4 => ?_⟩
        · rw [List.length_cons, List.length_cons, R0.len]
        · cases i with
          | zero => cases e
          | succ i => exact R0.dat i d e
        · cases i with
          | zero => cases e
          | succ i => exact R0.tn i d e
        · cases i with
          | zero => cases e; exact ⟨a, xs, rfl, .inr rfl, nG, ha, hx⟩
          | succ i =>
            have e' : (startD N'.length ds)[i]? = some (.own d) := e
            rcases startD_at (N := N') h i _ e' with z | ⟨d', v, z, _, _, h3, h4⟩ <;> cases z
        · have no : ∀ (i : Nat) (d : List PyData), (startD N'.length ds)[i]? = some (.own d) → False := fun i d e' => by
            rcases startD_at (N := N') h i _ e' with z | ⟨d', v, z, _, _, h3, h4⟩ <;> cases z
          cases i with
          | zero =>
            cases j with
            | zero => rfl
            | succ j => exact (no j d2 e2).elim
          | succ i => exact (no i d1 e1).elim
        · cases i with
          | zero => cases e
          | succ i =>
            have e' : (startD N'.length ds)[i]? = some (.ob od) := e
            rcases startD_at (N := N') h i _ e' with z | ⟨d', v, z, _, _, h3, h4⟩ <;> cases z
        · cases i with
          | zero => cases e1
          | succ i =>
            have e' : (startD N'.length ds)[i]? = some (.ob od) := e1
            rcases startD_at (N := N') h i _ e' with z | ⟨d', v, z, _, _, h3, h4⟩ <;> cases z
      refine ⟨G, _, _, R, ?_⟩
      have fin : ∀ {G' : Addr → Prop} {H' : Hp} {σ' : L2.St} {δ' : DSt} {ls' : List PyData}, SF G (fun b => G b ∨ b = a) G' H H' (L2.start (n :: N') (V.ref a :: us)) σ' (.own ls :: startD N'.length ds) δ' → Rep K G G' H' σ' δ' → δ'[(0 : Nat)]? = some (.own ls') →
          ∃ xs', Fr G (fun b => G b ∨ b = a) H H' ∧ H' a = some (.lst xs') ∧ DqAll K (hide (fun b => G b ∨ b = a) H') xs' ls' ∧ Same (hide G' H') (hide (fun b => G b ∨ b = a) H') := fun {G' H' σ' δ' ls'} s R' e0 => by
        obtain ⟨k1, _⟩ := s.keep0 ls rfl
        obtain ⟨a', xs', h1, h2, h3, h4, h5⟩ := R'.ow 0 ls' e0
        rw [k1, est] at h1
        cases h1
        have S : Same (hide G' H') (hide (fun b => G b ∨ b = a) H') := hide_same (fun b z => .inl (z.elim (R'.sub b) fun q => q ▸ h2)) fun b o e _ => e
        exact ⟨xs', s.fr, h4, h5.mono S, S⟩
      cases e : b (.own ls :: startD N'.length ds) with
      | ok r =>
        obtain ⟨fl, δ1⟩ := r
        have e' : b (.own ls :: startD ((n :: N').length - 1) ds) = .ok (fl, δ1) := e
        rw [e'] at p
        cases fl with
        | rt d =>
          intro v σ' H' G' s R' hv
          have p' : match (match δ1[(0 : Nat)]? with | some (.own ls) => Res.ok (d, ls) | _ => .bad) with
            | .ok (d, ls') => ∀ v H' xs', Fr G (fun b => G b ∨ b = a) H H' → H' a = some (.lst xs') → DqAll K (hide (fun b => G b ∨ b = a) H') xs' ls' → Dq K (hide (fun b => G b ∨ b = a) H') v d → Q v H'
            | .err c => ∀ C H', mg c = some (.ref C) → Fr G (fun b => G b ∨ b = a) H H' → E (.ref C) none H'
            | .bad => False := p
          cases e0 : δ1[(0 : Nat)]? with
          | none => rw [e0] at p'; exact p'.elim
          | some sl =>
            rw [e0] at p'
            cases sl with
            | own ls' =>
              obtain ⟨xs', f, ha', hx', S⟩ := fin s R' e0
              exact p' v H' xs' f ha' hx' (hv.mono S)
            | no => exact p'.elim
            | d y => exact p'.elim
            | tn y => exact p'.elim
            | ob y => exact p'.elim
        | nx =>
          intro σ' H' G' s R'
          have p' : match (match δ1[(0 : Nat)]? with | some (.own ls) => Res.ok (PyData.none, ls) | _ => .bad) with
            | .ok (d, ls') => ∀ v H' xs', Fr G (fun b => G b ∨ b = a) H H' → H' a = some (.lst xs') → DqAll K (hide (fun b => G b ∨ b = a) H') xs' ls' → Dq K (hide (fun b => G b ∨ b = a) H') v d → Q v H'
            | .err c => ∀ C H', mg c = some (.ref C) → Fr G (fun b => G b ∨ b = a) H H' → E (.ref C) none H'
            | .bad => False := p
          cases e0 : δ1[(0 : Nat)]? with
          | none => rw [e0] at p'; exact p'.elim
          | some sl =>
            rw [e0] at p'
            cases sl with
            | own ls' =>
              obtain ⟨xs', f, ha', hx', S⟩ := fin s R' e0
              exact p' .non H' xs' f ha' hx' .non
            | no => exact p'.elim
            | d y => exact p'.elim
            | tn y => exact p'.elim
            | ob y => exact p'.elim
        | rn ds => exact p.elim
        | bk => exact p.elim
        | ct => exact p.elim
      | err c =>
        have e' : b (.own ls :: startD ((n :: N').length - 1) ds) = .err c := e
        rw [e'] at p
        exact fun C σ' H' hC fr => p C H' hC fr
      | bad =>
        have e' : b (.own ls :: startD ((n :: N').length - 1) ds) = .bad := e
        rw [e'] at p
        exact p.elim
    · rw [if_neg c] at p; exact p.elim
/-- a promise never asked -/
theorem Cal.mono {x : Str} {j k : Nat} {sp : Sp} (C : Cal P w K mg base x j sp) (h : j ≤ k) : Cal P w K mg base x k sp := by
  obtain ⟨f, fd, ps, F, r⟩ := C.ex
  exact ⟨f, fd, ps, F.mono h, r⟩
theorem cal_bad {x : Str} {st : Stmt} {ps : List Str} (A : DefAt K mg x st ps) (k : Nat) : Cal P w K mg base x k (spP K mg fun _ => .bad) := by
  obtain ⟨f, fd, F, hm, hB⟩ := A.ex
  refine ⟨f, fd, ps, ⟨fun vs H Q E ⟨_, _, _, _, z⟩ => z.elim, fun A outer s H args us vs Q E _ _ _ _ ⟨_, _, _, _, z⟩ => z.elim⟩, hm, F.kp, hB⟩
theorem cal_badM {x : Str} {st : Stmt} {ps : List Str} (A : DefAt K mg x st ps) (k : Nat) : Cal P w K mg base x k (spM K mg fun _ _ => .bad) := by
  obtain ⟨f, fd, F, hm, hB⟩ := A.ex
  refine ⟨f, fd, ps, ⟨fun vs H Q E ⟨_, _, _, _, _, _, _, _, _, _, _, _, z⟩ => z.elim, fun A outer s H args us vs Q E _ _ _ _ ⟨_, _, _, _, _, _, _, _, _, _, _, _, z⟩ => z.elim⟩, hm, F.kp, hB⟩
end
theorem rr {j k : Nat} {A : Around} (r : Room k A) (h : j ≤ k := by first | decide | omega) : Room j A := r.mono h
theorem hu64 {k : Nat} {A : Around} (r : Room k A) : A.units + 64 < cLine := r.units
theorem hu65 {k : Nat} {A : Around} (r : Room k A) : A.units + 65 < cLine := by have := r.un; omega
/-- an own class of errors, without a text of its own, over ValueError -/
structure ExcAt (K : PySem.W.Frag) (mg : Str → Option Value) (x : Str) : Prop where
  ex : ∃ C, mg x = some (.ref C) ∧ PySem.W.excIn K C [.type "ValueError", .type "Exception", .type "BaseException", .type "object"] "ValueError.__new__" = true ∧ PySem.W.keepIn K (.ref C) = true ∧
    PySem.W.subIn K (.ref C) (.type "BaseException") = some true ∧ PySem.W.typeIn K (.ref C) = some (.type "type")
theorem ds_raiseX {X : Cx} {W : WX} {c m : Str} {j : Nat} {p p2 pos pos2 : Pos} (hc : X.calm = true) (tk : L2N.Takes X W) (E : ExcAt X.K X.mg c) (hg : Gl X c := by rfl) (hdb : (c == ("__debug__" : Str)) = false := by decide) :
    DS X W (.Raise (some (.Call (.Name c p) [.Constant (.str m) j p2] [] pos)) none pos2) (vRaise c) := by
  obtain ⟨C, hm, h1, h2, h3, h4⟩ := E.ex
  exact ds_raise hc tk hm (L2N.pmk_own PySem.F.excBase_ValueError h1 hm h2 (raises_own h3 h4) hg hdb)
end DL
set_option Elab.async false
set_option linter.all false
set_option maxRecDepth 100000
set_option maxHeartbeats 2000000
namespace DL
open PySem PySem.Spec PyProof.Rows L2
open Sem (wp)
/-! ### enumerate over anything that begins -/
theorem rangeD_len (n : Nat) : (rangeD n).length = n := by unfold rangeD; rw [List.length_map, List.length_range]
/-! sorted of a tuple -/
end DL
set_option Elab.async false
set_option linter.all false
set_option maxRecDepth 100000
set_option maxHeartbeats 4000000
namespace DL
open PySem PySem.Spec PyProof.Rows L2
open Sem (wp)
/-! ### a set of texts -/
def keyS (e : Int × Value) : Str := match e.2 with | .str k _ => k | _ => Str.empty
def GoodS (w : World) (e : Int × Value) : Prop := ∃ k tk, e.2 = Value.str k tk ∧ e.1 = hashStr w k
/-- the set of texts at a: S its members; its table rises and can be walked -/
def SetS (w : World) (h : Heap) (a : Addr) (S : Str → Bool) (n : Nat) : Prop :=
  ∃ o es ep t, h.get? a = some o ∧ o.ExactSet ∧ o.data = .set es ep t ∧ (∀ e ∈ es.toList, GoodS w e) ∧ (es.toList.map keyS).Nodup ∧ (∀ k, S k = true ↔ k ∈ es.toList.map keyS) ∧
    es.size < scanBound ∧ t.fits es.size = true ∧ es.size = n ∧ Ris t.place.toList ∧ (w.params.followText "set-order" = true ∨ t.led = true)
section
variable {P : Program} {w : World} {h h' : Heap} {a : Addr} {S : Str → Bool} {n : Nat}
theorem SetS.at (R : SetS w h a S n) (k : ∀ o, h.get? a = some o → h'.get? a = some o) : SetS w h' a S n := by
  obtain ⟨o, es, ep, t, ho, r⟩ := R
  exact ⟨o, es, ep, t, k o ho, r⟩
theorem SetS.congr {S' : Str → Bool} (R : SetS w h a S n) (e : ∀ k, S' k = S k) : SetS w h a S' n := by
  have q : S' = S := funext e
  rw [q]; exact R
theorem goodS_elems {l : List (Int × Value)} (g : ∀ e ∈ l, GoodS w e) : ElemsOf (PySem.strKind P w) l := fun e he => by
  obtain ⟨k, tk, h1, h2⟩ := g e he
  exact ⟨⟨k, by rw [h1]; exact strKind_is P w k tk, h2⟩, by rw [h1] <;> rfl⟩
theorem goodS_is {e : Int × Value} (g : GoodS w e) (k : Str) : (PySem.strKind P w).is k e.2 = true ↔ keyS e = k := by
  obtain ⟨k0, tk, h1, _⟩ := g
  unfold keyS
  rw [h1]
  constructor
  · intro q
    exact (PySem.strKind P w).inj _ _ _ (strKind_is P w k0 tk) q
  · intro q
    have q' : k0 = k := q
    subst q'
    exact strKind_is P w k0 tk
theorem goodS_mem {l : List (Int × Value)} (g : ∀ e ∈ l, GoodS w e) (k : Str) : k ∈ l.map keyS ↔ ∃ e ∈ l, (PySem.strKind P w).is k e.2 = true := by
  rw [List.mem_map]
  constructor
  · rintro ⟨e, he, q⟩
    exact ⟨e, he, (goodS_is (g e he) k).2 q⟩
  · rintro ⟨e, he, q⟩
    exact ⟨e, he, (goodS_is (g e he) k).1 q⟩
end
section
variable {P : Program} {w : World} {A : Around} {E : Value → Shared → Prop} {s : Shared} {a : Addr} {S : Str → Bool} {n : Nat}
theorem setS_add_tail {g : Bool → Sem Unit} (hg : ∀ (b : Bool) (s₁ : Shared) (Q' : Unit → Shared → Prop), Q' () s₁ → wpAny (model P w) A (g b) Q' E s₁)
    {o : Obj} {es : Array (Int × Value)} {ep : Nat} {t : SetTable} (ho : s.heap.get? a = some o) (hex : o.ExactSet) (hd : o.data = .set es ep t)
    {es1 : Array (Int × Value)} {t2 : SetTable} {S' : Str → Bool} (g1 : ∀ e ∈ es1.toList, GoodS w e) (nd1 : (es1.toList.map keyS).Nodup) (m1 : ∀ k, S' k = true ↔ k ∈ es1.toList.map keyS)
    (hb1 : es1.size < scanBound) (hf2 : t2.fits es1.size = true) (hr : Ris t2.place.toList) (hl : w.params.followText "set-order" = true ∨ t2.led = true) {wasDummy : Bool} {R : Option Bool → Shared → Prop}
    (hR : ∀ h', Heap.SameBut a s.heap h' → SetS w h' a S' es1.size → R (some true) { s with heap := h' }) :
    wpAny (model P w) A (do
        storeSet a es1 t2
        if (!wasDummy && t2.tooFull) = true then do
            g (relayAll t2 es1 (SetTable.grown es1.size)).2.2
            storeSet a (relayAll t2 es1 (SetTable.grown es1.size)).1 (relayAll t2 es1 (SetTable.grown es1.size)).2.1
            pure (some true)
          else pure (some true)) R E s := by
  refine wpAny_bind (wpAny_storeSet_of ho hd ?_ (fits_of_scanBound hb1))
  have ho1 := store_at (es' := es1) (t' := t2) ho hd
  have sb1 := Heap.SameBut.update s.heap a (Obj.putSet es1 t2)
  split
  · have pm := relayAll_perm t2 es1 (SetTable.grown es1.size)
    have hf3 := relayAll_fits t2 es1 (SetTable.grown es1.size)
    have hr3 := relayAll_ris t2 es1 (SetTable.grown es1.size)
    have hl3 := relayAll_led t2 es1 (SetTable.grown es1.size)
    generalize relayAll t2 es1 (SetTable.grown es1.size) = Z at pm hf3 hr3 hl3 ⊢
    obtain ⟨es2, t3, gave⟩ := Z
    dsimp only at pm hf3 hr3 hl3 ⊢
    have hsz : es2.size = es1.size := by rw [← Array.length_toList, pm.length_eq, Array.length_toList]
    have hb2 : es2.size < scanBound := by rw [hsz]; exact hb1
    refine wpAny_bind (hg _ _ _ ?_)
    refine wpAny_bind (wpAny_storeSet_of ho1 rfl ?_ (fits_of_scanBound hb2))
    have ho2 := store_at (es' := es2) (t' := t3) ho1 rfl
    refine wpAny_pure (hR _ (sb1.trans (Heap.SameBut.update _ a _)) ?_)
    exact ⟨_, es2, _, t3, ho2, hex, rfl, fun e he => g1 e (pm.mem_iff.mp he), (pm.map keyS).nodup_iff.mpr nd1, fun k => (m1 k).trans (pm.map keyS).mem_iff.symm, hb2, hf3, hsz, hr3,
      hl.imp id fun z => by rw [hl3]; exact z⟩
  · exact wpAny_pure (hR _ sb1 ⟨_, es1, _, t2, ho1, hex, rfl, g1, nd1, m1, hb1, hf2, rfl, hr, hl⟩)
theorem setS_add_hashed {k : Str} {tk : Tok} {Q : Bool → Shared → Prop} (R : SetS w s.heap a S n) (room : n + 1 < scanBound)
    (hQ : ∀ h', Heap.SameBut a s.heap h' → SetS w h' a (fun j => S j || decide (j = k)) (if S k = true then n else n + 1) → Q (!S k) { s with heap := h' }) :
    wpAny (model P w) A (setAddHashed a (.str k tk) ((PySem.strKind P w).hash k)) Q E s := by
  obtain ⟨o, es, ep, t, ho, hex, hd, g, nd, hm, hb, hf, hn, hr, hl⟩ := R
  have hkey : (PySem.strKind P w).is k (.str k tk) = true := strKind_is P w k tk
  have hsc : (Value.str k tk).scannable = true := rfl
  have hel : ElemsOf (PySem.strKind P w) es.toList := goodS_elems g
  unfold setAddHashed setAddHashedIn
  refine wpAny_holding (wpAny_bind (wpAny_setState_of ho hd hf ?_))
  dsimp only
  rw [byScan_of hsc hb hel]
  simp only [↓reduceIte]
  unfold setAddByScan
  refine wpAny_bind ?_
  refine wpAny_bind (wpAny_rule ?_)
  refine wpAny_bind (wpAny_setScan_of hkey ho hd hf hel ?_)
  cases hfi : List.findIdx? (fun e => (PySem.strKind P w).is k e.2) es.toList with
  | some j =>
    dsimp only
    obtain ⟨hj, pj, _⟩ := List.findIdx?_eq_some_iff_getElem.mp hfi
    have hSk : S k = true := (hm k).2 ((goodS_mem (P := P) (w := w) g k).2 ⟨es.toList[j], List.getElem_mem hj, pj⟩)
    refine wpAny_pure (wpAny_pure ?_)
    have q := hQ s.heap (Heap.SameBut.refl a s.heap) ⟨o, es, ep, t, ho, hex, hd, g, nd, fun i => by
      rw [Bool.or_eq_true, decide_eq_true_eq, ← hm i]
      exact ⟨fun z => z.elim id (fun e => e ▸ hSk), .inl⟩, hb, hf, by rw [if_pos hSk]; exact hn, hr, hl⟩
    rw [hSk] at q
    exact q
  | none =>
    dsimp only
    have hnk : k ∉ es.toList.map keyS := fun z => by
      obtain ⟨e, he, q⟩ := (goodS_mem (P := P) (w := w) g k).1 z
      have c := List.findIdx?_eq_none_iff.mp hfi e he
      rw [q] at c
      cases c
    have hSk : S k = false := by
      cases q : S k with
      | false => rfl
      | true => exact absurd ((hm k).1 q) hnk
    have hgw : ∀ (b : Bool) {s₁ : Shared} {Q' : Unit → Shared → Prop}, Q' () s₁ → wpAny (model P w) A (match b with | true => rule "set.scan.the-table-gave-way" | false => pure ()) Q' E s₁ :=
      fun b s₁ Q' q => by cases b <;> first | exact wpAny_pure q | exact wpAny_rule q
    have pm := layNew_perm t es ((PySem.strKind P w).hash k) (.str k tk)
    have hf1 := layNew_fits t es ((PySem.strKind P w).hash k) (.str k tk)
    have hr1 := layNew_ris t es ((PySem.strKind P w).hash k) (.str k tk) hr
    have hl1 := layNew_led t es ((PySem.strKind P w).hash k) (.str k tk)
    generalize layNew t es ((PySem.strKind P w).hash k) (.str k tk) = Z at pm hf1 hr1 hl1 ⊢
    obtain ⟨es1, t1, wasDummy, gave⟩ := Z
    dsimp only at pm hf1 hr1 hl1 ⊢
    rw [Array.toList_push] at pm
    have pc : es1.toList.Perm (((PySem.strKind P w).hash k, Value.str k tk) :: es.toList) := pm.trans (List.perm_append_singleton _ _)
    have pk : (es1.toList.map keyS).Perm (k :: es.toList.map keyS) := pc.map keyS
    have g1 : ∀ e ∈ es1.toList, GoodS w e := fun e he => by
      rcases List.mem_cons.mp (pc.mem_iff.mp he) with z | z
      · rw [z]; exact ⟨k, tk, rfl, rfl⟩
      · exact g e z
    have nd1 : (es1.toList.map keyS).Nodup := pk.nodup_iff.mpr (List.nodup_cons.mpr ⟨hnk, nd⟩)
    have m1 : ∀ i, (S i || decide (i = k)) = true ↔ i ∈ es1.toList.map keyS := fun i => by
      rw [Bool.or_eq_true, decide_eq_true_eq, hm i, pk.mem_iff, List.mem_cons]
      exact Or.comm
    have hsz : es1.size = n + 1 := by rw [← Array.length_toList, pc.length_eq, List.length_cons, Array.length_toList, hn]
    have hb1 : es1.size < scanBound := by rw [hsz]; exact room
    have hled : w.params.followText "set-order" = true ∨ t1.led = true := hl.imp id fun z => by rw [hl1]; exact z
    have fin : ∀ h', Heap.SameBut a s.heap h' → SetS w h' a (fun j => S j || decide (j = k)) es1.size → Q true { s with heap := h' } := fun h' sb r => by
      have q := hQ h' sb
      rw [hSk] at q
      rw [hsz] at r
      exact q r
    refine wpAny_bind (hgw _ ?_)
    split
    · refine wpAny_bind ?_
      rw [hashByValue_scannable 8 hsc]
      refine wpAny_pure ?_
      refine setS_add_tail ?_ ho hex hd g1 nd1 m1 hb1 ?_ ?_ ?_ ?_
      · intro b s₁ Q' q; cases b <;> first | exact wpAny_pure q | exact wpAny_rule q
      · first | (split <;> first | exact hf1 | exact SetTable.fits_plain_off hf1) | exact hf1
      · first | (split <;> exact hr1) | exact hr1
      · first | (split <;> exact hled) | exact hled
      · intro h' sb r; dsimp only; exact wpAny_pure (fin h' sb r)
    · refine wpAny_bind (wpAny_pure ?_)
      simp only [↓reduceIte]
      refine setS_add_tail ?_ ho hex hd g1 nd1 m1 hb1 hf1 hr1 hled ?_
      · intro b s₁ Q' q; cases b <;> first | exact wpAny_pure q | exact wpAny_rule q
      · intro h' sb r; dsimp only; exact wpAny_pure (fin h' sb r)
theorem setS_fresh {h : Heap} (w : World) : SetS w (h.push { cls := .type "set", dict := none, data := .set #[] 0 (.fresh 0 0 (!w.params.followText "set-order")) }) h.objs.size (fun _ => false) 0 :=
  ⟨_, #[], 0, _, Heap.get?_push_size _ rfl, ⟨rfl, rfl, rfl⟩, rfl, (fun e he => by simp at he), (by simp), (fun k => by simp), (by decide), (by rfl), rfl, List.Pairwise.nil, by
    show _ ∨ (!w.params.followText "set-order") = true
    cases w.params.followText "set-order"
    · exact .inr rfl
    · exact .inl rfl⟩
theorem code_set_led1 (a : Value) {Q₁ : Value → Shared → Prop}
    (h : Q₁ (.ref s.heap.objs.size) { s with heap := s.heap.push { cls := .type "set", dict := none, data := .set #[] 0 (.fresh 0 0 (!w.params.followText "set-order")) } }) :
    codeAny (model P w) A (.call (.builtin "set.__new__") ⟨[.type "set", a], []⟩) (wants Q₁ E) s := by
  refine codeAny_of_tree ?_
  show wpAny _ A.in1 (do checkBuiltinCall "set.__new__" ⟨[.type "set", a], []⟩; again (.builtin "set.__new__" ⟨[.type "set", a], []⟩)) _ _ s
  refine wpAny_bind (wpAny_of_eq (PySem.F.newCall_set_1 a) (wpAny_pure ⟨plainId_quiet PySem.F.plain_set_new _, codeAny_builtin PySem.F.entry_set_new ?_⟩))
  rw [Around.under_plainId PySem.F.plain_set_new _]
  unfold Builtin.«set.__new__» Builtin.Frozenset.newClass
  have hsub := sub_set_self
  obtain ⟨hp, g, d, tk, os⟩ := s
  dsimp only
  wp_walk
  refine wpAny_askSetting (wpAny_pure ?_)
  dsimp only
  simp only [newObj]
  refine wpAny_bind (wpAny_alloc (wpAny_pure ?_))
  exact wpAny_pure h
end
/-- the signs of a text -/
def sgs (z : Str) : List Str := z.cps.toList.map fun c => (⟨#[c]⟩ : Str)
theorem sgs_len (z : Str) : (sgs z).length = z.cps.size := by unfold sgs; rw [List.length_map, Array.length_toList]
section
variable {prog : Program} {w : World} {A : Around} {R : Result → Shared → Prop} {I : Addr} {fp wr : List Addr} {G : Array GenState → Array GenState → Prop} {n : Nat} {P : Nat → Value → Prop} {St : Nat → Shared → Prop}
theorem loopSgs (W : WalksS prog w A.in1 I fp wr G n P St) (S : Addr) (hSf : S ∉ fp) (z : Str) (hsz : z.cps.size = n) (hn1 : n + 1 < scanBound)
    (hval : ∀ i v, P i v → SignAt z i v) :
    ∀ (k i m : Nat) (s : Shared), n - i = k → i ≤ n → m ≤ i → St i s →
      SetS w s.heap S (fun k' => decide (k' ∈ (sgs z).take i)) m →
      (∀ s' m', Moved (S :: wr) G s s' → m' ≤ n → SetS w s'.heap S (fun k' => decide (k' ∈ sgs z)) m' → R (.ok (.ret .none)) s') →
      codeAny (model prog w) A (.builtin "set.update.loop" ⟨[.ref S, .ref I], []⟩) R s := by
  have hSw : S ∉ wr := fun h => hSf (W.sub _ h)
  have hsub : ∀ b ∈ wr, b ∈ S :: wr := fun b hb => List.mem_cons_of_mem _ hb
  intro k
  induction k with
  | zero =>
    intro i m s hk hi hmi hst hS hR
    have hin : i = n := by omega
    subst hin
    refine codeAny_builtin PyProof.Rows.F.entry_set_update_loop ?_
    rw [Around.under_plainId PyProof.Rows.F.plain_set_update_loop _]
    show wpAny _ A.in1 (pyNext (.ref I) >>= _) _ _ s
    refine wpAny_bind (W.done s _ _ hst fun s' hm => ?_)
    show wpAny _ A.in1 (ret Value.none) _ _ s'
    refine wpAny_pure (hR s' m (hm.mono hsub) hmi ?_)
    have q := SetS.at hS (h' := s'.heap) (fun o ho => hm.heap S _ hSw ho)
    refine q.congr fun k' => ?_
    rw [List.take_of_length_le (by rw [sgs_len]; omega)]
  | succ k ih =>
    intro i m s hk hi hmi hst hS hR
    have hlt : i < n := by omega
    refine codeAny_builtin PyProof.Rows.F.entry_set_update_loop ?_
    rw [Around.under_plainId PyProof.Rows.F.plain_set_update_loop _]
    show wpAny _ A.in1 (pyNext (.ref I) >>= _) _ _ s
    refine wpAny_bind (W.item i s _ _ hlt hst fun v s' hP hst' hm => ?_)
    obtain ⟨c, t, hc, rfl⟩ := hval i v hP
    have hS' : SetS w s'.heap S (fun k' => decide (k' ∈ (sgs z).take i)) m := SetS.at hS (fun o ho => hm.heap S _ hSw ho)
    show wpAny _ A.in1 (holding [Value.str ⟨#[c]⟩ t] (setAdd S (.str ⟨#[c]⟩ t)) >>= _) _ _ s'
    refine wpAny_bind (wpAny_holding ?_)
    unfold setAdd
    refine wpAny_holding ?_
    refine wpAny_bind ((PySem.strKind prog w).pyHash (k := ⟨#[c]⟩) (strKind_is _ _ _ _) ?_)
    refine setS_add_hashed (s := { s' with toks := s'.toks + 1 }) hS' (by omega) fun h' hsb hS2 => ?_
    have hat : (sgs z)[i]? = some ⟨#[c]⟩ := by
      unfold sgs
      rw [List.getElem?_map, Array.getElem?_toList, hc] <;> rfl
    have hSi : SetS w h' S (fun k' => decide (k' ∈ (sgs z).take (i + 1))) (if (decide ((⟨#[c]⟩ : Str) ∈ (sgs z).take i)) = true then m else m + 1) := by
      refine hS2.congr fun k' => ?_
      rw [List.take_add_one, hat]
      simp only [Option.toList_some, List.mem_append, List.mem_singleton, Bool.decide_or]
    refine wpAny_pure ⟨plainId_quiet PyProof.Rows.F.plain_set_update_loop _, ih (i + 1) _ _ (by omega) hlt (by split <;> omega) (W.frame _ s' _ _ hst' (Nat.le_succ _) fun b hb o e => ?_) hSi fun s'' m'' hm'' hl'' hS'' => ?_⟩
    · rw [hsb.2 b (fun h : b = S => hSf (by rw [← h]; exact hb))]; exact e
    · refine hR s'' m'' (Moved.trans W.gtrans ((hm.mono hsub).then_heap (Nat.le_succ _) fun b o hb e => ?_) hm'') hl'' hS''
      rw [hsb.2 b (fun h : b = S => hb (by rw [h]; exact List.mem_cons_self))]; exact e
end
section
variable {prog : Program} {w : World} {A : Around} {E : Value → Shared → Prop} {s : Shared}
theorem sub_str_setD : isSubtype (.type "str") (.type "set") = pure false := by rw [isSubtype_type]; kernel_rfl
theorem sub_str_frozensetD : isSubtype (.type "str") (.type "frozenset") = pure false := by rw [isSubtype_type]; kernel_rfl
theorem walks_sgs (hh : A.handled = none) (I : Addr) (z : Str) (t : Tok) : Walks prog w A I [I] [I] z.cps.size (SignAt z) (fun i h => h.IsStrIter I (strIterType z) z t i) := by
  cases ha : z.cps.all (· < 128)
  · simp only [strIterType, ha, Bool.false_eq_true, if_false]
    exact Walks.strWide hh I z t
  · simp only [strIterType, ha, if_true]
    exact Walks.strAscii hh I z t
set_option maxHeartbeats 6400000 in
/-- set(text) -/
theorem call_set_text {z : Str} {t : Tok} {Q : Value → Shared → Prop} (hh : A.handled = none) (hn1 : z.cps.size + 1 < scanBound)
    (h : ∀ (h' : Heap) (tk m : Nat), m ≤ z.cps.size → SetS w h' s.heap.objs.size (fun k' => decide (k' ∈ sgs z)) m →
      (∀ b o, b < s.heap.objs.size → s.heap.get? b = some o → h'.get? b = some o) → Q (.ref s.heap.objs.size) { s with heap := h', toks := tk }) :
    wpAny (model prog w) A (call (.type "set") [.str z t]) Q E s := by
  obtain ⟨c, tl, hmro⟩ := PySem.F.called_set.mro
  have hmade := PySem.F.called_set.made
  have hsub := PySem.F.called_set.sub
  refine wpAny_call (codeAny_of_tree ?_)
  show wpAny _ _ (callAny (.type "set") _) _ _ _
  refine wpAny_pure ⟨Code.quiet_builtin _ (by decide +kernel), codeAny_builtin PySem.F.entry_type_call ?_⟩
  rw [Around.under_plain (weight_type_call_type "set" [.str z t] []) rfl]
  have h1 := PySem.F.called_set.notType
  have h2 := PySem.F.called_set.canCreate
  have hct := PySem.F.typeCall_set_1 (.str z t)
  repeat (any_goals (first | assumption | wp_step))
  refine codeAny_mono (code_set_led1 (.str z t) (E := E) (Q₁ := fun obj s₁ => obj = .ref s.heap.objs.size ∧ s₁ = { s with heap := s.heap.push { cls := .type "set", dict := none, data := .set #[] 0 (.fresh 0 0 (!w.params.followText "set-order")) } }) ⟨rfl, rfl⟩) fun r s₁ hr => ?_
  cases r with
  | error e => exact hr
  | ok fl =>
    cases fl with
    | ret obj =>
      obtain ⟨rfl, rfl⟩ := hr
      have hS : (s.heap.push { cls := .type "set", dict := none, data := .set #[] 0 (.fresh 0 0 (!w.params.followText "set-order")) }).get? s.heap.objs.size = some { cls := .type "set", dict := none, data := .set #[] 0 (.fresh 0 0 (!w.params.followText "set-order")) } := Heap.get?_push_size _ rfl
      have hT : Shared.TypeIs { s with heap := s.heap.push { cls := .type "set", dict := none, data := .set #[] 0 (.fresh 0 0 (!w.params.followText "set-order")) } } (.ref s.heap.objs.size) "set" := ⟨_, hS, rfl⟩
      have hli := PySem.F.called_set.init.lookup
      have hbi := PySem.F.called_set.init.bind (.ref s.heap.objs.size)
      repeat (any_goals (first | assumption | wp_step))
      refine codeAny_mono (codeAny_call_builtin (R := wants (fun r s₂ => r = .none ∧ ∃ h' tk m, s₂ = { s with heap := h', toks := tk } ∧ m ≤ z.cps.size ∧
          SetS w h' s.heap.objs.size (fun k' => decide (k' ∈ sgs z)) m ∧
          (∀ b o, b < s.heap.objs.size → s.heap.get? b = some o → h'.get? b = some o)) E) PySem.F.called_set.init.plain PySem.F.entry_set_init (check_set_init_1 hT ?_)) fun r₂ s₂ hr₂ => ?_
      · have hsls := sub_str_setD
        have hslf := sub_str_frozensetD
        have hne : (Value.type "str" == Value.type "dict") = false := by decide
        unfold Builtin.«set.__init__» noKeywords Builtin.Frozenset.updateFrom
        generalize hPI : pyIter = PI
        wp_walk
        subst hPI
        refine wpAny_pyIter_strU ?_
        refine wpAny_bind (wpAny_runValue ?_)
        have hh3 : A.in1.in1.in1.handled = none := by simp [hh]
        have hSf : s.heap.objs.size ∉ [(s.heap.push { cls := .type "set", dict := none, data := .set #[] 0 (.fresh 0 0 (!w.params.followText "set-order")) }).objs.size] := by
          rw [Heap.size_push]; simp only [List.mem_singleton]
          exact Nat.ne_of_lt (Nat.lt_succ_self _)
        refine loopSgs ((walks_sgs hh3 _ z t).toS) s.heap.objs.size
          hSf z rfl hn1 (fun _ _ h => h) (z.cps.size - 0) 0 0 _ (by omega) (Nat.zero_le _) (Nat.le_refl _)
          ⟨_, Heap.get?_push_size _ rfl, rfl, rfl⟩ ?hS0 ?hR
        case hS0 =>
          refine SetS.congr (SetS.at (setS_fresh w) fun o ho => Heap.get?_push_of_some _ ho) fun k' => ?_
          simp
        case hR =>
          intro s' m hm hlm hS'
          obtain ⟨h', g', d', tk', os'⟩ := s'
          have eg : g' = s.gens := hm.gens
          have ed : d' = s.drawn := hm.drawn
          have eo : os' = s.os := hm.os
          subst eg; subst ed; subst eo
          show wpAny _ _ _ _ _ _
          refine wpAny_pure ?_
          show wpAny _ _ (ret Value.none) _ _ _
          refine wpAny_pure ⟨rfl, h', tk', m, rfl, hlm, hS', fun b o hb e => ?_⟩
          have hb1 : b ≠ s.heap.objs.size := Nat.ne_of_lt hb
          have hb2 : b ≠ (s.heap.push { cls := .type "set", dict := none, data := .set #[] 0 (.fresh 0 0 (!w.params.followText "set-order")) }).objs.size := by
            rw [Heap.size_push]; exact Nat.ne_of_lt (Nat.lt_succ_of_lt hb)
          exact hm.heap b o (by simp only [List.mem_cons, List.mem_singleton, List.not_mem_nil, or_false, not_or]; exact ⟨hb1, hb2⟩) (Heap.get?_push_of_some _ (Heap.get?_push_of_some _ e))
      · cases r₂ with
        | error e => exact hr₂
        | ok fl₂ =>
          cases fl₂ with
          | ret r =>
            obtain ⟨rfl, h', tk, m, rfl, hlm, hS', hk'⟩ := hr₂
            repeat (any_goals (first | assumption | wp_step))
            exact h _ _ m hlm hS' hk'
          | _ => exact hr₂.elim
    | _ => exact hr.elim
/-- sorted(a set of texts) -/
theorem strs_ofS : ∀ (l : List Value), (∀ v ∈ l, ∃ k tk, v = Value.str k tk) → StrsAre l (l.map strOf)
  | [], _ => .nil
  | v :: l, h => by
    obtain ⟨k, tk, rfl⟩ := h v List.mem_cons_self
    exact .cons k tk (strs_ofS l fun u hu => h u (List.mem_cons_of_mem _ hu))
theorem sorted_setS {a : Addr} {S : Str → Bool} {n : Nat} {Q : Value → Shared → Prop} (R : SetS w s.heap a S n) (hh : A.handled = none) (hl0 : n ≤ sizeLine)
    (hQ : ∀ s' p (out : Array Value) (c : Nat) (ss : List Str), (∀ b o, s.heap.get? b = some o → s'.heap.get? b = some o) → s'.gens = s.gens → s'.os = s.os → s.heap.objs.size ≤ p →
      s'.heap.get? p = some (seqObj "list" out c) → StrsAre out.toList ss → sortedS ss = true → ss.Nodup → (∀ k, k ∈ ss ↔ S k = true) → ss.length = n → Q (.ref p) s') :
    wpAny (model prog w) A (call (.builtin "sorted") [.ref a]) Q E s := by
  obtain ⟨o, es, ep, t, ho, hex, hd, g, nd, hm, hb, hf, hn, hr, hl⟩ := R
  refine Calls.call_function_entry kind_sorted plain_sorted entry_sorted (args_sorted1 _) ?_
  unfold Builtin.«sorted»
  refine wpAny_bind (m := checkCount "sorted" 1 1 _) (wpAny_pure ?_)
  refine wpAny_bind (collect_set (A := A.in1) hh ⟨o, ho, hex.1, hd⟩ hf hb hr hl fun s1 vs k1 hz g1 o1 pm => ?_)
  have hvl : vs.length = n := by rw [pm.length_eq, List.length_map, Array.length_toList]; exact hn
  have hI : StrsAre vs (vs.map strOf) := strs_ofS vs fun v hv => by
    obtain ⟨e, he, q⟩ := List.mem_map.mp (pm.mem_iff.mp hv)
    obtain ⟨k, tk, h1, _⟩ := g e he
    exact ⟨k, tk, by rw [← q]; exact h1⟩
  have pk : (vs.map strOf).Perm (es.toList.map keyS) := by
    have q := pm.map strOf
    rw [List.map_map] at q
    refine q.trans (List.Perm.of_eq (List.map_congr_left fun e he => ?_))
    obtain ⟨k, tk, h1, _⟩ := g e he
    show strOf e.2 = keyS e
    unfold keyS
    rw [h1] <;> rfl
  refine wpAny_bind (wpAny_newList ?_ (by rw [hvl]; exact hl0))
  have hoL : (s1.heap.push (seqObj "list" vs.toArray 0)).get? s1.heap.objs.size = some (seqObj "list" vs.toArray 0) := Heap.get?_push_size _ rfl
  refine wpAny_bind (wpAny_holding (wpAny_call_entry slot_list_sort ⟨_, hoL, rfl⟩ entry_list_sort (list_sort_treeKAny strKind_oneLt hoL hI.keysOf (fun v₁ v₂ rest e => keyKind_strs (by rw [← e]; exact hI)) (by rw [hvl]; exact hl0) fun st' a1 a2 => ⟨_, rfl, ?_⟩) (args_list_sort _)))
  obtain ⟨ss', b1, b2, b3⟩ := sorted_out_str hI a1 a2
  obtain ⟨c, hc⟩ := sortedHeap_at (vs := vs) (out := (arrOf st').map (·.2)) hoL
  have pn : ss'.Perm (es.toList.map keyS) := b2.trans pk
  refine wpAny_pure ⟨_, rfl, hQ _ s1.heap.objs.size _ c ss' (fun b u e => ?_) g1 o1 hz hc b1 b3 (pn.nodup_iff.mpr nd) (fun k => by rw [pn.mem_iff, ← hm k]) ?_⟩
  · have q := k1 b u e
    have hlt := Heap.lt_size q
    show (sortedHeap (s1.heap.push (seqObj "list" vs.toArray 0)) s1.heap.objs.size vs _).get? b = some u
    rw [sortedHeap_old (Nat.ne_of_lt hlt) (by rw [size_push']; exact Nat.lt_succ_of_lt hlt)]
    exact Heap.get?_push_of_some _ q
  · rw [pn.length_eq, List.length_map, Array.length_toList]; exact hn
end
end DL
set_option Elab.async false
set_option linter.all false
set_option maxRecDepth 100000
set_option maxHeartbeats 4000000
namespace DL
open PySem PySem.Spec PyProof.Rows L2
/-! ### a text's signs in their order, each once -/
def insU (c : Nat) : List Nat → List Nat
  | [] => [c]
  | d :: r => if c < d then c :: d :: r else if c = d then d :: r else d :: insU c r
def ascU (l : List Nat) : List Nat := l.foldr insU []
theorem mem_insU (c x : Nat) : ∀ l : List Nat, x ∈ insU c l ↔ x = c ∨ x ∈ l
  | [] => by simp [insU]
  | d :: r => by
    unfold insU
    split
    · simp
    · split
      · rename_i h; subst h; simp
      · simp only [List.mem_cons, mem_insU c x r]
        constructor
        · rintro (h | h | h)
          · exact .inr (.inl h)
          · exact .inl h
          · exact .inr (.inr h)
        · rintro (h | h | h)
          · exact .inr (.inl h)
          · exact .inl h
          · exact .inr (.inr h)
theorem insU_pw (c : Nat) : ∀ l : List Nat, l.Pairwise (· < ·) → (insU c l).Pairwise (· < ·)
  | [], _ => by simp [insU]
  | d :: r, h => by
    obtain ⟨h1, h2⟩ := List.pairwise_cons.mp h
    unfold insU
    split
    · rename_i hc
      refine List.pairwise_cons.mpr ⟨fun x hx => ?_, h⟩
      rcases List.mem_cons.mp hx with e | e
      · omega
      · have := h1 x e; omega
    · split
      · exact h
      · refine List.pairwise_cons.mpr ⟨fun x hx => ?_, insU_pw c r h2⟩
        rcases (mem_insU c x r).mp hx with e | e
        · omega
        · exact h1 x e
theorem ascU_pw : ∀ l : List Nat, (ascU l).Pairwise (· < ·)
  | [] => List.Pairwise.nil
  | c :: l => insU_pw c _ (ascU_pw l)
theorem mem_ascU (x : Nat) : ∀ l : List Nat, x ∈ ascU l ↔ x ∈ l
  | [] => by simp [ascU]
  | c :: l => by
    show x ∈ insU c (ascU l) ↔ x ∈ c :: l
    rw [mem_insU, mem_ascU x l, List.mem_cons]
theorem pw_eq : ∀ {as bs : List Nat}, as.Pairwise (· < ·) → bs.Pairwise (· < ·) → (∀ x, x ∈ as ↔ x ∈ bs) → as = bs := fun {as bs} h k e =>
  List.Perm.eq_of_pairwise (le := (· < ·)) (fun a b _ _ h1 h2 => absurd (Nat.lt_trans h1 h2) (Nat.lt_irrefl _)) h k
    ((List.perm_ext_iff_of_nodup (h.imp fun {a b} z => Nat.ne_of_lt z) (k.imp fun {a b} z => Nat.ne_of_lt z)).mpr e)
def oneS (c : Nat) : Str := ⟨#[c]⟩
theorem sgs_one (z : Str) : sgs z = z.cps.toList.map oneS := rfl
theorem oneS_inj {c d : Nat} (h : oneS c = oneS d) : c = d := by
  have e : (oneS c).cps = (oneS d).cps := by rw [h]
  have e2 : (#[c] : Array Nat) = #[d] := e
  simpa using e2
theorem one_lt {c d : Nat} : ltCps (oneS c).cps.toList (oneS d).cps.toList = decide (c < d) := by
  rw [ltCps_eq]
  show decide ([c] < [d]) = decide (c < d)
  rw [decide_eq_decide]
  constructor
  · intro h
    rcases List.cons_lt_cons_iff.mp h with z | ⟨_, z⟩
    · exact z
    · exact absurd z (List.lt_irrefl [])
  · intro h
    exact List.cons_lt_cons_iff.mpr (.inl h)
theorem rising_le : ∀ (cs : List Nat) (p : Nat), risingS (oneS p) (cs.map oneS) = true → ∀ x ∈ cs, p ≤ x
  | [], _, _, x, hx => by cases hx
  | c :: cs, p, h, x, hx => by
    rw [List.map_cons] at h
    have h' : (!ltCps (oneS c).cps.toList (oneS p).cps.toList && risingS (oneS c) (cs.map oneS)) = true := h
    rw [one_lt, Bool.and_eq_true, Bool.not_eq_true', decide_eq_false_iff_not] at h'
    rcases List.mem_cons.mp hx with e | e
    · omega
    · have := rising_le cs c h'.2 x e; omega
theorem sorted_pw : ∀ cs : List Nat, sortedS (cs.map oneS) = true → cs.Pairwise (· ≤ ·)
  | [], _ => List.Pairwise.nil
  | c :: cs, h => by
    have h' : risingS (oneS c) (cs.map oneS) = true := h
    refine List.pairwise_cons.mpr ⟨rising_le cs c h', sorted_pw cs ?_⟩
    cases cs with
    | nil => rfl
    | cons d ds =>
      have h2 : (!ltCps (oneS d).cps.toList (oneS c).cps.toList && risingS (oneS d) (ds.map oneS)) = true := h'
      exact (Bool.and_eq_true _ _ ▸ h2).2
theorem cps_from : ∀ (ss : List Str) (l : List Nat), (∀ k ∈ ss, k ∈ l.map oneS) → ∃ cs : List Nat, ss = cs.map oneS
  | [], _, _ => ⟨[], rfl⟩
  | k :: ss, l, h => by
    obtain ⟨c, _, e⟩ := List.mem_map.mp (h k List.mem_cons_self)
    obtain ⟨cs, e2⟩ := cps_from ss l fun x hx => h x (List.mem_cons_of_mem _ hx)
    exact ⟨c :: cs, by rw [List.map_cons, ← e2, e]⟩
/-- what sorted(set(text)) must be -/
theorem sortset_eq {z : Str} {ss : List Str} (h1 : sortedS ss = true) (h2 : ss.Nodup) (h3 : ∀ k, k ∈ ss ↔ decide (k ∈ sgs z) = true) : ss = (ascU z.cps.toList).map oneS := by
  obtain ⟨cs, rfl⟩ := cps_from ss z.cps.toList fun k hk => of_decide_eq_true ((h3 k).mp hk)
  have p := sorted_pw cs h1
  have nd : cs.Nodup := (List.pairwise_map.mp h2).imp fun {a b} h e => h (by rw [e])
  have p' : cs.Pairwise (· < ·) := (List.Pairwise.and p nd).imp fun {a b} z => Nat.lt_of_le_of_ne z.1 z.2
  rw [pw_eq p' (ascU_pw z.cps.toList) fun x => ?_]
  rw [mem_ascU]
  have q := h3 (oneS x)
  rw [decide_eq_true_iff, sgs_one] at q
  constructor
  · intro hx
    obtain ⟨c, hc, e⟩ := List.mem_map.mp (q.mp (List.mem_map_of_mem hx))
    rw [← oneS_inj e]; exact hc
  · intro hx
    obtain ⟨c, hc, e⟩ := List.mem_map.mp (q.mpr (List.mem_map_of_mem hx))
    rw [← oneS_inj e]; exact hc
def sortSet (z : Str) : List PyData := (ascU z.cps.toList).map fun c => .str ⟨#[c]⟩
def tSortSet (te : TE) : TE := fun σ H Q => te σ H fun x H1 => ∃ z, x = .str z ∧ z.cps.size + 1 < scanBound ∧ ∀ p, H1 p = none → Q (.ref p) (upd H1 p (.lst ((ascU z.cps.toList).map fun c => V.str (oneS c))))
section
variable {X : Cx} {W : WX}
theorem dq_ones {K : PySem.W.Frag} {H : Hp} : ∀ cs : List Nat, DqAll K H (cs.map fun c => V.str (oneS c)) (cs.map fun c => PyData.str ⟨#[c]⟩)
  | [] => .nil
  | c :: cs => .cons (.str _) (dq_ones cs)
theorem strs_vals : ∀ {us : List Value} {ss : List Str}, StrsAre us ss → Vals (ss.map V.str) us
  | _, _, .nil => .nil
  | _, _, .cons k t r => .cons ⟨t, rfl⟩ (strs_vals r)
theorem fin_sortset {pins : List (Addr × Obj)} {s : Shared} {σ : L2.St} {H : Hp} {a : Addr} {z : Str} {m : Nat} {Q : VK} (hc : X.calm = true) (I : Inv X pins σ H s) (hS : SetS X.w s.heap a (fun k' => decide (k' ∈ sgs z)) m) (hm : m ≤ sizeLine)
    (q : ∀ p, H p = none → Q (.ref p) (upd H p (.lst ((ascU z.cps.toList).map fun c => V.str (oneS c))))) : wpAny (model X.prog X.w) X.A (call (.builtin "sorted") [.ref a]) (EP X pins σ Q) X.xe s := by
  refine sorted_setS hS (I.ok.hd hc) hm fun s' p out c ss k g o hp hg hi hs hnd hmm hl => ?_
  have es := sortset_eq hs hnd hmm
  have hlen : (ss.map V.str).length ≤ sizeLine := by rw [List.length_map, hl]; exact hm
  have hn : H p = none := I.hok.fresh hp
  have J : Inv X pins σ (upd H p (.lst (ss.map V.str))) { s with heap := s'.heap, gens := s'.gens, drawn := s'.drawn, toks := s'.toks } :=
    I.call (ch := []) (Un.laid k hp hn) (I.hok.laid k hp ⟨hlen, out.toList, c, strs_vals hi, hg⟩) (by rw [g]; exact I.bare) (fun _ z => nomatch z)
  have e : s' = { s with heap := s'.heap, gens := s'.gens, drawn := s'.drawn, toks := s'.toks } := by
    cases s'
    cases s
    cases o
    rfl
  rw [e]
  refine ⟨.ref p, _, J, rfl, ?_⟩
  have e2 : ss.map V.str = (ascU z.cps.toList).map fun c => V.str (oneS c) := by rw [es, List.map_map]; rfl
  rw [e2]
  exact q p hn
theorem pe_sortset {a : Expr} {ta : TE} {p p2 q pos : Pos} (hg : Gl X "sorted") (hm : X.mg "sorted" = none) (hg2 : Gl X "set") (hm2 : X.mg "set" = none) (ha : PE X a ta) (hc : X.calm = true)
    (na : starEach [a] X.env = (false, eval a X.env) :: starEach [] X.env := by rfl) : PE X (.Call (.Name "sorted" p) [.Call (.Name "set" p2) [a] [] q] [] pos) (tSortSet ta) := by
  refine ⟨fun pins s σ H Q I h => ?_⟩
  refine Call_ (ld_blt I hg hm boot_sorted ?_)
  refine PyProof.Rows.callWith_builtin1 (PyProof.Rows.args_cons ?_ rfl) rfl rfl
  refine Call_ (ld_blt I hg2 hm2 boot_set ?_)
  refine PyProof.Rows.callWith_type1 (PyProof.Rows.args_cons (thn (ha.run pins s σ H _ I h) fun v s1 ⟨x, H1, I1, r1, q1⟩ => PyProof.Rows.args_nil ?_) na) na rfl
  obtain ⟨z, rfl, hz, q1⟩ := q1
  obtain ⟨t, rfl⟩ := r1
  refine call_set_text (I1.ok.hd hc) hz fun h' tk m hm hS hk => ?_
  refine PyProof.Rows.args_nil ?_
  have I2 : Inv X pins σ H1 { s1 with heap := h', toks := tk } := I1.kept fun b o e => hk b o (Heap.lt_size e) e
  have hb : scanBound = 4096 := rfl
  exact fin_sortset hc I2 hS (by rw [sizeLine_eq]; omega) q1
def gSortSet : PyData → Res PyData
  | .str z => if z.cps.size + 1 < 4096 then .ok (.list (sortSet z)) else .bad
  | _ => .bad
def vSortSet (f : EvE) : EvE := fun δ => (f δ).bind fun p => (gSortSet p.1).bind fun z => .ok (z, p.2)
theorem de_sortset {e : Expr} {f : EvE} {p p2 pos pos2 : Pos} (hc : X.calm = true) (ha : DE X W e f) (hm : X.mg "sorted" = none) (hm2 : X.mg "set" = none) (hg : Gl X "sorted" := by rfl) (hg2 : Gl X "set" := by rfl) (hs : starEach [e] X.env = (false, eval e X.env) :: starEach [] X.env := by rfl) :
    DE X W (.Call (.Name "sorted" p) [.Call (.Name "set" p2) [e] [] pos2] [] pos) (vSortSet f) := by
  refine PE_imp (pe_sortset hg hm hg2 hm2 ha hc hs) fun σ H Q ⟨F, G, δ, R, p⟩ => ?_
  refine ⟨F, G, δ, R, ?_⟩
  unfold vSortSet at p
  cases e1 : f δ with
  | err c => rw [e1] at p; exact p
  | bad => rw [e1] at p; exact p.elim
  | ok x =>
    obtain ⟨d, δ1⟩ := x
    rw [e1] at p
    intro v H1 fr R1 hv
    have p' : PostE X W F G H σ ((gSortSet d).bind fun z => .ok (z, δ1)) Q := p
    cases d <;> try exact p'.elim
    rename_i z
    cases hv
    have p2 : PostE X W F G H σ ((if z.cps.size + 1 < 4096 then Res.ok (PyData.list (sortSet z)) else .bad).bind fun z => .ok (z, δ1)) Q := p'
    clear p'
    have p' := p2
    by_cases hz : z.cps.size + 1 < 4096
    · rw [if_pos hz] at p'
      refine ⟨z, rfl, hz, fun q hq => ?_⟩
      exact (PostE.gives (H := H1) (F := F) (z := .list (sortSet z)) (p'.mono fr) R1).lst R1.vis (dq_ones _) q hq
    · rw [if_neg hz] at p'
      exact p'.elim
/-! list(text) -/
def rListA (K : PySem.W.Frag) : List V → Hp → VK → Prop := fun xs H Q => (∃ p ys, xs = [.ref p] ∧ (SqL K H p ys ∨ SqT K H p ys) ∧ ∀ l, H l = none → Q (.ref l) (upd H l (.lst ys))) ∨
  ∃ z, xs = [.str z] ∧ z.cps.size ≤ sizeLine ∧ ∀ l, H l = none → Q (.ref l) (upd H l (.lst (z.cps.toList.map fun c => V.str (oneS c))))
theorem items_sgs {z : Str} {acc : Array Value} (h : ItemsOf (SignAt z) acc z.cps.size) : Vals (z.cps.toList.map fun c => V.str (oneS c)) acc.toList := by
  have gen : ∀ (cs : List Nat) (us : List Value), us.length = cs.length → (∀ (j : Nat) (v : Value), us[j]? = some v → ∃ (c : Nat) (u : Tok), cs[j]? = some c ∧ v = Value.str ⟨#[c]⟩ u) → Vals (cs.map fun c => V.str (oneS c)) us := by
    intro cs
    induction cs with
    | nil =>
      intro us hl _
      cases us with
      | nil => exact .nil
      | cons _ _ => simp at hl
    | cons c cs ih =>
      intro us hl hu
      cases us with
      | nil => simp at hl
      | cons u us =>
        obtain ⟨c', t, e1, e2⟩ := hu 0 u rfl
        have e1' : c = c' := by simpa using e1
        subst e1'
        subst e2
        exact .cons ⟨t, rfl⟩ (ih us (by simpa using hl) fun j v hj => by simpa using hu (j + 1) v (by simpa using hj))
  refine gen _ _ (by rw [Array.length_toList, Array.length_toList]; exact h.1) fun j v hj => ?_
  obtain ⟨c, u, e1, e2⟩ := h.2 j v (by rw [← Array.getElem?_toList]; exact hj)
  exact ⟨c, u, by rw [Array.getElem?_toList]; exact e1, e2⟩
theorem cr_listA (hc : X.calm = true) : CallR X (.type "list") (rListA X.K) := by
  intro pins s σ H xs us Q I r h
  rcases h with h | ⟨z, rfl, hz, q⟩
  · exact call_list_of pins s σ H xs us Q I r h
  · obtain ⟨u, rfl, t, rfl⟩ := vals1 r
    refine call_list_str (I.ok.hd hc) z t (fun h' tk acc' c' hk hS hacc => ?_) hz
    have hlen : (z.cps.toList.map fun c => V.str (oneS c)).length ≤ sizeLine := by rw [List.length_map, Array.length_toList]; exact hz
    refine ⟨.ref _, _, I.laid (t' := tk) hk (Nat.le_refl _) (show ObjOk X.prog X.w _ h' _ (.lst _) from ⟨hlen, acc'.toList, c', items_sgs hacc, hS⟩), rfl, q _ (I.hok.fresh (Nat.le_refl _))⟩
def gListA : List PyData → Res PyData
  | [.list ds] => .ok (.list ds)
  | [.tuple ds] => .ok (.list ds)
  | [.str z] => if z.cps.size ≤ sizeLine then .ok (.list (signs z)) else .bad
  | _ => .bad
theorem cd_listA (hc : X.calm = true) : CallD X (.type "list") gListA := by
  refine ⟨_, cr_listA hc, fun G H vs ds z Q vis h hz g => ?_⟩
  match ds, h, hz with
  | [.list ds], .cons (.lst hs ha) .nil, hz => cases hz; exact .inl ⟨_, _, rfl, .inl (.inl (.inl (hide_some hs).2)), g.lst vis ha⟩
  | [.tuple ds], .cons (.tup hs ha) .nil, hz => cases hz; exact .inl ⟨_, _, rfl, .inr (seqT unhide hs), g.lst vis ha⟩
  | [.str y], .cons (.str _) .nil, hz =>
    have hz' : (if y.cps.size ≤ sizeLine then Res.ok (PyData.list (signs y)) else .bad) = .ok z := hz
    by_cases c : y.cps.size ≤ sizeLine
    · rw [if_pos c] at hz'
      cases hz'
      exact .inr ⟨y, rfl, c, g.lst vis (dq_ones _)⟩
    · rw [if_neg c] at hz'
      cases hz'
end
end DL
set_option Elab.async false
set_option linter.all false
set_option maxRecDepth 100000
set_option maxHeartbeats 4000000
namespace DL
open PySem PySem.Spec PyProof.Rows L2
/-! ### new tuples, known to have no dictionary -/
/-- a known tuple at v -/
def Nt (K : PySem.W.Frag) (H : Hp) (v : V) (ds : List PyData) : Prop := ∃ a o vs, v = .ref a ∧ H a = some (.frz o (.tup vs)) ∧ o.dict = none ∧ DqAll K H vs ds
theorem Nt.mono {K : PySem.W.Frag} {H H' : Hp} {v : V} {ds : List PyData} (h : Nt K H v ds) (e : Same H H') : Nt K H' v ds := by
  obtain ⟨a, o, vs, h1, h2, h3, h4⟩ := h
  exact ⟨a, o, vs, h1, e _ _ h2, h3, h4.mono e⟩
section
variable (X : Cx) (W : WX)
def PostN (F G : Addr → Prop) (H : Hp) (σ : L2.St) (r : Res (List PyData × DSt)) (Q : VK) : Prop := match r with
  | .ok (ds, δ') => ∀ v H', Fr F G H H' → Rep X.K F G H' σ δ' → Nt X.K (hide G H') v ds → Q v H'
  | .err c => ∀ C H', X.mg c = some (.ref C) → Fr F G H H' → W (.ref C) none σ H'
  | .bad => False
end
section
variable {X : Cx} {W : WX}
theorem PostN.mono {F G : Addr → Prop} {H H1 : Hp} {σ : L2.St} {r : Res (List PyData × DSt)} {Q : VK} (p : PostN X W F G H σ r Q) (f : Fr F G H H1) : PostN X W F G H1 σ r Q := by
  cases r with
  | ok x => exact fun v H' fr R h => p v H' (f.trans fr) R h
  | err c => exact fun C H' hc fr => p C H' hc (f.trans fr)
  | bad => exact p.elim
variable {x : Str} {p pos : Pos} {e : Expr} {es : List Expr} {fa : EvA}
end
def endN : Res (Flw × DSt) → Res (List PyData)
  | .ok (.rn ds, _) => .ok ds
  | .ok _ => .bad
  | .err c => .err c
  | .bad => .bad
def runN (n m : Nat) (b : EvS) : List PyData → Res (List PyData) := fun ds => if ds.length = m then endN (b (startD n ds)) else .bad
end DL
set_option linter.all false
set_option maxRecDepth 100000
set_option maxHeartbeats 1000000
namespace DL
open PySem PySem.Spec L2
section
variable {X : Cx} {W : WX}
/-- x = x + [..], x (slot i) an own list -/
def vCatL (i : Nat) (f : EvA) : EvS := fun δ => match δ[i]? with
  | some (.own _) => (chk0 δ (f δ)).bind fun p => match p.2[i]? with
    | some (.own ls) => if p.1.length ≤ sizeLine ∧ ls.length + p.1.length ≤ sizeLine then (setD i (.own (ls ++ p.1)) p.2).bind fun δ2 => .ok (.nx, δ2) else .bad
    | _ => .bad
  | _ => .bad
theorem ds_catL {i : Nat} {x : Str} {es : List Expr} {f : EvA} {p1 p2 p3 pos pos' : Pos} (hN : X.N.Nodup) (ho : PE X (.Name x p1) (tVar i)) (he : DA X W es f) (hi : X.N[i]? = some x := by rfl) (hx : Loc X.env.scope x := by first | exact .inl rfl | exact .inr rfl)
    (hs : swapsWith (.BinOp (.Name x p1) .Add (.List es p2) p3) (some (.Name x pos')) pos.line X.env = pure false := by rfl) (hf : X.fn x = true ∨ X.env.scope.names.lookup x = some .local := by first | exact .inl rfl | exact .inr rfl) :
    DS X W (.Assign [.Name x pos'] (.BinOp (.Name x p1) .Add (.List es p2) p3) pos) (vCatL i f) := by
  refine PS_imp (ps_set hN hi hx (pe_op op_cat ho (pe_lst he)) hs hf) fun D σ H ⟨F, G, δ, R, p⟩ => ?_
  unfold vCatL at p
  split at p
  · rename_i ls0 e0
    obtain ⟨a, xs0, hσ, hG, hF, hH, _⟩ := R.ow i ls0 e0
    refine ⟨_, hσ, seqAS R p fun ds δ1 vs H1 s R1 h1 p1 => ?_⟩
    dsimp only at p1
    split at p1
    · rename_i ls e1
      obtain ⟨a', xs, hσ', _, _, hH1, hx1⟩ := R1.ow i ls e1
      rw [hσ] at hσ'
      cases hσ'
      by_cases c : ds.length ≤ sizeLine ∧ ls.length + ds.length ≤ sizeLine
      · rw [if_pos c] at p1
        refine ⟨by rw [h1.length]; exact c.1, fun q n => ?_⟩
        have S := same_upd (o := .lst vs) n
        have st : SF F G G H1 (upd H1 q (.lst vs)) σ σ δ1 δ1 := ⟨Fr.of S, fun _ z => .inl z, fun ds e => ⟨rfl, ds, e⟩⟩
        exact ⟨_, q, xs, vs, rfl, rfl, S _ _ hH1, upd_same, by rw [hx1.length, h1.length]; exact c.2, fun r nr => post_new (R1.same S) nr ((hx1.append h1).mono (hideS S)) (PostS.step p1 st)⟩
      · rw [if_neg c] at p1
        exact p1.elim
    · exact p1.elim
  · exact p.elim
/-- what follows is not looked at -/
theorem dss_bad {s : List Stmt} : DSs X W s (fun _ => .bad) := ⟨fun _ _ _ _ _ _ ⟨_, _, _, _, p⟩ => p.elim⟩
end
end DL
set_option linter.all false
set_option maxRecDepth 100000
set_option maxHeartbeats 2000000
namespace DL
open PySem PySem.Spec L2
end DL
set_option linter.all false
set_option maxRecDepth 100000
set_option maxHeartbeats 1000000
namespace DL
open PySem PySem.Spec PyProof.Rows L2
end DL
set_option linter.all false
set_option maxRecDepth 100000
set_option maxHeartbeats 2000000
namespace DL
open PySem PySem.Spec PyProof.Rows L2
/-! ### zip of three, lists and tuples in any mixture -/
def ItB (h : Heap) (t : Bool) (it a : Addr) (i : Nat) : Prop := match t with
  | true => h.IsTupleIter it a i
  | false => h.IsListIter it a i
theorem ItB.at {h h' : Heap} {t : Bool} {it a : Addr} {i : Nat} (x : ItB h t it a i) (k : ∀ o, h.get? it = some o → h'.get? it = some o) : ItB h' t it a i := by
  cases t with
  | true => exact Heap.IsTupleIter.at (show h.IsTupleIter it a i from x) fun o q => k o q
  | false => exact Heap.IsListIter.at (show h.IsListIter it a i from x) fun o q => k o q
theorem ItB.obj {h : Heap} {t : Bool} {it a : Addr} {i : Nat} (x : ItB h t it a i) : ∃ o, h.get? it = some o ∧ ∀ v, o.data ≠ .cell v := by
  cases t with
  | true =>
    obtain ⟨o, e, _, d⟩ := (show h.IsTupleIter it a i from x)
    exact ⟨o, e, fun v q => by rw [d] at q; cases q⟩
  | false =>
    obtain ⟨o, e, _, d⟩ := (show h.IsListIter it a i from x)
    exact ⟨o, e, fun v q => by rw [d] at q; cases q⟩
end DL
namespace DL
open PySem PySem.Spec PyProof.Rows L2
end DL
set_option linter.all false
set_option maxRecDepth 100000
set_option maxHeartbeats 2000000
namespace DL
open PySem PySem.Spec PyProof.Rows L2
/-! ### zip of two, lists and tuples in any mixture and of any lengths -/
end DL
set_option linter.all false
set_option maxRecDepth 100000
set_option maxHeartbeats 2000000
namespace DL
open PySem PySem.Spec L2
end DL
set_option linter.all false
set_option maxRecDepth 100000
set_option maxHeartbeats 2000000
namespace DL
open PySem PySem.Spec L2
end DL
set_option Elab.async false
set_option linter.all false
set_option maxRecDepth 100000
set_option maxHeartbeats 2000000
namespace ZS
open PySem
open Sem (wp)
structure Dr where
  it : Addr
  t : Addr
  xs : List Value
section
variable {prog : Program} {w : World} {A : Around} {E : Value → Shared → Prop} {s : Shared}
/-- the items of the i-th turn -/
def col (i : Nat) (L : List Dr) : List Value := L.map fun p => p.xs.getD i .none
end
end ZS
set_option Elab.async false
set_option linter.all false
set_option maxRecDepth 100000
set_option maxHeartbeats 2000000
namespace ZS
open PySem
open Sem (wp)
end ZS
set_option Elab.async false
set_option linter.all false
set_option maxRecDepth 100000
set_option maxHeartbeats 2000000
namespace ZS
open PySem
open Sem (wp)
end ZS
set_option linter.all false
set_option maxRecDepth 100000
set_option maxHeartbeats 2000000
namespace ZS
open PySem
end ZS
namespace DL
open PySem PySem.Spec PyProof.Rows L2 ZS
/-! ### zip(*rows), rows a list or tuple of tuples of one length -/
end DL
namespace PySem.W
open PySem PySem.Calls
end PySem.W
namespace DL
open PySem PySem.Spec PyProof.Rows L2 ZS
end DL
set_option linter.all false
set_option maxRecDepth 100000
set_option maxHeartbeats 2000000
namespace DL
open PySem PySem.Spec PyProof.Rows L2
/-! ### sum of a list or a tuple of ints -/
end DL
set_option Elab.async false
set_option linter.all false
set_option maxRecDepth 100000
set_option maxHeartbeats 4000000
namespace Vw
open PySem PySem.Spec L2 DL
def top (i : Nat) : Stmt := PySem.Challenge.pw_votewoods_k05_whole_forests.main.body.getD i (.Pass ⟨0, 0, 0, 0⟩)
structure Tx (K : PySem.W.Frag) (mg : Str → Option Value) : Prop where
  c_AMONG : ∃ t, mg "AMONG" = some (.str ("among" : Str) t)
  c_BELOW : ∃ t, mg "BELOW" = some (.str ("below" : Str) t)
  c_FEWEST_ANSWERS : ∃ t, mg "FEWEST_ANSWERS" = some (.int 2 t)
  c_LARGEST_PLACE_BOTTOM : ∃ t, mg "LARGEST_PLACE_BOTTOM" = some (.int 4 t)
  c_LARGEST_PLACE_TOP : ∃ t, mg "LARGEST_PLACE_TOP" = some (.int 99 t)
  c_LARGEST_VOTE : ∃ t, mg "LARGEST_VOTE" = some (.int 9 t)
  c_LEAF : ∃ t, mg "LEAF" = some (.str ("leaf" : Str) t)
  c_MOST_ANSWERS : ∃ t, mg "MOST_ANSWERS" = some (.int 3 t)
  c_MOST_LEAVES : ∃ t, mg "MOST_LEAVES" = some (.int 8 t)
  c_MOST_LETTERS : ∃ t, mg "MOST_LETTERS" = some (.int 4 t)
  c_MOST_PARTS : ∃ t, mg "MOST_PARTS" = some (.int 3 t)
  c_MOST_TESTS : ∃ t, mg "MOST_TESTS" = some (.int 7 t)
  c_MOST_TREES : ∃ t, mg "MOST_TREES" = some (.int 4 t)
  c_NUMBERS : ∃ t, mg "NUMBERS" = some (.str ("0" : Str) t)
  d__law_bad_forests : DefAt K mg "_law_bad_forests" (top 88) ["_law_forest_here"]
  d__law_cell : DefAt K mg "_law_cell" (top 74) ["_law_script", "_law_k"]
  d__law_drawn : DefAt K mg "_law_drawn" (top 75) ["_law_cell_here", "_law_k"]
  d__law_forest : DefAt K mg "_law_forest" (top 86) ["_law_dice", "_law_trees", "_law_leaves"]
  d__law_forest_of : DefAt K mg "_law_forest_of" (top 85) ["_law_dice", "_law_kinds_here", "_law_answers", "_law_trees", "_law_leaves"]
  d__law_kinds : DefAt K mg "_law_kinds" (top 81) ["_law_dice"]
  d__law_low : DefAt K mg "_law_low" (top 80) ["_law_top", "_law_bottom"]
  d__law_place : DefAt K mg "_law_place" (top 82) ["_law_dice"]
  d__law_roll : DefAt K mg "_law_roll" (top 76) ["_law_dice", "_law_many"]
  d__law_rounds : DefAt K mg "_law_rounds" (top 77) ["_law_script", "_law_most"]
  d__law_row_tree : DefAt K mg "_law_row_tree" (top 89) ["_law_many", "_law_leaf"]
  d__law_some_marks : DefAt K mg "_law_some_marks" (top 83) ["_law_dice", "_law_kind"]
  d__law_tests : DefAt K mg "_law_tests" (top 87) ["_law_tree_here"]
  d__law_tree : DefAt K mg "_law_tree" (top 84) ["_law_dice", "_law_kinds_here", "_law_answers", "_law_most"]
  d_check_forest : DefAt K mg "check_forest" (top 42) ["forest"]
  d_check_pair : DefAt K mg "check_pair" (top 43) ["forest", "other"]
  d_count_leaves : DefAt K mg "count_leaves" (top 41) ["forest"]
  d_is_ascending : DefAt K mg "is_ascending" (top 22) ["text"]
  d_is_branch : DefAt K mg "is_branch" (top 45) ["value", "kinds", "answers", "tests_left"]
  d_is_forest : DefAt K mg "is_forest" (top 40) ["value"]
  d_is_fraction : DefAt K mg "is_fraction" (top 19) ["value", "top", "bottom"]
  d_is_kind : DefAt K mg "is_kind" (top 23) ["value"]
  d_is_kinds : DefAt K mg "is_kinds" (top 24) ["value"]
  d_is_marks : DefAt K mg "is_marks" (top 26) ["value", "kind"]
  d_is_part : DefAt K mg "is_part" (top 25) ["value", "kinds"]
  d_is_test : DefAt K mg "is_test" (top 46) ["word", "part", "bound", "kinds"]
  d_is_tree : DefAt K mg "is_tree" (top 44) ["value", "kinds", "answers"]
  d_is_votes : DefAt K mg "is_votes" (top 47) ["value", "answers"]
  d_is_whole : DefAt K mg "is_whole" (top 18) ["value"]
  d_joined : DefAt K mg "joined" (top 72) ["forest", "other"]
  d_leaves_of : DefAt K mg "leaves_of" (top 48) ["tree"]
  d_votes_form : DefAt K mg "votes_form" (top 65) ["forest"]
  e_InvalidForest : ExcAt K mg "InvalidForest"
  e_NoFit : ExcAt K mg "NoFit"
  i_gcd : mg "gcd" = some (.builtin "math.gcd")
  n_abs : mg "abs" = none
  n_all : mg "all" = none
  n_bool : mg "bool" = none
  n_int : mg "int" = none
  n_isinstance : mg "isinstance" = none
  n_len : mg "len" = none
  n_list : mg "list" = none
  n_max : mg "max" = none
  n_min : mg "min" = none
  n_range : mg "range" = none
  n_set : mg "set" = none
  n_sorted : mg "sorted" = none
  n_str : mg "str" = none
  n_sum : mg "sum" = none
  n_tuple : mg "tuple" = none
section
variable {P : Program} {w : World} {K : PySem.W.Frag} {mg : Str → Option Value} {base : Heap}
abbrev s__law_drawn : Stmt := top 75
theorem sc__law_drawn : FnScope ["_law_cell_here", "_law_k", "_law_more"] ["_law_cell_here", "_law_k"] (defScope s__law_drawn) := ⟨rfl, rfl, rfl, by decide +kernel, rfl, by decide +kernel, by decide +kernel⟩
def b__law_drawn : EvS := (vSeq (vSet 2 (vOp gMod (vOp gAdd (vOp gMul (vVar 0) (vConst (.int 6364136223846793005))) (vOp gMul (vOp gAdd (vVar 1) (vConst (.int 1))) (vConst (.int 1442695040888963407)))) (vConst (.int 340282366920938463463374607431768211507)))) (vSeq (vSet 2 (vOp gMod (vOp gMul (vVar 2) (vVar 2)) (vConst (.int 340282366920938463463374607431768211297)))) (vSeq (vSet 2 (vOp gMul (vOp gMul (vOp gAdd (vOp gMod (vVar 2) (vConst (.int 18446744073709551557))) (vConst (.int 1))) (vOp gAdd (vOp gFdiv (vVar 2) (vConst (.int 18446744073709551557))) (vConst (.int 1)))) (vVar 2))) (vRet (vOp gMod (vVar 2) (vConst (.int 340282366920938463463374607431768211507)))))))
def ph__law_drawn : List PyData → Res PyData := runP 3 2 (b__law_drawn)
abbrev s__law_roll : Stmt := top 76
theorem sc__law_roll : FnScope ["_law_dice", "_law_many", "_law_told_here"] ["_law_dice", "_law_many"] (defScope s__law_roll) := ⟨rfl, rfl, rfl, by decide +kernel, rfl, by decide +kernel, by decide +kernel⟩
def b__law_roll : EvS := (vSeq (vIfS (vTest (vOp gGe (vIxO 0 (vConst (.int 0))) (vOp gPow (vConst (.int 10)) (vConst (.int 18))))) (vSeq (vSet 2 (vOp gMod (vIxO 0 (vConst (.int 0))) (vVar 1))) (vSeq (vSetIx 0 (vOp gFdiv (vIxO 0 (vConst (.int 0))) (vVar 1)) (vConst (.int 0))) (vRet (vVar 2)))) vNext) (vSeq (vSetIx 0 (vOp gAdd (vIxO 0 (vConst (.int 1))) (vConst (.int 1))) (vConst (.int 1))) (vRet (vOp gMod (vOp gFdiv (vApp ph__law_drawn (vCons (vIxO 0 (vConst (.int 0))) (vCons (vIxO 0 (vConst (.int 1))) vNil))) (vConst (.int 8))) (vVar 1)))))
def ph__law_roll : List PyData → List PyData → Res (PyData × List PyData) := runM 3 2 (b__law_roll)
abbrev s__law_kinds : Stmt := top 81
theorem sc__law_kinds : FnScope ["_law_dice", "_law_some", "_law_at"] ["_law_dice"] (defScope s__law_kinds) := ⟨rfl, rfl, rfl, by decide +kernel, rfl, by decide +kernel, by decide +kernel⟩
def b__law_kinds : EvS := (vSeq (vSet 1 (vLst (vCons (vConst (.str ("0" : Str))) (vCons (vConst (.str ("0" : Str))) (vCons (vConst (.str ("ab" : Str))) (vCons (vConst (.str ("abc" : Str))) (vCons (vConst (.str ("bdx" : Str))) (vCons (vConst (.str ("0" : Str))) (vCons (vConst (.str ("klmz" : Str))) vNil))))))))) (vRet (vCall gTuple (vCons (vComp (vRange (vOp gAdd (vConst (.int 1)) (vAppM 0 ph__law_roll (vCons (vConst (.int 3)) vNil)))) (wName 2) vTrue (vOp gIx (vVar 1) (vAppM 0 ph__law_roll (vCons (vConst (.int 7)) vNil))) [2]) vNil))))
def ph__law_kinds : List PyData → List PyData → Res (PyData × List PyData) := runM 3 1 (b__law_kinds)
abbrev s__law_low : Stmt := top 80
theorem sc__law_low : FnScope ["_law_top", "_law_bottom", "_law_one", "_law_other"] ["_law_top", "_law_bottom"] (defScope s__law_low) := ⟨rfl, rfl, rfl, by decide +kernel, rfl, by decide +kernel, by decide +kernel⟩
def b__law_low : EvS := (vSeq (vPar 2 3 (vCons (vCall gAbs (vCons (vVar 0) vNil)) (vCons (vVar 1) vNil))) (vSeq (vWhile (vTest (vOp gNe (vVar 3) (vConst (.int 0)))) (vPar 2 3 (vCons (vVar 3) (vCons (vOp gMod (vVar 2) (vVar 3)) vNil))) 400) (vRet (vTup (vCons (vOp gFdiv (vVar 0) (vVar 2)) (vCons (vOp gFdiv (vVar 1) (vVar 2)) vNil))))))
def ph__law_low : List PyData → Res PyData := runP 4 2 (b__law_low)
abbrev s__law_place : Stmt := top 82
theorem sc__law_place : FnScope ["_law_dice"] ["_law_dice"] (defScope s__law_place) := ⟨rfl, rfl, rfl, by decide +kernel, rfl, by decide +kernel, by decide +kernel⟩
def b__law_place : EvS := (vRet (vApp ph__law_low (vCons (vOp gSub (vAppM 0 ph__law_roll (vCons (vConst (.int 17)) vNil)) (vConst (.int 8))) (vCons (vOp gIx (vLst (vCons (vConst (.int 1)) (vCons (vConst (.int 1)) (vCons (vConst (.int 2)) (vCons (vConst (.int 4)) vNil))))) (vAppM 0 ph__law_roll (vCons (vConst (.int 4)) vNil))) vNil))))
def ph__law_place : List PyData → List PyData → Res (PyData × List PyData) := runM 1 1 (b__law_place)
abbrev s__law_some_marks : Stmt := top 83
theorem sc__law_some_marks : FnScope ["_law_dice", "_law_kind", "_law_found", "_law_letter"] ["_law_dice", "_law_kind"] (defScope s__law_some_marks) := ⟨rfl, rfl, rfl, by decide +kernel, rfl, by decide +kernel, by decide +kernel⟩
def b__law_some_marks : EvS := (vSeq (vSet 2 (vM1 gJoin (vConst (.str ("" : Str))) (vComp (vItems (vVar 1)) (wName 3) (vTest (vOp gEq (vAppM 0 ph__law_roll (vCons (vConst (.int 2)) vNil)) (vConst (.int 0)))) (vVar 3) [3]))) (vRet (vIf (vTest (vOp gNe (vVar 2) (vConst (.str ("" : Str))))) (vVar 2) (vOp gIx (vVar 1) (vAppM 0 ph__law_roll (vCons (vCall gLen (vCons (vVar 1) vNil)) vNil))))))
def ph__law_some_marks : List PyData → List PyData → Res (PyData × List PyData) := runM 4 2 (b__law_some_marks)
abbrev s__law_tree : Stmt := top 84
theorem sc__law_tree : FnScope ["_law_dice", "_law_kinds_here", "_law_answers", "_law_most", "_law_part", "_law_few", "_law_test", "_law_one", "_law_at"] ["_law_dice", "_law_kinds_here", "_law_answers", "_law_most"] (defScope s__law_tree) := ⟨rfl, rfl, rfl, by decide +kernel, rfl, by decide +kernel, by decide +kernel⟩
def b__law_tree (self : List PyData → List PyData → Res (PyData × List PyData)) : EvS := (vSeq (vIfS (vOr (vTest (vOp gLt (vVar 3) (vConst (.int 2)))) (vTest (vOp gEq (vAppM 0 ph__law_roll (vCons (vConst (.int 5)) vNil)) (vConst (.int 0))))) (vRet (vTup (vCons (vConst (.str ("leaf" : Str))) (vCons (vCall gTuple (vCons (vComp (vRange (vVar 2)) (wName 8) vTrue (vOp gSub (vAppM 0 ph__law_roll (vCons (vConst (.int 7)) vNil)) (vConst (.int 2))) [8]) vNil)) vNil)))) vNext) (vSeq (vPar 4 5 (vCons (vAppM 0 ph__law_roll (vCons (vCall gLen (vCons (vVar 1) vNil)) vNil)) (vCons (vOp gAdd (vConst (.int 1)) (vAppM 0 ph__law_roll (vCons (vOp gSub (vVar 3) (vConst (.int 1))) vNil))) vNil))) (vSeq (vSet 6 (vTup (vCons (vConst (.str ("below" : Str))) (vCons (vVar 4) (vCons (vAppM 0 ph__law_place vNil) vNil))))) (vSeq (vIfS (vTest (vOp gNe (vOp gIx (vVar 1) (vVar 4)) (vConst (.str ("0" : Str))))) (vSet 6 (vTup (vCons (vConst (.str ("among" : Str))) (vCons (vVar 4) (vCons (vAppM 0 ph__law_some_marks (vCons (vOp gIx (vVar 1) (vVar 4)) vNil)) vNil))))) vNext) (vSeq (vSet 7 (vAppM 0 self (vCons (vVar 1) (vCons (vVar 2) (vCons (vVar 5) vNil))))) (vRet (vOp gAdd (vVar 6) (vTup (vCons (vVar 7) (vCons (vAppM 0 self (vCons (vVar 1) (vCons (vVar 2) (vCons (vOp gSub (vVar 3) (vVar 5)) vNil)))) vNil))))))))))
def ph__law_tree : Nat → List PyData → List PyData → Res (PyData × List PyData)
  | 0 => fun _ _ => .bad
  | n + 1 => runM 9 4 (b__law_tree (ph__law_tree n))
abbrev s__law_forest_of : Stmt := top 85
theorem sc__law_forest_of : FnScope ["_law_dice", "_law_kinds_here", "_law_answers", "_law_trees", "_law_leaves", "_law_found", "_law_at"] ["_law_dice", "_law_kinds_here", "_law_answers", "_law_trees", "_law_leaves"] (defScope s__law_forest_of) := ⟨rfl, rfl, rfl, by decide +kernel, rfl, by decide +kernel, by decide +kernel⟩
def b__law_forest_of : EvS := (vSeq (vSet 5 (vComp (vRange (vOp gAdd (vConst (.int 1)) (vAppM 0 ph__law_roll (vCons (vVar 3) vNil)))) (wName 6) vTrue (vAppM 0 (ph__law_tree 9) (vCons (vVar 1) (vCons (vVar 2) (vCons (vOp gAdd (vConst (.int 1)) (vAppM 0 ph__law_roll (vCons (vVar 4) vNil))) vNil)))) [6])) (vRet (vTup (vCons (vVar 1) (vCons (vVar 2) (vCons (vCall gTuple (vCons (vVar 5) vNil)) vNil))))))
def ph__law_forest_of : List PyData → List PyData → Res (PyData × List PyData) := runM 7 5 (b__law_forest_of)
abbrev s__law_forest : Stmt := top 86
theorem sc__law_forest : FnScope ["_law_dice", "_law_trees", "_law_leaves"] ["_law_dice", "_law_trees", "_law_leaves"] (defScope s__law_forest) := ⟨rfl, rfl, rfl, by decide +kernel, rfl, by decide +kernel, by decide +kernel⟩
def b__law_forest : EvS := (vRet (vAppM 0 ph__law_forest_of (vCons (vAppM 0 ph__law_kinds vNil) (vCons (vOp gAdd (vConst (.int 2)) (vAppM 0 ph__law_roll (vCons (vConst (.int 2)) vNil))) (vCons (vVar 1) (vCons (vVar 2) vNil))))))
def ph__law_forest : List PyData → List PyData → Res (PyData × List PyData) := runM 3 3 (b__law_forest)
abbrev s__law_tests : Stmt := top 87
theorem sc__law_tests : FnScope ["_law_tree_here"] ["_law_tree_here"] (defScope s__law_tests) := ⟨rfl, rfl, rfl, by decide +kernel, rfl, by decide +kernel, by decide +kernel⟩
def b__law_tests (self : List PyData → Res PyData) : EvS := (vSeq (vIfS (vTest (vOp gEq (vOp gIx (vVar 0) (vConst (.int 0))) (vConst (.str ("leaf" : Str))))) (vRet (vLst vNil)) vNext) (vRet (vOp gAdd (vOp gAdd (vLst (vCons (vTup (vCons (vOp gIx (vVar 0) (vConst (.int 1))) (vCons (vOp gIx (vVar 0) (vConst (.int 2))) vNil))) vNil)) (vApp self (vCons (vOp gIx (vVar 0) (vConst (.int 3))) vNil))) (vApp self (vCons (vOp gIx (vVar 0) (vConst (.int 4))) vNil)))))
def ph__law_tests : Nat → List PyData → Res PyData
  | 0 => fun _ => .bad
  | n + 1 => runP 1 1 (b__law_tests (ph__law_tests n))
abbrev s__law_bad_forests : Stmt := top 88
theorem sc__law_bad_forests : FnScope ["_law_forest_here", "_law_kinds_here", "_law_answers", "_law_trees", "_law_leaf", "_law_bad", "_law_cases", "_law_test"] ["_law_forest_here"] (defScope s__law_bad_forests) := ⟨rfl, rfl, rfl, by decide +kernel, rfl, by decide +kernel, by decide +kernel⟩
def b__law_bad_forests : EvS := (vSeq (vAsg (vVar 0) (wTup 3 (wCons (wName 1) (wCons (wName 2) (wCons (wName 3) wNil))))) (vSeq (vSet 4 (vTup (vCons (vConst (.str ("leaf" : Str))) (vCons (vOp gMul (vTup (vCons (vConst (.int 0)) vNil)) (vVar 2)) vNil)))) (vSeq (vSetL 5 (vCons (vConst .none) (vCons (vConst (.int 5)) (vCons (vCall gListA (vCons (vVar 0) vNil)) (vCons (vSl (vVar 0) vNoPart (vPart (vConst (.int 2)))) (vCons (vOp gAdd (vVar 0) (vTup (vCons (vConst (.int 0)) vNil))) (vCons (vTup (vCons (vTup vNil) (vCons (vVar 2) (vCons (vVar 3) vNil)))) vNil))))))) (vSeq (vCatL 5 (vCons (vTup (vCons (vCall gListA (vCons (vVar 1) vNil)) (vCons (vVar 2) (vCons (vVar 3) vNil)))) vNil)) (vSeq (vCatL 5 (vCons (vTup (vCons (vOp gMul (vTup (vCons (vConst (.str ("0" : Str))) vNil)) (vConst (.int 4))) (vCons (vVar 2) (vCons (vTup (vCons (vVar 4) vNil)) vNil)))) (vCons (vTup (vCons (vTup (vCons (vConst (.str ("1" : Str))) vNil)) (vCons (vVar 2) (vCons (vTup (vCons (vVar 4) vNil)) vNil)))) (vCons (vTup (vCons (vTup (vCons (vConst (.str ("a" : Str))) vNil)) (vCons (vVar 2) (vCons (vTup (vCons (vVar 4) vNil)) vNil)))) vNil)))) (vSeq (vCatL 5 (vCons (vTup (vCons (vTup (vCons (vConst (.str ("ba" : Str))) vNil)) (vCons (vVar 2) (vCons (vTup (vCons (vVar 4) vNil)) vNil)))) vNil)) (vSeq (vCatL 5 (vCons (vTup (vCons (vTup (vCons (vConst (.str ("abcde" : Str))) vNil)) (vCons (vVar 2) (vCons (vTup (vCons (vVar 4) vNil)) vNil)))) (vCons (vTup (vCons (vTup (vCons (vConst (.str ("aa" : Str))) vNil)) (vCons (vVar 2) (vCons (vTup (vCons (vVar 4) vNil)) vNil)))) (vCons (vTup (vCons (vTup (vCons (vConst (.str ("aB" : Str))) vNil)) (vCons (vVar 2) (vCons (vTup (vCons (vVar 4) vNil)) vNil)))) vNil)))) (vSeq (vCatL 5 (vCons (vTup (vCons (vTup (vCons (vConst (.int 0)) vNil)) (vCons (vVar 2) (vCons (vTup (vCons (vVar 4) vNil)) vNil)))) vNil)) (vSeq (vCatL 5 (vCons (vTup (vCons (vVar 1) (vCons (vConst (.int 1)) (vCons (vVar 3) vNil)))) (vCons (vTup (vCons (vVar 1) (vCons (vConst (.int 4)) (vCons (vVar 3) vNil)))) (vCons (vTup (vCons (vVar 1) (vCons (vConst (.bool true)) (vCons (vVar 3) vNil)))) (vCons (vTup (vCons (vVar 1) (vCons (vVar 2) (vCons (vTup vNil) vNil)))) vNil))))) (vSeq (vCatL 5 (vCons (vTup (vCons (vVar 1) (vCons (vVar 2) (vCons (vOp gMul (vTup (vCons (vVar 4) vNil)) (vConst (.int 5))) vNil)))) vNil)) (vSeq (vCatL 5 (vCons (vTup (vCons (vVar 1) (vCons (vVar 2) (vCons (vLst (vCons (vVar 4) vNil)) vNil)))) (vCons (vTup (vCons (vVar 1) (vCons (vVar 2) (vCons (vTup (vCons (vTup (vCons (vConst (.str ("leaf" : Str))) (vCons (vOp gMul (vTup (vCons (vConst (.int 0)) vNil)) (vOp gAdd (vVar 2) (vConst (.int 1)))) vNil))) vNil)) vNil)))) vNil))) (vSeq (vCatL 5 (vCons (vTup (vCons (vVar 1) (vCons (vVar 2) (vCons (vTup (vCons (vOp gIx (vVar 4) (vConst (.int 1))) vNil)) vNil)))) vNil)) (vSeq (vCatL 5 (vCons (vTup (vCons (vVar 1) (vCons (vVar 2) (vCons (vTup (vCons (vTup (vCons (vConst (.str ("leaf" : Str))) (vCons (vOp gMul (vTup (vCons (vConst (.int 10)) vNil)) (vVar 2)) vNil))) vNil)) vNil)))) vNil)) (vSeq (vCatL 5 (vCons (vTup (vCons (vVar 1) (vCons (vVar 2) (vCons (vTup (vCons (vTup (vCons (vConst (.str ("leaf" : Str))) (vCons (vOp gMul (vTup (vCons (vConst (.bool true)) vNil)) (vVar 2)) vNil))) vNil)) vNil)))) (vCons (vTup (vCons (vVar 1) (vCons (vVar 2) (vCons (vTup (vCons (vConst .none) vNil)) vNil)))) vNil))) (vSeq (vSet 6 (vLst (vCons (vTup (vCons (vConst (.str ("below" : Str))) (vCons (vConst (.int 0)) (vCons (vTup (vCons (vConst (.int 2)) (vCons (vConst (.int 4)) vNil))) vNil)))) (vCons (vTup (vCons (vConst (.str ("below" : Str))) (vCons (vConst (.int 0)) (vCons (vTup (vCons (vConst (.int 1)) (vCons (vConst (.int 5)) vNil))) vNil)))) (vCons (vTup (vCons (vConst (.str ("below" : Str))) (vCons (vConst (.int 0)) (vCons (vTup (vCons (vConst (.int 100)) (vCons (vConst (.int 1)) vNil))) vNil)))) vNil))))) (vSeq (vSet 6 (vOp gAdd (vVar 6) (vLst (vCons (vTup (vCons (vConst (.str ("below" : Str))) (vCons (vConst (.int 1)) (vCons (vTup (vCons (vConst (.int 0)) (vCons (vConst (.int 1)) vNil))) vNil)))) (vCons (vTup (vCons (vConst (.str ("among" : Str))) (vCons (vConst (.int 0)) (vCons (vConst (.str ("a" : Str))) vNil)))) (vCons (vTup (vCons (vConst (.str ("at" : Str))) (vCons (vConst (.int 0)) (vCons (vTup (vCons (vConst (.int 0)) (vCons (vConst (.int 1)) vNil))) vNil)))) vNil)))))) (vSeq (vFor (vItems (vVar 6)) (wName 7) (vDrop (vAppend 5 (vTup (vCons (vTup (vCons (vConst (.str ("0" : Str))) vNil)) (vCons (vVar 2) (vCons (vTup (vCons (vOp gAdd (vVar 7) (vTup (vCons (vVar 4) (vCons (vVar 4) vNil)))) vNil)) vNil))))))) (vSeq (vSet 6 (vLst (vCons (vTup (vCons (vConst (.str ("among" : Str))) (vCons (vConst (.int 0)) (vCons (vConst (.str ("" : Str))) vNil)))) (vCons (vTup (vCons (vConst (.str ("among" : Str))) (vCons (vConst (.int 0)) (vCons (vConst (.str ("ba" : Str))) vNil)))) (vCons (vTup (vCons (vConst (.str ("among" : Str))) (vCons (vConst (.int 0)) (vCons (vConst (.str ("c" : Str))) vNil)))) (vCons (vTup (vCons (vConst (.str ("among" : Str))) (vCons (vConst (.bool true)) (vCons (vConst (.str ("a" : Str))) vNil)))) vNil)))))) (vSeq (vSet 6 (vOp gAdd (vVar 6) (vLst (vCons (vTup (vCons (vConst (.str ("below" : Str))) (vCons (vConst (.int 0)) (vCons (vTup (vCons (vConst (.int 0)) (vCons (vConst (.int 1)) vNil))) vNil)))) (vCons (vTup (vCons (vConst (.str ("among" : Str))) (vCons (vConst (.int 0)) (vCons (vConst (.str ("a" : Str))) (vCons (vConst (.int 0)) vNil))))) vNil))))) (vSeq (vFor (vItems (vVar 6)) (wName 7) (vDrop (vAppend 5 (vTup (vCons (vTup (vCons (vConst (.str ("ab" : Str))) vNil)) (vCons (vVar 2) (vCons (vTup (vCons (vOp gAdd (vVar 7) (vTup (vCons (vVar 4) (vCons (vVar 4) vNil)))) vNil)) vNil))))))) (vFrz 5 (vRet (vVar 5)))))))))))))))))))))))
def ph__law_bad_forests : List PyData → Res PyData := runP 8 1 (b__law_bad_forests)
abbrev s__law_row_tree : Stmt := top 89
theorem sc__law_row_tree : FnScope ["_law_many", "_law_leaf", "_law_found", "_law_turn"] ["_law_many", "_law_leaf"] (defScope s__law_row_tree) := ⟨rfl, rfl, rfl, by decide +kernel, rfl, by decide +kernel, by decide +kernel⟩
def b__law_row_tree : EvS := (vSeq (vSet 2 (vVar 1)) (vSeq (vFor (vRange (vOp gSub (vVar 0) (vConst (.int 1)))) (wName 3) (vSet 2 (vTup (vCons (vConst (.str ("below" : Str))) (vCons (vConst (.int 0)) (vCons (vTup (vCons (vVar 3) (vCons (vConst (.int 1)) vNil))) (vCons (vVar 1) (vCons (vVar 2) vNil)))))))) (vRet (vVar 2))))
def ph__law_row_tree : List PyData → Res PyData := runP 4 2 (b__law_row_tree)
abbrev s_is_whole : Stmt := top 18
theorem sc_is_whole : FnScope ["value"] ["value"] (defScope s_is_whole) := ⟨rfl, rfl, rfl, by decide +kernel, rfl, by decide +kernel, by decide +kernel⟩
def b_is_whole : EvS := (vRet (vAndV (vIsi "int" (vVar 0)) (vNotV (vIsi "bool" (vVar 0)))))
def ph_is_whole : List PyData → Res PyData := runP 1 1 (b_is_whole)
abbrev s_is_ascending : Stmt := top 22
theorem sc_is_ascending : FnScope ["text"] ["text"] (defScope s_is_ascending) := ⟨rfl, rfl, rfl, by decide +kernel, rfl, by decide +kernel, by decide +kernel⟩
def b_is_ascending : EvS := (vRet (vOp gEq (vCall gListA (vCons (vVar 0) vNil)) (vSortSet (vVar 0))))
def ph_is_ascending : List PyData → Res PyData := runP 1 1 (b_is_ascending)
abbrev s_is_kind : Stmt := top 23
theorem sc_is_kind : FnScope ["value", "letter"] ["value"] (defScope s_is_kind) := ⟨rfl, rfl, rfl, by decide +kernel, rfl, by decide +kernel, by decide +kernel⟩
def b_is_kind : EvS := (vSeq (vIfS (vNot (vTest (vIsi "str" (vVar 0)))) (vRet (vConst (.bool false))) vNext) (vSeq (vIfS (vTest (vOp gEq (vVar 0) (vConst (.str ("0" : Str))))) (vRet (vConst (.bool true))) vNext) (vSeq (vIfS (vNot (vTest (vChain gLe gLe (vConst (.int 2)) (vCall gLen (vCons (vVar 0) vNil)) (vConst (.int 4))))) (vRet (vConst (.bool false))) vNext) (vRet (vAndV (vCall gAll (vCons (vComp (vItems (vVar 0)) (wName 1) vTrue (vChain gLe gLe (vConst (.str ("a" : Str))) (vVar 1) (vConst (.str ("z" : Str)))) [1]) vNil)) (vApp ph_is_ascending (vCons (vVar 0) vNil)))))))
def ph_is_kind : List PyData → Res PyData := runP 2 1 (b_is_kind)
abbrev s_is_kinds : Stmt := top 24
theorem sc_is_kinds : FnScope ["value", "kind"] ["value"] (defScope s_is_kinds) := ⟨rfl, rfl, rfl, by decide +kernel, rfl, by decide +kernel, by decide +kernel⟩
def b_is_kinds : EvS := (vSeq (vIfS (vOr (vNot (vTest (vIsi "tuple" (vVar 0)))) (vNot (vTest (vChain gLe gLe (vConst (.int 1)) (vCall gLen (vCons (vVar 0) vNil)) (vConst (.int 3)))))) (vRet (vConst (.bool false))) vNext) (vRet (vCall gAll (vCons (vComp (vItems (vVar 0)) (wName 1) vTrue (vApp ph_is_kind (vCons (vVar 1) vNil)) [1]) vNil))))
def ph_is_kinds : List PyData → Res PyData := runP 2 1 (b_is_kinds)
abbrev s_is_fraction : Stmt := top 19
theorem sc_is_fraction : FnScope ["value", "top", "bottom"] ["value", "top", "bottom"] (defScope s_is_fraction) := ⟨rfl, rfl, rfl, by decide +kernel, rfl, by decide +kernel, by decide +kernel⟩
def b_is_fraction : EvS := (vSeq (vIfS (vOr (vNot (vTest (vIsi "tuple" (vVar 0)))) (vTest (vOp gNe (vCall gLen (vCons (vVar 0) vNil)) (vConst (.int 2))))) (vRet (vConst (.bool false))) vNext) (vSeq (vIfS (vOr (vNot (vTest (vApp ph_is_whole (vCons (vOp gIx (vVar 0) (vConst (.int 0))) vNil)))) (vNot (vTest (vApp ph_is_whole (vCons (vOp gIx (vVar 0) (vConst (.int 1))) vNil))))) (vRet (vConst (.bool false))) vNext) (vSeq (vIfS (vOr (vNot (vTest (vChain gLe gLe (vNeg (vVar 1)) (vOp gIx (vVar 0) (vConst (.int 0))) (vVar 1)))) (vNot (vTest (vChain gLe gLe (vConst (.int 1)) (vOp gIx (vVar 0) (vConst (.int 1))) (vVar 2))))) (vRet (vConst (.bool false))) vNext) (vRet (vOp gEq (vCall gGcd (vCons (vOp gIx (vVar 0) (vConst (.int 0))) (vCons (vOp gIx (vVar 0) (vConst (.int 1))) vNil))) (vConst (.int 1)))))))
def ph_is_fraction : List PyData → Res PyData := runP 3 3 (b_is_fraction)
abbrev s_is_part : Stmt := top 25
theorem sc_is_part : FnScope ["value", "kinds"] ["value", "kinds"] (defScope s_is_part) := ⟨rfl, rfl, rfl, by decide +kernel, rfl, by decide +kernel, by decide +kernel⟩
def b_is_part : EvS := (vRet (vAndV (vApp ph_is_whole (vCons (vVar 0) vNil)) (vChain gLe gLt (vConst (.int 0)) (vVar 0) (vCall gLen (vCons (vVar 1) vNil)))))
def ph_is_part : List PyData → Res PyData := runP 2 2 (b_is_part)
abbrev s_is_marks : Stmt := top 26
theorem sc_is_marks : FnScope ["value", "kind", "letter"] ["value", "kind"] (defScope s_is_marks) := ⟨rfl, rfl, rfl, by decide +kernel, rfl, by decide +kernel, by decide +kernel⟩
def b_is_marks : EvS := (vSeq (vIfS (vOr (vNot (vTest (vIsi "str" (vVar 0)))) (vNot (vTest (vChain gLe gLe (vConst (.int 1)) (vCall gLen (vCons (vVar 0) vNil)) (vCall gLen (vCons (vVar 1) vNil)))))) (vRet (vConst (.bool false))) vNext) (vRet (vAndV (vCall gAll (vCons (vComp (vItems (vVar 0)) (wName 2) vTrue (vOp gIn (vVar 2) (vVar 1)) [2]) vNil)) (vApp ph_is_ascending (vCons (vVar 0) vNil)))))
def ph_is_marks : List PyData → Res PyData := runP 3 2 (b_is_marks)
abbrev s_is_test : Stmt := top 46
theorem sc_is_test : FnScope ["word", "part", "bound", "kinds"] ["word", "part", "bound", "kinds"] (defScope s_is_test) := ⟨rfl, rfl, rfl, by decide +kernel, rfl, by decide +kernel, by decide +kernel⟩
def b_is_test : EvS := (vSeq (vIfS (vNot (vTest (vApp ph_is_part (vCons (vVar 1) (vCons (vVar 3) vNil))))) (vRet (vConst (.bool false))) vNext) (vSeq (vIfS (vTest (vOp gEq (vOp gIx (vVar 3) (vVar 1)) (vConst (.str ("0" : Str))))) (vRet (vAndV (vOp gEq (vVar 0) (vConst (.str ("below" : Str)))) (vApp ph_is_fraction (vCons (vVar 2) (vCons (vConst (.int 99)) (vCons (vConst (.int 4)) vNil)))))) vNext) (vRet (vAndV (vOp gEq (vVar 0) (vConst (.str ("among" : Str)))) (vApp ph_is_marks (vCons (vVar 2) (vCons (vOp gIx (vVar 3) (vVar 1)) vNil)))))))
def ph_is_test : List PyData → Res PyData := runP 4 4 (b_is_test)
abbrev s_is_votes : Stmt := top 47
theorem sc_is_votes : FnScope ["value", "answers", "vote"] ["value", "answers"] (defScope s_is_votes) := ⟨rfl, rfl, rfl, by decide +kernel, rfl, by decide +kernel, by decide +kernel⟩
def b_is_votes : EvS := (vSeq (vIfS (vOr (vNot (vTest (vIsi "tuple" (vVar 0)))) (vTest (vOp gNe (vCall gLen (vCons (vVar 0) vNil)) (vVar 1)))) (vRet (vConst (.bool false))) vNext) (vRet (vCall gAll (vCons (vComp (vItems (vVar 0)) (wName 2) vTrue (vAndV (vApp ph_is_whole (vCons (vVar 2) vNil)) (vChain gLe gLe (vNeg (vConst (.int 9))) (vVar 2) (vConst (.int 9)))) [2]) vNil))))
def ph_is_votes : List PyData → Res PyData := runP 3 2 (b_is_votes)
abbrev s_is_branch : Stmt := top 45
theorem sc_is_branch : FnScope ["value", "kinds", "answers", "tests_left", "word", "part", "bound", "first", "second"] ["value", "kinds", "answers", "tests_left"] (defScope s_is_branch) := ⟨rfl, rfl, rfl, by decide +kernel, rfl, by decide +kernel, by decide +kernel⟩
def b_is_branch (self : List PyData → Res PyData) : EvS := (vSeq (vIfS (vOr (vNot (vTest (vIsi "tuple" (vVar 0)))) (vTest (vOp gEq (vCall gLen (vCons (vVar 0) vNil)) (vConst (.int 0))))) (vRet (vConst (.bool false))) vNext) (vSeq (vIfS (vTest (vOp gEq (vOp gIx (vVar 0) (vConst (.int 0))) (vConst (.str ("leaf" : Str))))) (vRet (vAndV (vOp gEq (vCall gLen (vCons (vVar 0) vNil)) (vConst (.int 2))) (vApp ph_is_votes (vCons (vOp gIx (vVar 0) (vConst (.int 1))) (vCons (vVar 2) vNil))))) vNext) (vSeq (vIfS (vOr (vTest (vOp gEq (vVar 3) (vConst (.int 0)))) (vTest (vOp gNe (vCall gLen (vCons (vVar 0) vNil)) (vConst (.int 5))))) (vRet (vConst (.bool false))) vNext) (vSeq (vAsg (vVar 0) (wTup 5 (wCons (wName 4) (wCons (wName 5) (wCons (wName 6) (wCons (wName 7) (wCons (wName 8) wNil))))))) (vSeq (vIfS (vNot (vTest (vApp ph_is_test (vCons (vVar 4) (vCons (vVar 5) (vCons (vVar 6) (vCons (vVar 1) vNil))))))) (vRet (vConst (.bool false))) vNext) (vRet (vAndV (vApp self (vCons (vVar 7) (vCons (vVar 1) (vCons (vVar 2) (vCons (vOp gSub (vVar 3) (vConst (.int 1))) vNil))))) (vApp self (vCons (vVar 8) (vCons (vVar 1) (vCons (vVar 2) (vCons (vOp gSub (vVar 3) (vConst (.int 1))) vNil))))))))))))
def ph_is_branch : Nat → List PyData → Res PyData
  | 0 => fun _ => .bad
  | n + 1 => runP 9 4 (b_is_branch (ph_is_branch n))
abbrev s_leaves_of : Stmt := top 48
theorem sc_leaves_of : FnScope ["tree"] ["tree"] (defScope s_leaves_of) := ⟨rfl, rfl, rfl, by decide +kernel, rfl, by decide +kernel, by decide +kernel⟩
def b_leaves_of (self : List PyData → Res PyData) : EvS := (vSeq (vIfS (vTest (vOp gEq (vOp gIx (vVar 0) (vConst (.int 0))) (vConst (.str ("leaf" : Str))))) (vRet (vConst (.int 1))) vNext) (vRet (vOp gAdd (vApp self (vCons (vOp gIx (vVar 0) (vConst (.int 3))) vNil)) (vApp self (vCons (vOp gIx (vVar 0) (vConst (.int 4))) vNil)))))
def ph_leaves_of : Nat → List PyData → Res PyData
  | 0 => fun _ => .bad
  | n + 1 => runP 1 1 (b_leaves_of (ph_leaves_of n))
abbrev s_is_tree : Stmt := top 44
theorem sc_is_tree : FnScope ["value", "kinds", "answers"] ["value", "kinds", "answers"] (defScope s_is_tree) := ⟨rfl, rfl, rfl, by decide +kernel, rfl, by decide +kernel, by decide +kernel⟩
def b_is_tree : EvS := (vRet (vAndV (vApp (ph_is_branch 9) (vCons (vVar 0) (vCons (vVar 1) (vCons (vVar 2) (vCons (vConst (.int 7)) vNil))))) (vOp gLe (vApp (ph_leaves_of 9) (vCons (vVar 0) vNil)) (vConst (.int 8)))))
def ph_is_tree : List PyData → Res PyData := runP 3 3 (b_is_tree)
abbrev s_is_forest : Stmt := top 40
theorem sc_is_forest : FnScope ["value", "kinds", "answers", "trees", "tree"] ["value"] (defScope s_is_forest) := ⟨rfl, rfl, rfl, by decide +kernel, rfl, by decide +kernel, by decide +kernel⟩
def b_is_forest : EvS := (vSeq (vIfS (vOr (vNot (vTest (vIsi "tuple" (vVar 0)))) (vTest (vOp gNe (vCall gLen (vCons (vVar 0) vNil)) (vConst (.int 3))))) (vRet (vConst (.bool false))) vNext) (vSeq (vAsg (vVar 0) (wTup 3 (wCons (wName 1) (wCons (wName 2) (wCons (wName 3) wNil))))) (vSeq (vIfS (vOr (vNot (vTest (vApp ph_is_kinds (vCons (vVar 1) vNil)))) (vNot (vTest (vApp ph_is_whole (vCons (vVar 2) vNil))))) (vRet (vConst (.bool false))) vNext) (vSeq (vIfS (vNot (vTest (vChain gLe gLe (vConst (.int 2)) (vVar 2) (vConst (.int 3))))) (vRet (vConst (.bool false))) vNext) (vSeq (vIfS (vOr (vNot (vTest (vIsi "tuple" (vVar 3)))) (vNot (vTest (vChain gLe gLe (vConst (.int 1)) (vCall gLen (vCons (vVar 3) vNil)) (vConst (.int 4)))))) (vRet (vConst (.bool false))) vNext) (vRet (vCall gAll (vCons (vComp (vItems (vVar 3)) (wName 4) vTrue (vApp ph_is_tree (vCons (vVar 4) (vCons (vVar 1) (vCons (vVar 2) vNil)))) [4]) vNil))))))))
def ph_is_forest : List PyData → Res PyData := runP 5 1 (b_is_forest)
abbrev s_check_forest : Stmt := top 42
theorem sc_check_forest : FnScope ["forest"] ["forest"] (defScope s_check_forest) := ⟨rfl, rfl, rfl, by decide +kernel, rfl, by decide +kernel, by decide +kernel⟩
def b_check_forest : EvS := (vIfS (vNot (vTest (vApp ph_is_forest (vCons (vVar 0) vNil)))) (vRaise ("InvalidForest" : Str)) vNext)
def ph_check_forest : List PyData → Res PyData := runP 1 1 (b_check_forest)
abbrev s_count_leaves : Stmt := top 41
theorem sc_count_leaves : FnScope ["forest", "tree"] ["forest"] (defScope s_count_leaves) := ⟨rfl, rfl, rfl, by decide +kernel, rfl, by decide +kernel, by decide +kernel⟩
def b_count_leaves : EvS := (vSeq (vDrop (vApp ph_check_forest (vCons (vVar 0) vNil))) (vRet (vCall gSum (vCons (vComp (vItems (vOp gIx (vVar 0) (vConst (.int 2)))) (wName 1) vTrue (vApp (ph_leaves_of 9) (vCons (vVar 1) vNil)) [1]) vNil))))
def ph_count_leaves : List PyData → Res PyData := runP 2 1 (b_count_leaves)
abbrev s_votes_form : Stmt := top 65
theorem sc_votes_form : FnScope ["forest"] ["forest"] (defScope s_votes_form) := ⟨rfl, rfl, rfl, by decide +kernel, rfl, by decide +kernel, by decide +kernel⟩
def b_votes_form : EvS := (vSeq (vDrop (vApp ph_check_forest (vCons (vVar 0) vNil))) (fun _ => .bad))
def ph_votes_form : List PyData → Res PyData := runP 1 1 (b_votes_form)
abbrev s_check_pair : Stmt := top 43
theorem sc_check_pair : FnScope ["forest", "other"] ["forest", "other"] (defScope s_check_pair) := ⟨rfl, rfl, rfl, by decide +kernel, rfl, by decide +kernel, by decide +kernel⟩
def b_check_pair : EvS := (vSeq (vDrop (vApp ph_check_forest (vCons (vVar 0) vNil))) (vSeq (vDrop (vApp ph_check_forest (vCons (vVar 1) vNil))) (vIfS (vTest (vOp gNe (vSl (vVar 0) vNoPart (vPart (vConst (.int 2)))) (vSl (vVar 1) vNoPart (vPart (vConst (.int 2)))))) (vRaise ("NoFit" : Str)) vNext)))
def ph_check_pair : List PyData → Res PyData := runP 2 2 (b_check_pair)
abbrev s_joined : Stmt := top 72
theorem sc_joined : FnScope ["forest", "other", "kinds", "answers", "trees", "together"] ["forest", "other"] (defScope s_joined) := ⟨rfl, rfl, rfl, by decide +kernel, rfl, by decide +kernel, by decide +kernel⟩
def b_joined : EvS := (vSeq (vDrop (vApp ph_check_pair (vCons (vVar 0) (vCons (vVar 1) vNil)))) (fun _ => .bad))
def ph_joined : List PyData → Res PyData := runP 6 2 (b_joined)
end
end Vw
set_option Elab.async false
set_option linter.all false
set_option maxRecDepth 100000
set_option maxHeartbeats 4000000
namespace Vw
open PySem PySem.Spec L2 DL
section
variable {P : Program} {w : World} {K : PySem.W.Frag} {mg : Str → Option Value} {base : Heap}
theorem c__law_bad_forests (T : Tx K mg) : Cal P w K mg base "_law_bad_forests" 1 (spP K mg ph__law_bad_forests) :=
  def_p (b := b__law_bad_forests) T.d__law_bad_forests sc__law_bad_forests rfl rfl (fun cdv f A outer s H E hr => by
    have tk := L2N.takes_of (X := cxOf (L2N.CX P w) P w K mg base ["_law_forest_here", "_law_kinds_here", "_law_answers", "_law_trees", "_law_leaf", "_law_bad", "_law_cases", "_law_test"] "_law_bad_forests" (defScope s__law_bad_forests) f cdv A outer s H E) (E := E) rfl rfl rfl rfl
    have nd := sc__law_bad_forests.nd
    exact (dss_cons (ds_asg (de_var (pv 0)) (by exact (dg_tup rfl (dgs_cons (by exact (dg_name (i := 1) nd)) (dgs_cons (by exact (dg_name (i := 2) nd)) (dgs_cons (by exact (dg_name (i := 3) nd)) dgs_nil)))))) (dss_cons (ds_set (i := 4) nd (by exact (de_tup (by exact (da_cons de_str (da_cons (by exact (de_op opd_mul (by exact (de_tup (by exact (da_cons de_int da_nil)))) (de_var (pv 2)))) da_nil)))))) (dss_cons (ds_setL (i := 5) nd (by exact (da_cons de_non (da_cons de_int (da_cons (by exact (de_callTy (cd_listA rfl) T.n_list (by decide +kernel) (by exact (da_cons (de_var (pv 0)) da_nil)))) (da_cons (by exact (de_slice (de_var (pv 0)) do_none (do_some de_int))) (da_cons (by exact (de_op opd_add (de_var (pv 0)) (by exact (de_tup (by exact (da_cons de_int da_nil)))))) (da_cons (by exact (de_tup (by exact (da_cons (by exact (de_tup da_nil)) (da_cons (de_var (pv 2)) (da_cons (de_var (pv 3)) da_nil)))))) da_nil)))))))) (dss_cons (ds_catL (i := 5) nd (pv 5) (by exact (da_cons (by exact (de_tup (by exact (da_cons (by exact (de_callTy (cd_listA rfl) T.n_list (by decide +kernel) (by exact (da_cons (de_var (pv 1)) da_nil)))) (da_cons (de_var (pv 2)) (da_cons (de_var (pv 3)) da_nil)))))) da_nil))) (dss_cons (ds_catL (i := 5) nd (pv 5) (by exact (da_cons (by exact (de_tup (by exact (da_cons (by exact (de_op opd_mul (by exact (de_tup (by exact (da_cons de_str da_nil)))) de_int)) (da_cons (de_var (pv 2)) (da_cons (by exact (de_tup (by exact (da_cons (de_var (pv 4)) da_nil)))) da_nil)))))) (da_cons (by exact (de_tup (by exact (da_cons (by exact (de_tup (by exact (da_cons de_str da_nil)))) (da_cons (de_var (pv 2)) (da_cons (by exact (de_tup (by exact (da_cons (de_var (pv 4)) da_nil)))) da_nil)))))) (da_cons (by exact (de_tup (by exact (da_cons (by exact (de_tup (by exact (da_cons de_str da_nil)))) (da_cons (de_var (pv 2)) (da_cons (by exact (de_tup (by exact (da_cons (de_var (pv 4)) da_nil)))) da_nil)))))) da_nil))))) (dss_cons (ds_catL (i := 5) nd (pv 5) (by exact (da_cons (by exact (de_tup (by exact (da_cons (by exact (de_tup (by exact (da_cons de_str da_nil)))) (da_cons (de_var (pv 2)) (da_cons (by exact (de_tup (by exact (da_cons (de_var (pv 4)) da_nil)))) da_nil)))))) da_nil))) (dss_cons (ds_catL (i := 5) nd (pv 5) (by exact (da_cons (by exact (de_tup (by exact (da_cons (by exact (de_tup (by exact (da_cons de_str da_nil)))) (da_cons (de_var (pv 2)) (da_cons (by exact (de_tup (by exact (da_cons (de_var (pv 4)) da_nil)))) da_nil)))))) (da_cons (by exact (de_tup (by exact (da_cons (by exact (de_tup (by exact (da_cons de_str da_nil)))) (da_cons (de_var (pv 2)) (da_cons (by exact (de_tup (by exact (da_cons (de_var (pv 4)) da_nil)))) da_nil)))))) (da_cons (by exact (de_tup (by exact (da_cons (by exact (de_tup (by exact (da_cons de_str da_nil)))) (da_cons (de_var (pv 2)) (da_cons (by exact (de_tup (by exact (da_cons (de_var (pv 4)) da_nil)))) da_nil)))))) da_nil))))) (dss_cons (ds_catL (i := 5) nd (pv 5) (by exact (da_cons (by exact (de_tup (by exact (da_cons (by exact (de_tup (by exact (da_cons de_int da_nil)))) (da_cons (de_var (pv 2)) (da_cons (by exact (de_tup (by exact (da_cons (de_var (pv 4)) da_nil)))) da_nil)))))) da_nil))) (dss_cons (ds_catL (i := 5) nd (pv 5) (by exact (da_cons (by exact (de_tup (by exact (da_cons (de_var (pv 1)) (da_cons de_int (da_cons (de_var (pv 3)) da_nil)))))) (da_cons (by exact (de_tup (by exact (da_cons (de_var (pv 1)) (da_cons de_int (da_cons (de_var (pv 3)) da_nil)))))) (da_cons (by exact (de_tup (by exact (da_cons (de_var (pv 1)) (da_cons de_bl (da_cons (de_var (pv 3)) da_nil)))))) (da_cons (by exact (de_tup (by exact (da_cons (de_var (pv 1)) (da_cons (de_var (pv 2)) (da_cons (by exact (de_tup da_nil)) da_nil)))))) da_nil)))))) (dss_cons (ds_catL (i := 5) nd (pv 5) (by exact (da_cons (by exact (de_tup (by exact (da_cons (de_var (pv 1)) (da_cons (de_var (pv 2)) (da_cons (by exact (de_op opd_mul (by exact (de_tup (by exact (da_cons (de_var (pv 4)) da_nil)))) de_int)) da_nil)))))) da_nil))) (dss_cons (ds_catL (i := 5) nd (pv 5) (by exact (da_cons (by exact (de_tup (by exact (da_cons (de_var (pv 1)) (da_cons (de_var (pv 2)) (da_cons (by exact (de_lst (by exact (da_cons (de_var (pv 4)) da_nil)))) da_nil)))))) (da_cons (by exact (de_tup (by exact (da_cons (de_var (pv 1)) (da_cons (de_var (pv 2)) (da_cons (by exact (de_tup (by exact (da_cons (by exact (de_tup (by exact (da_cons de_str (da_cons (by exact (de_op opd_mul (by exact (de_tup (by exact (da_cons de_int da_nil)))) (by exact (de_op opd_add (de_var (pv 2)) de_int)))) da_nil))))) da_nil)))) da_nil)))))) da_nil)))) (dss_cons (ds_catL (i := 5) nd (pv 5) (by exact (da_cons (by exact (de_tup (by exact (da_cons (de_var (pv 1)) (da_cons (de_var (pv 2)) (da_cons (by exact (de_tup (by exact (da_cons (by exact (de_ix (de_var (pv 4)) de_int)) da_nil)))) da_nil)))))) da_nil))) (dss_cons (ds_catL (i := 5) nd (pv 5) (by exact (da_cons (by exact (de_tup (by exact (da_cons (de_var (pv 1)) (da_cons (de_var (pv 2)) (da_cons (by exact (de_tup (by exact (da_cons (by exact (de_tup (by exact (da_cons de_str (da_cons (by exact (de_op opd_mul (by exact (de_tup (by exact (da_cons de_int da_nil)))) (de_var (pv 2)))) da_nil))))) da_nil)))) da_nil)))))) da_nil))) (dss_cons (ds_catL (i := 5) nd (pv 5) (by exact (da_cons (by exact (de_tup (by exact (da_cons (de_var (pv 1)) (da_cons (de_var (pv 2)) (da_cons (by exact (de_tup (by exact (da_cons (by exact (de_tup (by exact (da_cons de_str (da_cons (by exact (de_op opd_mul (by exact (de_tup (by exact (da_cons de_bl da_nil)))) (de_var (pv 2)))) da_nil))))) da_nil)))) da_nil)))))) (da_cons (by exact (de_tup (by exact (da_cons (de_var (pv 1)) (da_cons (de_var (pv 2)) (da_cons (by exact (de_tup (by exact (da_cons de_non da_nil)))) da_nil)))))) da_nil)))) (dss_cons (ds_set (i := 6) nd (by exact (de_lst (by exact (da_cons (by exact (de_tup (by exact (da_cons de_str (da_cons de_int (da_cons (by exact (de_tup (by exact (da_cons de_int (da_cons de_int da_nil))))) da_nil)))))) (da_cons (by exact (de_tup (by exact (da_cons de_str (da_cons de_int (da_cons (by exact (de_tup (by exact (da_cons de_int (da_cons de_int da_nil))))) da_nil)))))) (da_cons (by exact (de_tup (by exact (da_cons de_str (da_cons de_int (da_cons (by exact (de_tup (by exact (da_cons de_int (da_cons de_int da_nil))))) da_nil)))))) da_nil))))))) (dss_cons (ds_set (i := 6) nd (by exact (de_op opd_add (de_var (pv 6)) (by exact (de_lst (by exact (da_cons (by exact (de_tup (by exact (da_cons de_str (da_cons de_int (da_cons (by exact (de_tup (by exact (da_cons de_int (da_cons de_int da_nil))))) da_nil)))))) (da_cons (by exact (de_tup (by exact (da_cons de_str (da_cons de_int (da_cons de_str da_nil)))))) (da_cons (by exact (de_tup (by exact (da_cons de_str (da_cons de_int (da_cons (by exact (de_tup (by exact (da_cons de_int (da_cons de_int da_nil))))) da_nil)))))) da_nil))))))))) (dss_cons (ds_for (passes_of rfl) rfl (by exact (di_any (de_var (pv 6)))) (by exact (dg_name (i := 7) nd)) (by exact (dss_one (ds_expr (by exact (de_append (pv 5) (by exact (de_tup (by exact (da_cons (by exact (de_tup (by exact (da_cons de_str da_nil)))) (da_cons (de_var (pv 2)) (da_cons (by exact (de_tup (by exact (da_cons (by exact (de_op opd_add (de_var (pv 7)) (by exact (de_tup (by exact (da_cons (de_var (pv 4)) (da_cons (de_var (pv 4)) da_nil))))))) da_nil)))) da_nil)))))))))))) (dss_cons (ds_set (i := 6) nd (by exact (de_lst (by exact (da_cons (by exact (de_tup (by exact (da_cons de_str (da_cons de_int (da_cons de_str da_nil)))))) (da_cons (by exact (de_tup (by exact (da_cons de_str (da_cons de_int (da_cons de_str da_nil)))))) (da_cons (by exact (de_tup (by exact (da_cons de_str (da_cons de_int (da_cons de_str da_nil)))))) (da_cons (by exact (de_tup (by exact (da_cons de_str (da_cons de_bl (da_cons de_str da_nil)))))) da_nil)))))))) (dss_cons (ds_set (i := 6) nd (by exact (de_op opd_add (de_var (pv 6)) (by exact (de_lst (by exact (da_cons (by exact (de_tup (by exact (da_cons de_str (da_cons de_int (da_cons (by exact (de_tup (by exact (da_cons de_int (da_cons de_int da_nil))))) da_nil)))))) (da_cons (by exact (de_tup (by exact (da_cons de_str (da_cons de_int (da_cons de_str (da_cons de_int da_nil))))))) da_nil)))))))) (dss_cons (ds_for (passes_of rfl) rfl (by exact (di_any (de_var (pv 6)))) (by exact (dg_name (i := 7) nd)) (by exact (dss_one (ds_expr (by exact (de_append (pv 5) (by exact (de_tup (by exact (da_cons (by exact (de_tup (by exact (da_cons de_str da_nil)))) (da_cons (de_var (pv 2)) (da_cons (by exact (de_tup (by exact (da_cons (by exact (de_op opd_add (de_var (pv 7)) (by exact (de_tup (by exact (da_cons (de_var (pv 4)) (da_cons (de_var (pv 4)) da_nil))))))) da_nil)))) da_nil)))))))))))) (dss_frz 5 (dss_one (ds_ret (de_var (pv 5))))))))))))))))))))))))))
end
end Vw
set_option Elab.async false
set_option linter.all false
set_option maxRecDepth 100000
set_option maxHeartbeats 4000000
set_option Elab.async false
set_option linter.all false
set_option maxRecDepth 100000
set_option maxHeartbeats 4000000
namespace Vw
open PySem PySem.Spec L2 DL
section
variable {P : Program} {w : World} {K : PySem.W.Frag} {mg : Str → Option Value} {base : Heap}
theorem c__law_drawn (T : Tx K mg) : Cal P w K mg base "_law_drawn" 1 (spP K mg ph__law_drawn) :=
  def_p (b := b__law_drawn) T.d__law_drawn sc__law_drawn rfl rfl (fun cdv f A outer s H E hr => by
    have tk := L2N.takes_of (X := cxOf (L2N.CX P w) P w K mg base ["_law_cell_here", "_law_k", "_law_more"] "_law_drawn" (defScope s__law_drawn) f cdv A outer s H E) (E := E) rfl rfl rfl rfl
    have nd := sc__law_drawn.nd
    exact (dss_cons (ds_set (i := 2) nd (by exact (de_op opd_mod (by exact (de_op opd_add (by exact (de_op opd_mul (de_var (pv 0)) de_int)) (by exact (de_op opd_mul (by exact (de_op opd_add (de_var (pv 1)) de_int)) de_int)))) de_int))) (dss_cons (ds_set (i := 2) nd (by exact (de_op opd_mod (by exact (de_op opd_mul (de_var (pv 2)) (de_var (pv 2)))) de_int))) (dss_cons (ds_set (i := 2) nd (by exact (de_op opd_mul (by exact (de_op opd_mul (by exact (de_op opd_add (by exact (de_op opd_mod (de_var (pv 2)) de_int)) de_int)) (by exact (de_op opd_add (by exact (de_op opd_fdiv (de_var (pv 2)) de_int)) de_int)))) (de_var (pv 2))))) (dss_one (ds_ret (by exact (de_op opd_mod (de_var (pv 2)) de_int))))))))
end
end Vw
set_option Elab.async false
set_option linter.all false
set_option maxRecDepth 100000
set_option maxHeartbeats 4000000
namespace Vw
open PySem PySem.Spec L2 DL
section
variable {P : Program} {w : World} {K : PySem.W.Frag} {mg : Str → Option Value} {base : Heap}
theorem c__law_forest (T : Tx K mg) (C__law_forest_of : Cal P w K mg base "_law_forest_of" 13 (spM K mg ph__law_forest_of)) (C__law_kinds : Cal P w K mg base "_law_kinds" 3 (spM K mg ph__law_kinds)) (C__law_roll : Cal P w K mg base "_law_roll" 2 (spM K mg ph__law_roll)) : Cal P w K mg base "_law_forest" 14 (spM K mg ph__law_forest) :=
  def_m (b := b__law_forest) T.d__law_forest sc__law_forest rfl rfl (fun cdv f A outer s H E hr => by
    have tk := L2N.takes_of (X := cxOf (L2N.CX P w) P w K mg base ["_law_dice", "_law_trees", "_law_leaves"] "_law_forest" (defScope s__law_forest) f cdv A outer s H E) (E := E) rfl rfl rfl rfl
    have nd := sc__law_forest.nd
    exact (dss_one (ds_ret (by exact (de_callM C__law_forest_of (rr hr) tk (pv 0) (by exact (da_cons (by exact (de_callM C__law_kinds (rr hr) tk (pv 0) da_nil)) (da_cons (by exact (de_op opd_add de_int (by exact (de_callM C__law_roll (rr hr) tk (pv 0) (by exact (da_cons de_int da_nil)))))) (da_cons (de_var (pv 1)) (da_cons (de_var (pv 2)) da_nil))))))))))
end
end Vw
set_option Elab.async false
set_option linter.all false
set_option maxRecDepth 100000
set_option maxHeartbeats 4000000
namespace Vw
open PySem PySem.Spec L2 DL
section
variable {P : Program} {w : World} {K : PySem.W.Frag} {mg : Str → Option Value} {base : Heap}
theorem c__law_forest_of (T : Tx K mg) (C__law_roll : Cal P w K mg base "_law_roll" 2 (spM K mg ph__law_roll)) (C__law_tree : Cal P w K mg base "_law_tree" 12 (spM K mg (ph__law_tree 9))) : Cal P w K mg base "_law_forest_of" 13 (spM K mg ph__law_forest_of) :=
  def_m (b := b__law_forest_of) T.d__law_forest_of sc__law_forest_of rfl rfl (fun cdv f A outer s H E hr => by
    have tk := L2N.takes_of (X := cxOf (L2N.CX P w) P w K mg base ["_law_dice", "_law_kinds_here", "_law_answers", "_law_trees", "_law_leaves", "_law_found", "_law_at"] "_law_forest_of" (defScope s__law_forest_of) f cdv A outer s H E) (E := E) rfl rfl rfl rfl
    have nd := sc__law_forest_of.nd
    exact (dss_cons (ds_setLc (i := 5) [("_law_at", 6)] (ts := [6]) rfl nd (by exact (di_range (by exact (de_op opd_add de_int (by exact (de_callM C__law_roll (rr hr) tk (pv 0) (by exact (da_cons (de_var (pv 3)) da_nil)))))) T.n_range)) (by kernel_rfl) (by decide) (fun _ _ _ _ _ => (by exact (dg_name (i := 6) nd))) (fun _ _ _ _ _ => dts_nil) (fun _ _ _ _ _ => (by exact (de_callM C__law_tree (rr hr) DL.takesN (pv 0) (by exact (da_cons (de_var (pv 1)) (da_cons (de_var (pv 2)) (da_cons (by exact (de_op opd_add de_int (by exact (de_callM C__law_roll (rr hr) DL.takesN (pv 0) (by exact (da_cons (de_var (pv 4)) da_nil)))))) da_nil)))))))) (dss_one (ds_ret (by exact (de_tup (by exact (da_cons (de_var (pv 1)) (da_cons (de_var (pv 2)) (da_cons (by exact (de_callTy cd_tuple T.n_tuple (by decide +kernel) (by exact (da_cons (de_var (pv 5)) da_nil)))) da_nil))))))))))
end
end Vw
set_option Elab.async false
set_option linter.all false
set_option maxRecDepth 100000
set_option maxHeartbeats 4000000
namespace Vw
open PySem PySem.Spec L2 DL
section
variable {P : Program} {w : World} {K : PySem.W.Frag} {mg : Str → Option Value} {base : Heap}
theorem c__law_kinds (T : Tx K mg) (C__law_roll : Cal P w K mg base "_law_roll" 2 (spM K mg ph__law_roll)) : Cal P w K mg base "_law_kinds" 3 (spM K mg ph__law_kinds) :=
  def_m (b := b__law_kinds) T.d__law_kinds sc__law_kinds rfl rfl (fun cdv f A outer s H E hr => by
    have tk := L2N.takes_of (X := cxOf (L2N.CX P w) P w K mg base ["_law_dice", "_law_some", "_law_at"] "_law_kinds" (defScope s__law_kinds) f cdv A outer s H E) (E := E) rfl rfl rfl rfl
    have nd := sc__law_kinds.nd
    exact (dss_cons (ds_set (i := 1) nd (by exact (de_lst (by exact (da_cons de_str (da_cons de_str (da_cons de_str (da_cons de_str (da_cons de_str (da_cons de_str (da_cons de_str da_nil))))))))))) (dss_one (ds_ret (by exact (de_callTy cd_tuple T.n_tuple (by decide +kernel) (by exact (da_cons (by exact (de_lc [("_law_at", 2)] (ts := [2]) rfl nd (by exact (di_range (by exact (de_op opd_add de_int (by exact (de_callM C__law_roll (rr hr) tk (pv 0) (by exact (da_cons de_int da_nil)))))) T.n_range)) (by kernel_rfl) (by decide) (fun _ _ _ _ _ => (by exact (dg_name (i := 2) nd))) (fun _ _ _ _ _ => dts_nil) (fun _ _ _ _ _ => (by exact (de_ix (de_var (pv 1)) (by exact (de_callM C__law_roll (rr hr) DL.takesN (pv 0) (by exact (da_cons de_int da_nil))))))))) da_nil))))))))
end
end Vw
set_option Elab.async false
set_option linter.all false
set_option maxRecDepth 100000
set_option maxHeartbeats 4000000
namespace Vw
open PySem PySem.Spec L2 DL
section
variable {P : Program} {w : World} {K : PySem.W.Frag} {mg : Str → Option Value} {base : Heap}
theorem c__law_low (T : Tx K mg) : Cal P w K mg base "_law_low" 1 (spP K mg ph__law_low) :=
  def_p (b := b__law_low) T.d__law_low sc__law_low rfl rfl (fun cdv f A outer s H E hr => by
    have tk := L2N.takes_of (X := cxOf (L2N.CX P w) P w K mg base ["_law_top", "_law_bottom", "_law_one", "_law_other"] "_law_low" (defScope s__law_low) f cdv A outer s H E) (E := E) rfl rfl rfl rfl
    have nd := sc__law_low.nd
    exact (dss_cons (ds_par (i := 2) (j := 3) rfl nd (by exact (da_cons (by exact (de_callB cd_abs T.n_abs (by decide +kernel) (by exact (da_cons (de_var (pv 0)) da_nil)))) (da_cons (de_var (pv 1)) da_nil))) (by decide)) (dss_cons (ds_while 400 (passes_of rfl) (by exact (dt_cmp (opd_ne (hu64 hr)) (de_var (pv 3)) de_int)) (by exact (dss_one (ds_par (i := 2) (j := 3) rfl nd (by exact (da_cons (de_var (pv 3)) (da_cons (by exact (de_op opd_mod (de_var (pv 2)) (de_var (pv 3)))) da_nil))) (by decide))))) (dss_one (ds_ret (by exact (de_tup (by exact (da_cons (by exact (de_op opd_fdiv (de_var (pv 0)) (de_var (pv 2)))) (da_cons (by exact (de_op opd_fdiv (de_var (pv 1)) (de_var (pv 2)))) da_nil))))))))))
end
end Vw
set_option Elab.async false
set_option linter.all false
set_option maxRecDepth 100000
set_option maxHeartbeats 4000000
namespace Vw
open PySem PySem.Spec L2 DL
section
variable {P : Program} {w : World} {K : PySem.W.Frag} {mg : Str → Option Value} {base : Heap}
theorem c__law_place (T : Tx K mg) (C__law_low : Cal P w K mg base "_law_low" 1 (spP K mg ph__law_low)) (C__law_roll : Cal P w K mg base "_law_roll" 2 (spM K mg ph__law_roll)) : Cal P w K mg base "_law_place" 3 (spM K mg ph__law_place) :=
  def_m (b := b__law_place) T.d__law_place sc__law_place rfl rfl (fun cdv f A outer s H E hr => by
    have tk := L2N.takes_of (X := cxOf (L2N.CX P w) P w K mg base ["_law_dice"] "_law_place" (defScope s__law_place) f cdv A outer s H E) (E := E) rfl rfl rfl rfl
    have nd := sc__law_place.nd
    exact (dss_one (ds_ret (by exact (de_call C__law_low (rr hr) tk (by exact (da_cons (by exact (de_op opd_sub (by exact (de_callM C__law_roll (rr hr) tk (pv 0) (by exact (da_cons de_int da_nil)))) de_int)) (da_cons (by exact (de_ix (by exact (de_lst (by exact (da_cons de_int (da_cons de_int (da_cons de_int (da_cons de_int da_nil))))))) (by exact (de_callM C__law_roll (rr hr) tk (pv 0) (by exact (da_cons de_int da_nil)))))) da_nil))))))))
end
end Vw
set_option Elab.async false
set_option linter.all false
set_option maxRecDepth 100000
set_option maxHeartbeats 4000000
namespace Vw
open PySem PySem.Spec L2 DL
section
variable {P : Program} {w : World} {K : PySem.W.Frag} {mg : Str → Option Value} {base : Heap}
theorem c__law_roll (T : Tx K mg) (C__law_drawn : Cal P w K mg base "_law_drawn" 1 (spP K mg ph__law_drawn)) : Cal P w K mg base "_law_roll" 2 (spM K mg ph__law_roll) :=
  def_m (b := b__law_roll) T.d__law_roll sc__law_roll rfl rfl (fun cdv f A outer s H E hr => by
    have tk := L2N.takes_of (X := cxOf (L2N.CX P w) P w K mg base ["_law_dice", "_law_many", "_law_told_here"] "_law_roll" (defScope s__law_roll) f cdv A outer s H E) (E := E) rfl rfl rfl rfl
    have nd := sc__law_roll.nd
    exact (dss_cons (ds_if (by exact (dt_cmp opd_ge (by exact (de_ixO (pv 0) de_int)) (by exact (de_op opd_pow de_int de_int)))) (by exact (dss_cons (ds_set (i := 2) nd (by exact (de_op opd_mod (by exact (de_ixO (pv 0) de_int)) (de_var (pv 1))))) (dss_cons (ds_setIx (pv 0) de_int (by exact (de_op opd_fdiv (by exact (de_ixO (pv 0) de_int)) (de_var (pv 1))))) (dss_one (ds_ret (de_var (pv 2))))))) dss_nil) (dss_cons (ds_setIx (pv 0) de_int (by exact (de_op opd_add (by exact (de_ixO (pv 0) de_int)) de_int))) (dss_one (ds_ret (by exact (de_op opd_mod (by exact (de_op opd_fdiv (by exact (de_call C__law_drawn (rr hr) tk (by exact (da_cons (by exact (de_ixO (pv 0) de_int)) (da_cons (by exact (de_ixO (pv 0) de_int)) da_nil))))) de_int)) (de_var (pv 1)))))))))
end
end Vw
set_option Elab.async false
set_option linter.all false
set_option maxRecDepth 100000
set_option maxHeartbeats 4000000
set_option Elab.async false
set_option linter.all false
set_option maxRecDepth 100000
set_option maxHeartbeats 4000000
namespace Vw
open PySem PySem.Spec L2 DL
section
variable {P : Program} {w : World} {K : PySem.W.Frag} {mg : Str → Option Value} {base : Heap}
theorem c__law_row_tree (T : Tx K mg) : Cal P w K mg base "_law_row_tree" 1 (spP K mg ph__law_row_tree) :=
  def_p (b := b__law_row_tree) T.d__law_row_tree sc__law_row_tree rfl rfl (fun cdv f A outer s H E hr => by
    have tk := L2N.takes_of (X := cxOf (L2N.CX P w) P w K mg base ["_law_many", "_law_leaf", "_law_found", "_law_turn"] "_law_row_tree" (defScope s__law_row_tree) f cdv A outer s H E) (E := E) rfl rfl rfl rfl
    have nd := sc__law_row_tree.nd
    exact (dss_cons (ds_set (i := 2) nd (de_var (pv 1))) (dss_cons (ds_for (passes_of rfl) rfl (by exact (di_range (by exact (de_op opd_sub (de_var (pv 0)) de_int)) T.n_range)) (by exact (dg_name (i := 3) nd)) (by exact (dss_one (ds_set (i := 2) nd (by exact (de_tup (by exact (da_cons de_str (da_cons de_int (da_cons (by exact (de_tup (by exact (da_cons (de_var (pv 3)) (da_cons de_int da_nil))))) (da_cons (de_var (pv 1)) (da_cons (de_var (pv 2)) da_nil)))))))))))) (dss_one (ds_ret (de_var (pv 2)))))))
end
end Vw
set_option Elab.async false
set_option linter.all false
set_option maxRecDepth 100000
set_option maxHeartbeats 4000000
namespace Vw
open PySem PySem.Spec L2 DL
section
variable {P : Program} {w : World} {K : PySem.W.Frag} {mg : Str → Option Value} {base : Heap}
theorem c__law_some_marks (T : Tx K mg) (C__law_roll : Cal P w K mg base "_law_roll" 2 (spM K mg ph__law_roll)) : Cal P w K mg base "_law_some_marks" 3 (spM K mg ph__law_some_marks) :=
  def_m (b := b__law_some_marks) T.d__law_some_marks sc__law_some_marks rfl rfl (fun cdv f A outer s H E hr => by
    have tk := L2N.takes_of (X := cxOf (L2N.CX P w) P w K mg base ["_law_dice", "_law_kind", "_law_found", "_law_letter"] "_law_some_marks" (defScope s__law_some_marks) f cdv A outer s H E) (E := E) rfl rfl rfl rfl
    have nd := sc__law_some_marks.nd
    exact (dss_cons (ds_set (i := 2) nd (by exact (de_m1 PySem.F.slot_str_join PySem.F.type_str_join md_join de_str (by exact (de_lc [("_law_letter", 3)] (ts := [3]) rfl nd (by exact (di_any (de_var (pv 1)))) (by kernel_rfl) (by decide) (fun _ _ _ _ _ => (by exact (dg_name (i := 3) nd))) (fun _ _ _ _ _ => (dts_one (by exact (dt_cmp (opd_eq (hu64 hr)) (by exact (de_callM C__law_roll (rr hr) DL.takesN (pv 0) (by exact (da_cons de_int da_nil)))) de_int)))) (fun _ _ _ _ _ => (de_var (pv 3)))))))) (dss_one (ds_ret (by exact (de_if (by exact (dt_cmp (opd_ne (hu64 hr)) (de_var (pv 2)) de_str)) (de_var (pv 2)) (by exact (de_ix (de_var (pv 1)) (by exact (de_callM C__law_roll (rr hr) tk (pv 0) (by exact (da_cons (by exact (de_callB cd_len T.n_len (by decide +kernel) (by exact (da_cons (de_var (pv 1)) da_nil)))) da_nil))))))))))))
end
end Vw
set_option Elab.async false
set_option linter.all false
set_option maxRecDepth 100000
set_option maxHeartbeats 4000000
namespace Vw
open PySem PySem.Spec L2 DL
section
variable {P : Program} {w : World} {K : PySem.W.Frag} {mg : Str → Option Value} {base : Heap}
theorem c__law_tests (T : Tx K mg) : ∀ n, Cal P w K mg base "_law_tests" (0 + n) (spP K mg (ph__law_tests n))
  | 0 => cal_bad T.d__law_tests _
  | n + 1 => by
    have ih := c__law_tests T n
    exact def_p (k := 0 + n) (b := b__law_tests (ph__law_tests n)) T.d__law_tests sc__law_tests rfl rfl (fun cdv f A outer s H E hr => by
      have tk := L2N.takes_of (X := cxOf (L2N.CX P w) P w K mg base ["_law_tree_here"] "_law_tests" (defScope s__law_tests) f cdv A outer s H E) (E := E) rfl rfl rfl rfl
      have nd := sc__law_tests.nd
      exact (dss_cons (ds_if (by exact (dt_cmp (opd_eq (hu64 hr)) (by exact (de_ix (de_var (pv 0)) de_int)) de_str)) (by exact (dss_one (ds_ret (by exact (de_lst da_nil))))) dss_nil) (dss_one (ds_ret (by exact (de_op opd_add (by exact (de_op opd_add (by exact (de_lst (by exact (da_cons (by exact (de_tup (by exact (da_cons (by exact (de_ix (de_var (pv 0)) de_int)) (da_cons (by exact (de_ix (de_var (pv 0)) de_int)) da_nil))))) da_nil)))) (by exact (de_call ih (rr hr) tk (by exact (da_cons (by exact (de_ix (de_var (pv 0)) de_int)) da_nil)))))) (by exact (de_call ih (rr hr) tk (by exact (da_cons (by exact (de_ix (de_var (pv 0)) de_int)) da_nil))))))))))
end
end Vw
set_option Elab.async false
set_option linter.all false
set_option maxRecDepth 100000
set_option maxHeartbeats 4000000
namespace Vw
open PySem PySem.Spec L2 DL
section
variable {P : Program} {w : World} {K : PySem.W.Frag} {mg : Str → Option Value} {base : Heap}
theorem c__law_tree (T : Tx K mg) (C__law_place : Cal P w K mg base "_law_place" 3 (spM K mg ph__law_place)) (C__law_roll : Cal P w K mg base "_law_roll" 2 (spM K mg ph__law_roll)) (C__law_some_marks : Cal P w K mg base "_law_some_marks" 3 (spM K mg ph__law_some_marks)) : ∀ n, Cal P w K mg base "_law_tree" (3 + n) (spM K mg (ph__law_tree n))
  | 0 => cal_badM T.d__law_tree _
  | n + 1 => by
    have ih := c__law_tree T C__law_place C__law_roll C__law_some_marks n
    exact def_m (k := 3 + n) (b := b__law_tree (ph__law_tree n)) T.d__law_tree sc__law_tree rfl rfl (fun cdv f A outer s H E hr => by
      have tk := L2N.takes_of (X := cxOf (L2N.CX P w) P w K mg base ["_law_dice", "_law_kinds_here", "_law_answers", "_law_most", "_law_part", "_law_few", "_law_test", "_law_one", "_law_at"] "_law_tree" (defScope s__law_tree) f cdv A outer s H E) (E := E) rfl rfl rfl rfl
      have nd := sc__law_tree.nd
      exact (dss_cons (ds_if (by exact (dt_w (dw_or (by exact (dt_cmp opd_lt (de_var (pv 3)) de_int)) (dw_or1 (by exact (dt_cmp (opd_eq (hu64 hr)) (by exact (de_callM C__law_roll (rr hr) tk (pv 0) (by exact (da_cons de_int da_nil)))) de_int)))))) (by exact (dss_one (ds_ret (by exact (de_tup (by exact (da_cons de_str (da_cons (by exact (de_callTy cd_tuple T.n_tuple (by decide +kernel) (by exact (da_cons (by exact (de_lc [("_law_at", 8)] (ts := [8]) rfl nd (by exact (di_range (de_var (pv 2)) T.n_range)) (by kernel_rfl) (by decide) (fun _ _ _ _ _ => (by exact (dg_name (i := 8) nd))) (fun _ _ _ _ _ => dts_nil) (fun _ _ _ _ _ => (by exact (de_op opd_sub (by exact (de_callM C__law_roll (rr hr) DL.takesN (pv 0) (by exact (da_cons de_int da_nil)))) de_int))))) da_nil)))) da_nil)))))))) dss_nil) (dss_cons (ds_par (i := 4) (j := 5) rfl nd (by exact (da_cons (by exact (de_callM C__law_roll (rr hr) tk (pv 0) (by exact (da_cons (by exact (de_callB cd_len T.n_len (by decide +kernel) (by exact (da_cons (de_var (pv 1)) da_nil)))) da_nil)))) (da_cons (by exact (de_op opd_add de_int (by exact (de_callM C__law_roll (rr hr) tk (pv 0) (by exact (da_cons (by exact (de_op opd_sub (de_var (pv 3)) de_int)) da_nil)))))) da_nil))) (by decide)) (dss_cons (ds_set (i := 6) nd (by exact (de_tup (by exact (da_cons de_str (da_cons (de_var (pv 4)) (da_cons (by exact (de_callM C__law_place (rr hr) tk (pv 0) da_nil)) da_nil))))))) (dss_cons (ds_if (by exact (dt_cmp (opd_ne (hu64 hr)) (by exact (de_ix (de_var (pv 1)) (de_var (pv 4)))) de_str)) (by exact (dss_one (ds_set (i := 6) nd (by exact (de_tup (by exact (da_cons de_str (da_cons (de_var (pv 4)) (da_cons (by exact (de_callM C__law_some_marks (rr hr) tk (pv 0) (by exact (da_cons (by exact (de_ix (de_var (pv 1)) (de_var (pv 4)))) da_nil)))) da_nil))))))))) dss_nil) (dss_cons (ds_set (i := 7) nd (by exact (de_callM ih (rr hr) tk (pv 0) (by exact (da_cons (de_var (pv 1)) (da_cons (de_var (pv 2)) (da_cons (de_var (pv 5)) da_nil))))))) (dss_one (ds_ret (by exact (de_op opd_add (de_var (pv 6)) (by exact (de_tup (by exact (da_cons (de_var (pv 7)) (da_cons (by exact (de_callM ih (rr hr) tk (pv 0) (by exact (da_cons (de_var (pv 1)) (da_cons (de_var (pv 2)) (da_cons (by exact (de_op opd_sub (de_var (pv 3)) (de_var (pv 5)))) da_nil)))))) da_nil)))))))))))))))
end
end Vw
set_option Elab.async false
set_option linter.all false
set_option maxRecDepth 100000
set_option maxHeartbeats 4000000
namespace Vw
open PySem PySem.Spec L2 DL
section
variable {P : Program} {w : World} {K : PySem.W.Frag} {mg : Str → Option Value} {base : Heap}
theorem c_check_forest (T : Tx K mg) (C_is_forest : Cal P w K mg base "is_forest" 14 (spP K mg ph_is_forest)) : Cal P w K mg base "check_forest" 15 (spP K mg ph_check_forest) :=
  def_p (b := b_check_forest) T.d_check_forest sc_check_forest rfl rfl (fun cdv f A outer s H E hr => by
    have tk := L2N.takes_of (X := cxOf (L2N.CX P w) P w K mg base ["forest"] "check_forest" (defScope s_check_forest) f cdv A outer s H E) (E := E) rfl rfl rfl rfl
    have nd := sc_check_forest.nd
    exact (dss_one (ds_if (by exact (dt_not (by exact (dt_val (by exact (de_call C_is_forest (rr hr) tk (by exact (da_cons (de_var (pv 0)) da_nil)))))))) (by exact (dss_one (ds_raiseX rfl tk T.e_InvalidForest))) dss_nil)))
end
end Vw
set_option Elab.async false
set_option linter.all false
set_option maxRecDepth 100000
set_option maxHeartbeats 4000000
namespace Vw
open PySem PySem.Spec L2 DL
section
variable {P : Program} {w : World} {K : PySem.W.Frag} {mg : Str → Option Value} {base : Heap}
theorem c_check_pair (T : Tx K mg) (C_check_forest : Cal P w K mg base "check_forest" 15 (spP K mg ph_check_forest)) : Cal P w K mg base "check_pair" 16 (spP K mg ph_check_pair) :=
  def_p (b := b_check_pair) T.d_check_pair sc_check_pair rfl rfl (fun cdv f A outer s H E hr => by
    have tk := L2N.takes_of (X := cxOf (L2N.CX P w) P w K mg base ["forest", "other"] "check_pair" (defScope s_check_pair) f cdv A outer s H E) (E := E) rfl rfl rfl rfl
    have nd := sc_check_pair.nd
    exact (dss_cons (ds_expr (by exact (de_call C_check_forest (rr hr) tk (by exact (da_cons (de_var (pv 0)) da_nil))))) (dss_cons (ds_expr (by exact (de_call C_check_forest (rr hr) tk (by exact (da_cons (de_var (pv 1)) da_nil))))) (dss_one (ds_if (by exact (dt_cmp (opd_ne (hu64 hr)) (by exact (de_slice (de_var (pv 0)) do_none (do_some de_int))) (by exact (de_slice (de_var (pv 1)) do_none (do_some de_int))))) (by exact (dss_one (ds_raiseX rfl tk T.e_NoFit))) dss_nil)))))
end
end Vw
set_option Elab.async false
set_option linter.all false
set_option maxRecDepth 100000
set_option maxHeartbeats 4000000
namespace Vw
open PySem PySem.Spec L2 DL
section
variable {P : Program} {w : World} {K : PySem.W.Frag} {mg : Str → Option Value} {base : Heap}
theorem c_count_leaves (T : Tx K mg) (C_check_forest : Cal P w K mg base "check_forest" 15 (spP K mg ph_check_forest)) (C_leaves_of : Cal P w K mg base "leaves_of" 9 (spP K mg (ph_leaves_of 9))) : Cal P w K mg base "count_leaves" 16 (spP K mg ph_count_leaves) :=
  def_p (b := b_count_leaves) T.d_count_leaves sc_count_leaves rfl rfl (fun cdv f A outer s H E hr => by
    have tk := L2N.takes_of (X := cxOf (L2N.CX P w) P w K mg base ["forest", "tree"] "count_leaves" (defScope s_count_leaves) f cdv A outer s H E) (E := E) rfl rfl rfl rfl
    have nd := sc_count_leaves.nd
    exact (dss_cons (ds_expr (by exact (de_call C_check_forest (rr hr) tk (by exact (da_cons (de_var (pv 0)) da_nil))))) (dss_one (ds_ret (by exact (de_callB (cd_sum rfl) T.n_sum (by decide +kernel) (by exact (da_cons (by exact (de_lc [("tree", 1)] (ts := [1]) rfl nd (by exact (di_any (by exact (de_ix (de_var (pv 0)) de_int)))) (by kernel_rfl) (by decide) (fun _ _ _ _ _ => (by exact (dg_name (i := 1) nd))) (fun _ _ _ _ _ => dts_nil) (fun _ _ _ _ _ => (by exact (de_call C_leaves_of (rr hr) DL.takesN (by exact (da_cons (de_var (pv 1)) da_nil))))))) da_nil))))))))
end
end Vw
set_option Elab.async false
set_option linter.all false
set_option maxRecDepth 100000
set_option maxHeartbeats 4000000
namespace Vw
open PySem PySem.Spec L2 DL
section
variable {P : Program} {w : World} {K : PySem.W.Frag} {mg : Str → Option Value} {base : Heap}
theorem c_is_ascending (T : Tx K mg) : Cal P w K mg base "is_ascending" 1 (spP K mg ph_is_ascending) :=
  def_p (b := b_is_ascending) T.d_is_ascending sc_is_ascending rfl rfl (fun cdv f A outer s H E hr => by
    have tk := L2N.takes_of (X := cxOf (L2N.CX P w) P w K mg base ["text"] "is_ascending" (defScope s_is_ascending) f cdv A outer s H E) (E := E) rfl rfl rfl rfl
    have nd := sc_is_ascending.nd
    exact (dss_one (ds_ret (by exact (de_cmp (opd_eq (hu64 hr)) (by exact (de_callTy (cd_listA rfl) T.n_list (by decide +kernel) (by exact (da_cons (de_var (pv 0)) da_nil)))) (by exact (de_sortset rfl (de_var (pv 0)) T.n_sorted T.n_set)))))))
end
end Vw
set_option Elab.async false
set_option linter.all false
set_option maxRecDepth 100000
set_option maxHeartbeats 4000000
namespace Vw
open PySem PySem.Spec L2 DL
section
variable {P : Program} {w : World} {K : PySem.W.Frag} {mg : Str → Option Value} {base : Heap}
theorem c_is_branch (T : Tx K mg) (C_is_test : Cal P w K mg base "is_test" 3 (spP K mg ph_is_test)) (C_is_votes : Cal P w K mg base "is_votes" 2 (spP K mg ph_is_votes)) : ∀ n, Cal P w K mg base "is_branch" (3 + n) (spP K mg (ph_is_branch n))
  | 0 => cal_bad T.d_is_branch _
  | n + 1 => by
    have ih := c_is_branch T C_is_test C_is_votes n
    exact def_p (k := 3 + n) (b := b_is_branch (ph_is_branch n)) T.d_is_branch sc_is_branch rfl rfl (fun cdv f A outer s H E hr => by
      have tk := L2N.takes_of (X := cxOf (L2N.CX P w) P w K mg base ["value", "kinds", "answers", "tests_left", "word", "part", "bound", "first", "second"] "is_branch" (defScope s_is_branch) f cdv A outer s H E) (E := E) rfl rfl rfl rfl
      have nd := sc_is_branch.nd
      exact (dss_cons (ds_if (by exact (dt_w (dw_or (by exact (dt_not (by exact (dt_val (by exact (de_isi (by decide +kernel) (de_var (pv 0)) T.n_isinstance T.n_tuple (by decide +kernel))))))) (dw_or1 (by exact (dt_cmp (opd_eq (hu64 hr)) (by exact (de_callB cd_len T.n_len (by decide +kernel) (by exact (da_cons (de_var (pv 0)) da_nil)))) de_int)))))) (by exact (dss_one (ds_ret de_bl))) dss_nil) (dss_cons (ds_if (by exact (dt_cmp (opd_eq (hu64 hr)) (by exact (de_ix (de_var (pv 0)) de_int)) (by exact (de_gstr T.c_LEAF)))) (by exact (dss_one (ds_ret (by exact (de_and (by exact (de_cmp (opd_eq (hu64 hr)) (by exact (de_callB cd_len T.n_len (by decide +kernel) (by exact (da_cons (de_var (pv 0)) da_nil)))) de_int)) (de_one (by exact (de_call C_is_votes (rr hr) tk (by exact (da_cons (by exact (de_ix (de_var (pv 0)) de_int)) (da_cons (de_var (pv 2)) da_nil))))))))))) dss_nil) (dss_cons (ds_if (by exact (dt_w (dw_or (by exact (dt_cmp (opd_eq (hu64 hr)) (de_var (pv 3)) de_int)) (dw_or1 (by exact (dt_cmp (opd_ne (hu64 hr)) (by exact (de_callB cd_len T.n_len (by decide +kernel) (by exact (da_cons (de_var (pv 0)) da_nil)))) de_int)))))) (by exact (dss_one (ds_ret de_bl))) dss_nil) (dss_cons (ds_asg (de_var (pv 0)) (by exact (dg_tup rfl (dgs_cons (by exact (dg_name (i := 4) nd)) (dgs_cons (by exact (dg_name (i := 5) nd)) (dgs_cons (by exact (dg_name (i := 6) nd)) (dgs_cons (by exact (dg_name (i := 7) nd)) (dgs_cons (by exact (dg_name (i := 8) nd)) dgs_nil)))))))) (dss_cons (ds_if (by exact (dt_not (by exact (dt_val (by exact (de_call C_is_test (rr hr) tk (by exact (da_cons (de_var (pv 4)) (da_cons (de_var (pv 5)) (da_cons (de_var (pv 6)) (da_cons (de_var (pv 1)) da_nil))))))))))) (by exact (dss_one (ds_ret de_bl))) dss_nil) (dss_one (ds_ret (by exact (de_and (by exact (de_call ih (rr hr) tk (by exact (da_cons (de_var (pv 7)) (da_cons (de_var (pv 1)) (da_cons (de_var (pv 2)) (da_cons (by exact (de_op opd_sub (de_var (pv 3)) de_int)) da_nil))))))) (de_one (by exact (de_call ih (rr hr) tk (by exact (da_cons (de_var (pv 8)) (da_cons (de_var (pv 1)) (da_cons (de_var (pv 2)) (da_cons (by exact (de_op opd_sub (de_var (pv 3)) de_int)) da_nil))))))))))))))))))
end
end Vw
set_option Elab.async false
set_option linter.all false
set_option maxRecDepth 100000
set_option maxHeartbeats 4000000
namespace Vw
open PySem PySem.Spec L2 DL
section
variable {P : Program} {w : World} {K : PySem.W.Frag} {mg : Str → Option Value} {base : Heap}
theorem c_is_forest (T : Tx K mg) (C_is_kinds : Cal P w K mg base "is_kinds" 3 (spP K mg ph_is_kinds)) (C_is_tree : Cal P w K mg base "is_tree" 13 (spP K mg ph_is_tree)) (C_is_whole : Cal P w K mg base "is_whole" 1 (spP K mg ph_is_whole)) : Cal P w K mg base "is_forest" 14 (spP K mg ph_is_forest) :=
  def_p (b := b_is_forest) T.d_is_forest sc_is_forest rfl rfl (fun cdv f A outer s H E hr => by
    have tk := L2N.takes_of (X := cxOf (L2N.CX P w) P w K mg base ["value", "kinds", "answers", "trees", "tree"] "is_forest" (defScope s_is_forest) f cdv A outer s H E) (E := E) rfl rfl rfl rfl
    have nd := sc_is_forest.nd
    exact (dss_cons (ds_if (by exact (dt_w (dw_or (by exact (dt_not (by exact (dt_val (by exact (de_isi (by decide +kernel) (de_var (pv 0)) T.n_isinstance T.n_tuple (by decide +kernel))))))) (dw_or1 (by exact (dt_cmp (opd_ne (hu64 hr)) (by exact (de_callB cd_len T.n_len (by decide +kernel) (by exact (da_cons (de_var (pv 0)) da_nil)))) de_int)))))) (by exact (dss_one (ds_ret de_bl))) dss_nil) (dss_cons (ds_asg (de_var (pv 0)) (by exact (dg_tup rfl (dgs_cons (by exact (dg_name (i := 1) nd)) (dgs_cons (by exact (dg_name (i := 2) nd)) (dgs_cons (by exact (dg_name (i := 3) nd)) dgs_nil)))))) (dss_cons (ds_if (by exact (dt_w (dw_or (by exact (dt_not (by exact (dt_val (by exact (de_call C_is_kinds (rr hr) tk (by exact (da_cons (de_var (pv 1)) da_nil)))))))) (dw_or1 (by exact (dt_not (by exact (dt_val (by exact (de_call C_is_whole (rr hr) tk (by exact (da_cons (de_var (pv 2)) da_nil)))))))))))) (by exact (dss_one (ds_ret de_bl))) dss_nil) (dss_cons (ds_if (by exact (dt_not (by exact (dt_chain opd_le opd_le (by exact (de_gint T.c_FEWEST_ANSWERS)) (de_var (pv 2)) (by exact (de_gint T.c_MOST_ANSWERS)))))) (by exact (dss_one (ds_ret de_bl))) dss_nil) (dss_cons (ds_if (by exact (dt_w (dw_or (by exact (dt_not (by exact (dt_val (by exact (de_isi (by decide +kernel) (de_var (pv 3)) T.n_isinstance T.n_tuple (by decide +kernel))))))) (dw_or1 (by exact (dt_not (by exact (dt_chain opd_le opd_le de_int (by exact (de_callB cd_len T.n_len (by decide +kernel) (by exact (da_cons (de_var (pv 3)) da_nil)))) (by exact (de_gint T.c_MOST_TREES)))))))))) (by exact (dss_one (ds_ret de_bl))) dss_nil) (dss_one (ds_ret (by exact (de_callB (cd_all rfl) T.n_all (by decide +kernel) (by exact (da_cons (by exact (de_lc [("tree", 4)] (ts := [4]) rfl nd (by exact (di_any (de_var (pv 3)))) (by kernel_rfl) (by decide) (fun _ _ _ _ _ => (by exact (dg_name (i := 4) nd))) (fun _ _ _ _ _ => dts_nil) (fun _ _ _ _ _ => (by exact (de_call C_is_tree (rr hr) DL.takesN (by exact (da_cons (de_var (pv 4)) (da_cons (de_var (pv 1)) (da_cons (de_var (pv 2)) da_nil))))))))) da_nil))))))))))))
end
end Vw
set_option Elab.async false
set_option linter.all false
set_option maxRecDepth 100000
set_option maxHeartbeats 4000000
namespace Vw
open PySem PySem.Spec L2 DL
section
variable {P : Program} {w : World} {K : PySem.W.Frag} {mg : Str → Option Value} {base : Heap}
theorem c_is_fraction (T : Tx K mg) (C_is_whole : Cal P w K mg base "is_whole" 1 (spP K mg ph_is_whole)) : Cal P w K mg base "is_fraction" 2 (spP K mg ph_is_fraction) :=
  def_p (b := b_is_fraction) T.d_is_fraction sc_is_fraction rfl rfl (fun cdv f A outer s H E hr => by
    have tk := L2N.takes_of (X := cxOf (L2N.CX P w) P w K mg base ["value", "top", "bottom"] "is_fraction" (defScope s_is_fraction) f cdv A outer s H E) (E := E) rfl rfl rfl rfl
    have nd := sc_is_fraction.nd
    exact (dss_cons (ds_if (by exact (dt_w (dw_or (by exact (dt_not (by exact (dt_val (by exact (de_isi (by decide +kernel) (de_var (pv 0)) T.n_isinstance T.n_tuple (by decide +kernel))))))) (dw_or1 (by exact (dt_cmp (opd_ne (hu64 hr)) (by exact (de_callB cd_len T.n_len (by decide +kernel) (by exact (da_cons (de_var (pv 0)) da_nil)))) de_int)))))) (by exact (dss_one (ds_ret de_bl))) dss_nil) (dss_cons (ds_if (by exact (dt_w (dw_or (by exact (dt_not (by exact (dt_val (by exact (de_call C_is_whole (rr hr) tk (by exact (da_cons (by exact (de_ix (de_var (pv 0)) de_int)) da_nil)))))))) (dw_or1 (by exact (dt_not (by exact (dt_val (by exact (de_call C_is_whole (rr hr) tk (by exact (da_cons (by exact (de_ix (de_var (pv 0)) de_int)) da_nil)))))))))))) (by exact (dss_one (ds_ret de_bl))) dss_nil) (dss_cons (ds_if (by exact (dt_w (dw_or (by exact (dt_not (by exact (dt_chain opd_le opd_le (by exact (de_neg (de_var (pv 1)))) (by exact (de_ix (de_var (pv 0)) de_int)) (de_var (pv 1)))))) (dw_or1 (by exact (dt_not (by exact (dt_chain opd_le opd_le de_int (by exact (de_ix (de_var (pv 0)) de_int)) (de_var (pv 2)))))))))) (by exact (dss_one (ds_ret de_bl))) dss_nil) (dss_one (ds_ret (by exact (de_cmp (opd_eq (hu64 hr)) (by exact (de_callI cd_gcd T.i_gcd (by exact (da_cons (by exact (de_ix (de_var (pv 0)) de_int)) (da_cons (by exact (de_ix (de_var (pv 0)) de_int)) da_nil))))) de_int))))))))
end
end Vw
set_option Elab.async false
set_option linter.all false
set_option maxRecDepth 100000
set_option maxHeartbeats 4000000
namespace Vw
open PySem PySem.Spec L2 DL
section
variable {P : Program} {w : World} {K : PySem.W.Frag} {mg : Str → Option Value} {base : Heap}
theorem c_is_kind (T : Tx K mg) (C_is_ascending : Cal P w K mg base "is_ascending" 1 (spP K mg ph_is_ascending)) : Cal P w K mg base "is_kind" 2 (spP K mg ph_is_kind) :=
  def_p (b := b_is_kind) T.d_is_kind sc_is_kind rfl rfl (fun cdv f A outer s H E hr => by
    have tk := L2N.takes_of (X := cxOf (L2N.CX P w) P w K mg base ["value", "letter"] "is_kind" (defScope s_is_kind) f cdv A outer s H E) (E := E) rfl rfl rfl rfl
    have nd := sc_is_kind.nd
    exact (dss_cons (ds_if (by exact (dt_not (by exact (dt_val (by exact (de_isi (by decide +kernel) (de_var (pv 0)) T.n_isinstance T.n_str (by decide +kernel))))))) (by exact (dss_one (ds_ret de_bl))) dss_nil) (dss_cons (ds_if (by exact (dt_cmp (opd_eq (hu64 hr)) (de_var (pv 0)) (by exact (de_gstr T.c_NUMBERS)))) (by exact (dss_one (ds_ret de_bl))) dss_nil) (dss_cons (ds_if (by exact (dt_not (by exact (dt_chain opd_le opd_le de_int (by exact (de_callB cd_len T.n_len (by decide +kernel) (by exact (da_cons (de_var (pv 0)) da_nil)))) (by exact (de_gint T.c_MOST_LETTERS)))))) (by exact (dss_one (ds_ret de_bl))) dss_nil) (dss_one (ds_ret (by exact (de_and (by exact (de_callB (cd_all rfl) T.n_all (by decide +kernel) (by exact (da_cons (by exact (de_lc [("letter", 1)] (ts := [1]) rfl nd (by exact (di_any (de_var (pv 0)))) (by kernel_rfl) (by decide) (fun _ _ _ _ _ => (by exact (dg_name (i := 1) nd))) (fun _ _ _ _ _ => dts_nil) (fun _ _ _ _ _ => (by exact (de_chain opd_le opd_le de_str (de_var (pv 1)) de_str))))) da_nil)))) (de_one (by exact (de_call C_is_ascending (rr hr) tk (by exact (da_cons (de_var (pv 0)) da_nil)))))))))))))
end
end Vw
set_option Elab.async false
set_option linter.all false
set_option maxRecDepth 100000
set_option maxHeartbeats 4000000
namespace Vw
open PySem PySem.Spec L2 DL
section
variable {P : Program} {w : World} {K : PySem.W.Frag} {mg : Str → Option Value} {base : Heap}
theorem c_is_kinds (T : Tx K mg) (C_is_kind : Cal P w K mg base "is_kind" 2 (spP K mg ph_is_kind)) : Cal P w K mg base "is_kinds" 3 (spP K mg ph_is_kinds) :=
  def_p (b := b_is_kinds) T.d_is_kinds sc_is_kinds rfl rfl (fun cdv f A outer s H E hr => by
    have tk := L2N.takes_of (X := cxOf (L2N.CX P w) P w K mg base ["value", "kind"] "is_kinds" (defScope s_is_kinds) f cdv A outer s H E) (E := E) rfl rfl rfl rfl
    have nd := sc_is_kinds.nd
    exact (dss_cons (ds_if (by exact (dt_w (dw_or (by exact (dt_not (by exact (dt_val (by exact (de_isi (by decide +kernel) (de_var (pv 0)) T.n_isinstance T.n_tuple (by decide +kernel))))))) (dw_or1 (by exact (dt_not (by exact (dt_chain opd_le opd_le de_int (by exact (de_callB cd_len T.n_len (by decide +kernel) (by exact (da_cons (de_var (pv 0)) da_nil)))) (by exact (de_gint T.c_MOST_PARTS)))))))))) (by exact (dss_one (ds_ret de_bl))) dss_nil) (dss_one (ds_ret (by exact (de_callB (cd_all rfl) T.n_all (by decide +kernel) (by exact (da_cons (by exact (de_lc [("kind", 1)] (ts := [1]) rfl nd (by exact (di_any (de_var (pv 0)))) (by kernel_rfl) (by decide) (fun _ _ _ _ _ => (by exact (dg_name (i := 1) nd))) (fun _ _ _ _ _ => dts_nil) (fun _ _ _ _ _ => (by exact (de_call C_is_kind (rr hr) DL.takesN (by exact (da_cons (de_var (pv 1)) da_nil))))))) da_nil))))))))
end
end Vw
set_option Elab.async false
set_option linter.all false
set_option maxRecDepth 100000
set_option maxHeartbeats 4000000
namespace Vw
open PySem PySem.Spec L2 DL
section
variable {P : Program} {w : World} {K : PySem.W.Frag} {mg : Str → Option Value} {base : Heap}
theorem c_is_marks (T : Tx K mg) (C_is_ascending : Cal P w K mg base "is_ascending" 1 (spP K mg ph_is_ascending)) : Cal P w K mg base "is_marks" 2 (spP K mg ph_is_marks) :=
  def_p (b := b_is_marks) T.d_is_marks sc_is_marks rfl rfl (fun cdv f A outer s H E hr => by
    have tk := L2N.takes_of (X := cxOf (L2N.CX P w) P w K mg base ["value", "kind", "letter"] "is_marks" (defScope s_is_marks) f cdv A outer s H E) (E := E) rfl rfl rfl rfl
    have nd := sc_is_marks.nd
    exact (dss_cons (ds_if (by exact (dt_w (dw_or (by exact (dt_not (by exact (dt_val (by exact (de_isi (by decide +kernel) (de_var (pv 0)) T.n_isinstance T.n_str (by decide +kernel))))))) (dw_or1 (by exact (dt_not (by exact (dt_chain opd_le opd_le de_int (by exact (de_callB cd_len T.n_len (by decide +kernel) (by exact (da_cons (de_var (pv 0)) da_nil)))) (by exact (de_callB cd_len T.n_len (by decide +kernel) (by exact (da_cons (de_var (pv 1)) da_nil)))))))))))) (by exact (dss_one (ds_ret de_bl))) dss_nil) (dss_one (ds_ret (by exact (de_and (by exact (de_callB (cd_all rfl) T.n_all (by decide +kernel) (by exact (da_cons (by exact (de_lc [("letter", 2)] (ts := [2]) rfl nd (by exact (di_any (de_var (pv 0)))) (by kernel_rfl) (by decide) (fun _ _ _ _ _ => (by exact (dg_name (i := 2) nd))) (fun _ _ _ _ _ => dts_nil) (fun _ _ _ _ _ => (by exact (de_cmp (opd_in (hu65 hr)) (de_var (pv 2)) (de_var (pv 1))))))) da_nil)))) (de_one (by exact (de_call C_is_ascending (rr hr) tk (by exact (da_cons (de_var (pv 0)) da_nil)))))))))))
end
end Vw
set_option Elab.async false
set_option linter.all false
set_option maxRecDepth 100000
set_option maxHeartbeats 4000000
namespace Vw
open PySem PySem.Spec L2 DL
section
variable {P : Program} {w : World} {K : PySem.W.Frag} {mg : Str → Option Value} {base : Heap}
theorem c_is_part (T : Tx K mg) (C_is_whole : Cal P w K mg base "is_whole" 1 (spP K mg ph_is_whole)) : Cal P w K mg base "is_part" 2 (spP K mg ph_is_part) :=
  def_p (b := b_is_part) T.d_is_part sc_is_part rfl rfl (fun cdv f A outer s H E hr => by
    have tk := L2N.takes_of (X := cxOf (L2N.CX P w) P w K mg base ["value", "kinds"] "is_part" (defScope s_is_part) f cdv A outer s H E) (E := E) rfl rfl rfl rfl
    have nd := sc_is_part.nd
    exact (dss_one (ds_ret (by exact (de_and (by exact (de_call C_is_whole (rr hr) tk (by exact (da_cons (de_var (pv 0)) da_nil)))) (de_one (by exact (de_chain opd_le opd_lt de_int (de_var (pv 0)) (by exact (de_callB cd_len T.n_len (by decide +kernel) (by exact (da_cons (de_var (pv 1)) da_nil))))))))))))
end
end Vw
set_option Elab.async false
set_option linter.all false
set_option maxRecDepth 100000
set_option maxHeartbeats 4000000
namespace Vw
open PySem PySem.Spec L2 DL
section
variable {P : Program} {w : World} {K : PySem.W.Frag} {mg : Str → Option Value} {base : Heap}
theorem c_is_test (T : Tx K mg) (C_is_fraction : Cal P w K mg base "is_fraction" 2 (spP K mg ph_is_fraction)) (C_is_marks : Cal P w K mg base "is_marks" 2 (spP K mg ph_is_marks)) (C_is_part : Cal P w K mg base "is_part" 2 (spP K mg ph_is_part)) : Cal P w K mg base "is_test" 3 (spP K mg ph_is_test) :=
  def_p (b := b_is_test) T.d_is_test sc_is_test rfl rfl (fun cdv f A outer s H E hr => by
    have tk := L2N.takes_of (X := cxOf (L2N.CX P w) P w K mg base ["word", "part", "bound", "kinds"] "is_test" (defScope s_is_test) f cdv A outer s H E) (E := E) rfl rfl rfl rfl
    have nd := sc_is_test.nd
    exact (dss_cons (ds_if (by exact (dt_not (by exact (dt_val (by exact (de_call C_is_part (rr hr) tk (by exact (da_cons (de_var (pv 1)) (da_cons (de_var (pv 3)) da_nil))))))))) (by exact (dss_one (ds_ret de_bl))) dss_nil) (dss_cons (ds_if (by exact (dt_cmp (opd_eq (hu64 hr)) (by exact (de_ix (de_var (pv 3)) (de_var (pv 1)))) (by exact (de_gstr T.c_NUMBERS)))) (by exact (dss_one (ds_ret (by exact (de_and (by exact (de_cmp (opd_eq (hu64 hr)) (de_var (pv 0)) (by exact (de_gstr T.c_BELOW)))) (de_one (by exact (de_call C_is_fraction (rr hr) tk (by exact (da_cons (de_var (pv 2)) (da_cons (by exact (de_gint T.c_LARGEST_PLACE_TOP)) (da_cons (by exact (de_gint T.c_LARGEST_PLACE_BOTTOM)) da_nil)))))))))))) dss_nil) (dss_one (ds_ret (by exact (de_and (by exact (de_cmp (opd_eq (hu64 hr)) (de_var (pv 0)) (by exact (de_gstr T.c_AMONG)))) (de_one (by exact (de_call C_is_marks (rr hr) tk (by exact (da_cons (de_var (pv 2)) (da_cons (by exact (de_ix (de_var (pv 3)) (de_var (pv 1)))) da_nil)))))))))))))
end
end Vw
set_option Elab.async false
set_option linter.all false
set_option maxRecDepth 100000
set_option maxHeartbeats 4000000
namespace Vw
open PySem PySem.Spec L2 DL
section
variable {P : Program} {w : World} {K : PySem.W.Frag} {mg : Str → Option Value} {base : Heap}
theorem c_is_tree (T : Tx K mg) (C_is_branch : Cal P w K mg base "is_branch" 12 (spP K mg (ph_is_branch 9))) (C_leaves_of : Cal P w K mg base "leaves_of" 9 (spP K mg (ph_leaves_of 9))) : Cal P w K mg base "is_tree" 13 (spP K mg ph_is_tree) :=
  def_p (b := b_is_tree) T.d_is_tree sc_is_tree rfl rfl (fun cdv f A outer s H E hr => by
    have tk := L2N.takes_of (X := cxOf (L2N.CX P w) P w K mg base ["value", "kinds", "answers"] "is_tree" (defScope s_is_tree) f cdv A outer s H E) (E := E) rfl rfl rfl rfl
    have nd := sc_is_tree.nd
    exact (dss_one (ds_ret (by exact (de_and (by exact (de_call C_is_branch (rr hr) tk (by exact (da_cons (de_var (pv 0)) (da_cons (de_var (pv 1)) (da_cons (de_var (pv 2)) (da_cons (by exact (de_gint T.c_MOST_TESTS)) da_nil))))))) (de_one (by exact (de_cmp opd_le (by exact (de_call C_leaves_of (rr hr) tk (by exact (da_cons (de_var (pv 0)) da_nil)))) (by exact (de_gint T.c_MOST_LEAVES))))))))))
end
end Vw
set_option Elab.async false
set_option linter.all false
set_option maxRecDepth 100000
set_option maxHeartbeats 4000000
namespace Vw
open PySem PySem.Spec L2 DL
section
variable {P : Program} {w : World} {K : PySem.W.Frag} {mg : Str → Option Value} {base : Heap}
theorem c_is_votes (T : Tx K mg) (C_is_whole : Cal P w K mg base "is_whole" 1 (spP K mg ph_is_whole)) : Cal P w K mg base "is_votes" 2 (spP K mg ph_is_votes) :=
  def_p (b := b_is_votes) T.d_is_votes sc_is_votes rfl rfl (fun cdv f A outer s H E hr => by
    have tk := L2N.takes_of (X := cxOf (L2N.CX P w) P w K mg base ["value", "answers", "vote"] "is_votes" (defScope s_is_votes) f cdv A outer s H E) (E := E) rfl rfl rfl rfl
    have nd := sc_is_votes.nd
    exact (dss_cons (ds_if (by exact (dt_w (dw_or (by exact (dt_not (by exact (dt_val (by exact (de_isi (by decide +kernel) (de_var (pv 0)) T.n_isinstance T.n_tuple (by decide +kernel))))))) (dw_or1 (by exact (dt_cmp (opd_ne (hu64 hr)) (by exact (de_callB cd_len T.n_len (by decide +kernel) (by exact (da_cons (de_var (pv 0)) da_nil)))) (de_var (pv 1)))))))) (by exact (dss_one (ds_ret de_bl))) dss_nil) (dss_one (ds_ret (by exact (de_callB (cd_all rfl) T.n_all (by decide +kernel) (by exact (da_cons (by exact (de_lc [("vote", 2)] (ts := [2]) rfl nd (by exact (di_any (de_var (pv 0)))) (by kernel_rfl) (by decide) (fun _ _ _ _ _ => (by exact (dg_name (i := 2) nd))) (fun _ _ _ _ _ => dts_nil) (fun _ _ _ _ _ => (by exact (de_and (by exact (de_call C_is_whole (rr hr) DL.takesN (by exact (da_cons (de_var (pv 2)) da_nil)))) (de_one (by exact (de_chain opd_le opd_le (by exact (de_neg (by exact (de_gint T.c_LARGEST_VOTE)))) (de_var (pv 2)) (by exact (de_gint T.c_LARGEST_VOTE)))))))))) da_nil))))))))
end
end Vw
set_option Elab.async false
set_option linter.all false
set_option maxRecDepth 100000
set_option maxHeartbeats 4000000
namespace Vw
open PySem PySem.Spec L2 DL
section
variable {P : Program} {w : World} {K : PySem.W.Frag} {mg : Str → Option Value} {base : Heap}
theorem c_is_whole (T : Tx K mg) : Cal P w K mg base "is_whole" 1 (spP K mg ph_is_whole) :=
  def_p (b := b_is_whole) T.d_is_whole sc_is_whole rfl rfl (fun cdv f A outer s H E hr => by
    have tk := L2N.takes_of (X := cxOf (L2N.CX P w) P w K mg base ["value"] "is_whole" (defScope s_is_whole) f cdv A outer s H E) (E := E) rfl rfl rfl rfl
    have nd := sc_is_whole.nd
    exact (dss_one (ds_ret (by exact (de_and (by exact (de_isi (by decide +kernel) (de_var (pv 0)) T.n_isinstance T.n_int (by decide +kernel))) (de_one (by exact (de_not (by exact (de_isi (by decide +kernel) (de_var (pv 0)) T.n_isinstance T.n_bool (by decide +kernel)))))))))))
end
end Vw
set_option Elab.async false
set_option linter.all false
set_option maxRecDepth 100000
set_option maxHeartbeats 4000000
namespace Vw
open PySem PySem.Spec L2 DL
section
variable {P : Program} {w : World} {K : PySem.W.Frag} {mg : Str → Option Value} {base : Heap}
theorem c_joined (T : Tx K mg) (C_check_pair : Cal P w K mg base "check_pair" 16 (spP K mg ph_check_pair)) : Cal P w K mg base "joined" 17 (spP K mg ph_joined) :=
  def_p (b := b_joined) T.d_joined sc_joined rfl rfl (fun cdv f A outer s H E hr => by
    have tk := L2N.takes_of (X := cxOf (L2N.CX P w) P w K mg base ["forest", "other", "kinds", "answers", "trees", "together"] "joined" (defScope s_joined) f cdv A outer s H E) (E := E) rfl rfl rfl rfl
    have nd := sc_joined.nd
    exact (dss_cons (ds_expr (by exact (de_call C_check_pair (rr hr) tk (by exact (da_cons (de_var (pv 0)) (da_cons (de_var (pv 1)) da_nil)))))) dss_bad))
end
end Vw
set_option Elab.async false
set_option linter.all false
set_option maxRecDepth 100000
set_option maxHeartbeats 4000000
namespace Vw
open PySem PySem.Spec L2 DL
section
variable {P : Program} {w : World} {K : PySem.W.Frag} {mg : Str → Option Value} {base : Heap}
theorem c_leaves_of (T : Tx K mg) : ∀ n, Cal P w K mg base "leaves_of" (0 + n) (spP K mg (ph_leaves_of n))
  | 0 => cal_bad T.d_leaves_of _
  | n + 1 => by
    have ih := c_leaves_of T n
    exact def_p (k := 0 + n) (b := b_leaves_of (ph_leaves_of n)) T.d_leaves_of sc_leaves_of rfl rfl (fun cdv f A outer s H E hr => by
      have tk := L2N.takes_of (X := cxOf (L2N.CX P w) P w K mg base ["tree"] "leaves_of" (defScope s_leaves_of) f cdv A outer s H E) (E := E) rfl rfl rfl rfl
      have nd := sc_leaves_of.nd
      exact (dss_cons (ds_if (by exact (dt_cmp (opd_eq (hu64 hr)) (by exact (de_ix (de_var (pv 0)) de_int)) (by exact (de_gstr T.c_LEAF)))) (by exact (dss_one (ds_ret de_int))) dss_nil) (dss_one (ds_ret (by exact (de_op opd_add (by exact (de_call ih (rr hr) tk (by exact (da_cons (by exact (de_ix (de_var (pv 0)) de_int)) da_nil)))) (by exact (de_call ih (rr hr) tk (by exact (da_cons (by exact (de_ix (de_var (pv 0)) de_int)) da_nil))))))))))
end
end Vw
set_option Elab.async false
set_option linter.all false
set_option maxRecDepth 100000
set_option maxHeartbeats 4000000
namespace Vw
open PySem PySem.Spec L2 DL
section
variable {P : Program} {w : World} {K : PySem.W.Frag} {mg : Str → Option Value} {base : Heap}
theorem c_votes_form (T : Tx K mg) (C_check_forest : Cal P w K mg base "check_forest" 15 (spP K mg ph_check_forest)) : Cal P w K mg base "votes_form" 16 (spP K mg ph_votes_form) :=
  def_p (b := b_votes_form) T.d_votes_form sc_votes_form rfl rfl (fun cdv f A outer s H E hr => by
    have tk := L2N.takes_of (X := cxOf (L2N.CX P w) P w K mg base ["forest"] "votes_form" (defScope s_votes_form) f cdv A outer s H E) (E := E) rfl rfl rfl rfl
    have nd := sc_votes_form.nd
    exact (dss_cons (ds_expr (by exact (de_call C_check_forest (rr hr) tk (by exact (da_cons (de_var (pv 0)) da_nil))))) dss_bad))
end
end Vw
set_option Elab.async false
set_option linter.all false
set_option maxRecDepth 100000
set_option maxHeartbeats 2000000
namespace HT
open PySem PySem.Spec PyProof.Rows L2 L2H HotX
/-! a list walked to its end while an exception is handled (its context is None) -/
section
variable {P : Program} {w : World} {A : Around} {E : Value → Shared → Prop} {s : Shared}
theorem end_hot {it l x1 : Addr} {i : Nat} {its : Array Value} {Q : Option Value → Shared → Prop} (hot : HotAt A x1 s.heap) (ne : x1 ≠ it) (hit : s.heap.IsListIter it l i) (hl : s.heap.IsList l its) (hx : its[i]? = none)
    (q : ∀ h', (∀ b o, b ≠ it → s.heap.get? b = some o → h'.get? b = some o) → Q none { s with heap := h' }) : wpAny (model P w) A (pyNext (.ref it)) Q E s := by
  obtain ⟨oi, gi, ci, di⟩ := id hit
  obtain ⟨ol, gl, _, nl, dl⟩ := hl
  obtain ⟨hh, ox, vx, gx, dx, cx⟩ := hot
  unfold pyNext
  refine wpAny_bind (wpAny_attempt (wpAny_callSpecial?_slot (name := Str.ofString "__next__") hit.typeIs slot_listiter_next (wpAny_call_entry slot_listiter_next hit.typeIs entry_listiter_next ?_ (args_listiter_next _))))
  show wpAny _ _ (field (.ref it) 0 >>= _) _ _ s
  refine wpAny_bind (wpAny_field gi di (x := .ref l) rfl ?_)
  show wpAny _ _ (if (Value.ref l == Value.none) = true then _ else _) _ _ s
  rw [if_neg (show ¬ ((Value.ref l == Value.none) = true) from Bool.false_ne_true)]; show wpAny _ _ (field (.ref it) 1 >>= _) _ _ s
  refine wpAny_bind (wpAny_field gi di (x := .int i 0) rfl ?_)
  show wpAny _ _ (seqItems? (.ref l) >>= _) _ _ s
  refine wpAny_bind (wpAny_seqItems gl dl ?_)
  simp only [Int.toNat_natCast, hx]
  refine wpAny_bind (wpAny_rule (wpAny_bind (wpAny_setField gi di (by simp) ?_)))
  show wpAny _ _ (newExc (.type "StopIteration") [] >>= _) _ _ _
  refine wpAny_bind ?_; simp only [newExc, newTuple]
  refine wpAny_bind (wpAny_newObj_type ?_ (by first | size_fits)); refine wpAny_bind (m := firstArgMember _ _) (wpAny_of_eq (a := Value.none) (by first | rfl | (simp only [firstArgMember]; rfl)) ?_)
  refine wpAny_newObj_type ?_ (by first | size_fits)
  have gx2 := (Heap.get?_update_other s.heap (Obj.mapFields (·.setIfInBounds 0 Value.none)) (Ne.symm ne)).trans gx
  refine raiseNew_hot ⟨hh, ox, vx, Heap.get?_push_of_some _ (Heap.get?_push_of_some _ gx2), dx, cx⟩ (Nat.ne_of_lt (Heap.lt_size (Heap.get?_push_of_some _ gx2))) (Heap.get?_push_size _ rfl) rfl (by first | (simp; done) | (simp; omega)) ?_
  refine wpAny_bind (wpAny_isInstance (T := "StopIteration") (b := true) ⟨_, Heap.get?_update_self _ (Heap.get?_push_size _ rfl) rfl, rfl⟩ isSubtype_stop ?_)
  refine wpAny_pure (q _ fun b o nb e => ?_)
  have e2 := (Heap.get?_update_other s.heap (Obj.mapFields (·.setIfInBounds 0 Value.none)) (Ne.symm nb)).trans e
  rw [Heap.get?_update_other _ _ (Nat.ne_of_gt (Heap.lt_size (Heap.get?_push_of_some _ e2)))]
  exact Heap.get?_push_of_some _ (Heap.get?_push_of_some _ e2)
/-- a list walked there, for the library's loops -/
theorem walk_hot {it l x1 : Addr} (hh : A.handled = some (.ref x1)) (nl : l ≠ it) (nx : x1 ≠ it) (its : Array Value) :
    Walks P w A it [it, l, x1] [it] its.size (fun i v => its[i]? = some v) (fun i h => h.IsListIter it l i ∧ h.IsList l its ∧ ∃ (o : Obj) (vs : Array Value), h.get? x1 = some o ∧ o.data = .fields vs ∧ vs[2]? = some .none) where
  sub := fun b hb => by rw [List.mem_singleton] at hb; rw [hb]; exact List.mem_cons_self
  frame := fun i h h' ⟨a, b, o, vs, c, d⟩ k => ⟨a.at fun u e => k it List.mem_cons_self u e, b.at fun u e => k l (List.mem_cons_of_mem _ List.mem_cons_self) u e, o, vs, k x1 (List.mem_cons_of_mem _ (List.mem_cons_of_mem _ List.mem_cons_self)) o c, d⟩
  item := fun i s Q E hi ⟨a, b, o, vs, c, d⟩ q => by
    refine wpAny_pyNext_list_item a b (x := its[i]) (Array.getElem?_eq_getElem hi) fun h' a' sb => ?_
    have k : ∀ b u, b ≠ it → s.heap.get? b = some u → h'.get? b = some u := fun b u n e => sb.extBut b u n e
    exact q _ h' s.toks (Array.getElem?_eq_getElem hi) ⟨a', b.extBut sb.extBut nl, o, vs, k x1 o nx c, d⟩ fun b u hb e => k b u (fun z => hb (by rw [z]; exact List.mem_singleton.mpr rfl)) e
  done := fun s Q E ⟨a, b, o, vs, c, d⟩ q => end_hot ⟨hh, o, vs, c, d⟩ nx a b (Array.getElem?_eq_none (Nat.le_refl _)) fun h' k => q h' s.toks fun b u hb e => k b u (fun z => hb (by rw [z]; exact List.mem_singleton.mpr rfl)) e
  self := fun i s Q E st q => wpAny_pyIter_listiter st.1 q
/-- sum of a list of ints there -/
theorem sum_hot {l x1 : Addr} {xs : Array (Int × Tok)} {Q : Value → Shared → Prop} (hot : HotAt A x1 s.heap) (hl : s.heap.IsList l (intItems xs))
    (q : ∀ h' tk t', (∀ b o, s.heap.get? b = some o → h'.get? b = some o) → Q (.int (preSum (numAt xs) xs.size) t') { s with heap := h', toks := tk }) : wpAny (model P w) A (call (.builtin "sum") [.ref l]) Q E s := by
  obtain ⟨hh, o, vs, gx, dx, cx⟩ := hot
  refine call_sum_walkG (iter_intList hl fun s2 e st fp nl => ?_)
  subst e
  have nx : x1 ≠ s.heap.objs.size := Nat.ne_of_lt (Heap.lt_size gx)
  refine ⟨_, _, _, _, _, _, numAt xs, rfl, walk_hot (A := A.in1) hh nl nx (intItems xs), ⟨st.1, st.2, o, vs, Heap.get?_push_of_some _ gx, dx, cx⟩, fun b hb => ?_, (fun _ _ => intItems_at), fun h' tk t' k => ?_⟩
  · rcases List.mem_cons.mp hb with z | hb
    · exact fp b (by rw [z]; exact List.mem_cons_self)
    · rcases List.mem_cons.mp hb with z | hb
      · exact fp b (by rw [z]; exact List.mem_cons_of_mem _ List.mem_cons_self)
      · rw [List.mem_singleton.mp hb]; exact Heap.lt_size (Heap.get?_push_of_some _ gx)
  · have z := q h' tk t' (old_kept k)
    simpa [intItems] using z
end
section
variable {X : Cx} {pins : List (Addr × Obj)} {σ : L2.St} {H : Hp} {s : Shared}
/-- a new object, known from now on, where only its place's emptiness is told -/
theorem inv_new {h' : Heap} {D : Addr} {o : HO} {t' : Nat} (I : Inv X pins σ H s) (k : ∀ b u, s.heap.get? b = some u → h'.get? b = some u) (hn : s.heap.get? D = none) (new : ObjOk X.prog X.w (upd H D o) h' D o) :
    Inv X pins σ (upd H D o) { s with heap := h', toks := t' } := by
  have nD : H D = none := I.hok.gone hn
  have ne : ∀ b u, s.heap.get? b = some u → b ≠ D := fun b u e z => by rw [z, hn] at e; cases e
  have up : ∀ b u, H b = some u → upd H D o b = some u := fun b u e => by rw [upd_ne (ne_of_none e nD)]; exact e
  refine I.un ⟨fun b u e _ _ _ => k b u e, fun b u e _ _ _ => ⟨u.slots, k b u e⟩, fun b u e n _ => by rw [upd_ne (ne b u e)]; exact n, fun b u e _ => ⟨u, k b u e⟩, fun b xs e => up b _ e, fun b u xs e => up b _ e, fun b ps e => ⟨#[], by rw [up b _ e]; simp⟩⟩ fun b u e => ?_
  by_cases z : b = D
  · rw [z, upd_same] at e; cases e; rw [z]; exact new
  · rw [upd_ne z] at e
    exact (I.hok b u e).stay (fun c v _ q => k c v q) (fun c q => up c _ q) fun c xs q => up c _ q
/-- the ints of bools -/
def bits (bs : List Bool) : List Int := bs.map fun b => if b then 1 else 0
theorem bools_at : ∀ {bs : List Bool} {us : List Value} {i : Nat} {v : Value}, Vals (bs.map V.bl) us → us[i]? = some v → ∃ b, bs[i]? = some b ∧ v = .bool b
  | [], us, i, v, h, e => by cases h; simp at e
  | b :: bs, us, i, v, h, e => by
    rw [List.map_cons] at h
    cases h with
    | cons r t =>
      cases i with
      | zero => simp at e; subst e; cases r; exact ⟨b, rfl, rfl⟩
      | succ i => exact bools_at (i := i) t (by simpa using e)
theorem paired_bits : ∀ {bs : List Bool} {us ys : List Value}, Vals (bs.map V.bl) us → Paired (fun v y => ∃ (b : Bool) (t : Tok), v = Value.bool b ∧ y = Value.int (if b then 1 else 0) t) us ys → Vals ((bits bs).map V.int) ys
  | [], us, ys, h, p => by cases h; cases p; exact .nil
  | b :: bs, us, ys, h, p => by
    rw [List.map_cons] at h
    cases h with
    | cons r t =>
      cases p with
      | cons q p =>
        obtain ⟨c, k, e1, e2⟩ := q
        cases r
        cases e1
        exact .cons ⟨k, e2⟩ (paired_bits t p)
/-- [int(x) for x in y] there -/
theorem pe_bits {i : Nat} {x y : Str} {p1 p2 p3 p4 p5 pos : Pos} {scope : Scope} (hc : HotC X) (hy : PE X (.Name y p5) (tVar i)) (hi : X.mg "int" = none) (hcl : closureFor scope X.env = pure []) (hcell : ∀ z ∈ scope.names, z.2 ≠ .cell) (hkind : scope.kind = .function)
    (hnames : ∀ z ∈ scope.names, z.2 = .local → scope.names.lookup z.1 = some .local) (hx : scope.names.lookup x = some .local) (hxd : (x == ("__debug__" : Str)) = false) (hint : ∀ C, (compEnvC scope [] C X.env).kindOf "int" = some .globalImplicit) (hxk : ∀ C, (compEnvC scope [] C X.env).kindOf x = some .local) :
    PE X (.ListComp (.Call (.Name "int" p1) [.Name x p2] [] p3) [⟨.Name x p4, .Name y p5, [], 0⟩] scope pos)
      (fun σ H Q => ∃ l bs, σ[i]? = some (some (.ref l)) ∧ SqL X.K H l (bs.map V.bl) ∧ ∀ D, H D = none → Q (.ref D) (upd H D (.lst ((bits bs).map V.int)))) := by
  refine ⟨fun pins s σ H Q I ⟨l, bs, hσ, hl, q⟩ => ?_⟩
  refine wpAny_ListComp_free (fun _ => true) (fun v y => ∃ (b : Bool) (t : Tok), v = Value.bool b ∧ y = Value.int (if b then 1 else 0) t) hcl hcell hkind hnames hx
    (thn (hy.run pins s σ H (fun v H1 => v = .ref l ∧ H1 = H) I ⟨_, hσ, rfl, rfl⟩) fun u s1 ⟨v, H1, I1, r1, e1, e2⟩ => ?_)
  subst e1 e2
  obtain rfl : u = Value.ref l := r1
  obtain ⟨its, rv, pl, hz⟩ := I1.list hl
  have hil := pl.isList
  have lt : l < s1.heap.objs.size := by obtain ⟨_, e, _⟩ := hil; exact Heap.lt_size e
  obtain ⟨x1, hh, o, vs, gx, dx, cx⟩ := hc.at I1
  have nx : x1 ≠ s1.heap.objs.size := Nat.ne_of_lt (Heap.lt_size gx)
  refine wpAny_pyIter_list hil ⟨s1.heap.objs.size, _, _, _, _, _, rfl, walk_hot hh (Nat.ne_of_lt lt) nx its.toArray, by rw [List.size_toArray, ← rv.length]; exact hz,
    ⟨⟨_, Heap.get?_push_size _ rfl, rfl, rfl⟩, hil.push _, o, vs, Heap.get?_push_of_some _ gx, dx, cx⟩, fun b hb => ?_, ⟨fun C i v s3 m3 E' _ _ _ _ _ _ => ?_, fun C j v s3 m3 E' _ hP _ hn hm hk _ => ?_⟩, fun D h' tk ys us hD _ hpl hlen hP hF hk => ?_⟩
  · show b < (s1.heap.push _).objs.size
    rw [Heap.size_push]
    rcases List.mem_cons.mp hb with z | hb
    · rw [z]; exact Nat.lt_succ_self _
    · rcases List.mem_cons.mp hb with z | hb
      · rw [z]; exact Nat.lt_succ_of_lt lt
      · rw [List.mem_singleton.mp hb]; exact Nat.lt_succ_of_lt (Heap.lt_size gx)
  · exact wpAny_tests_nil ⟨rfl, _, _, rfl, fun _ _ e => e⟩
  · obtain ⟨b, _, rfl⟩ := bools_at rv (by simpa using hP)
    have up : ∀ b o, s1.heap.get? b = some o → s3.heap.get? b = some o := fun b o e => hk b o (fun z => by rw [List.mem_singleton] at z; rw [z] at e; exact Nat.lt_irrefl _ (Heap.lt_size e)) (Heap.get?_push_of_some _ e)
    obtain ⟨mb, b1, b2⟩ := I1.mod.blt
    have kb : ∀ b o, X.base.get? b = some o → s3.heap.get? b = some o := fun b o e => up b o (I1.bk b o e)
    refine wpAny_Call_Name_kw (Calls.Name_function_global (env := compEnvC scope [] C X.env) hkind (hint C) (Calls.loadGlobal_builtin (by show Heap.Ns _ X.env.globals _; rw [I1.ok.glob]; exact I1.mod.glob.keeps kb) hi (by show Heap.Ns _ X.env.builtins _; rw [I1.ok.blt]; exact b1.keeps kb) ((b2 "int" (by decide)).trans boot_int) ?_) (by decide))
    refine callWith_type1 ?_ (by rfl) (by rfl)
    refine Calls.spliced_cons (wpAny_Name (wpAny_loadName_local hkind (hxk C) hn hm ?_) hxd)
    refine Calls.spliced_nil ?_
    exact call_int_bool ⟨⟨b, _, rfl, rfl⟩, _, _, rfl, fun _ _ e => e⟩
  · have e : us = its := by simpa using list_of_places hlen hP
    subst e
    rw [List.filter_eq_self.mpr fun _ _ => rfl] at hF
    have up : ∀ b o, s1.heap.get? b = some o → h'.get? b = some o := fun b o e => hk b o (fun z => by rw [List.mem_singleton] at z; rw [z] at e; exact Nat.lt_irrefl _ (Heap.lt_size e)) (Heap.get?_push_of_some _ e)
    have nD : s1.heap.get? D = none := by
      cases e : s1.heap.get? D with
      | none => rfl
      | some o => rw [Heap.get?_push_of_some _ e] at hD; cases hD
    obtain ⟨n, hg⟩ := hpl
    have rb := paired_bits rv hF
    have hlen2 : ((bits bs).map V.int).length ≤ sizeLine := by
      unfold bits
      rw [List.length_map] at hz
      rw [List.length_map, List.length_map]
      exact hz
    have J : Inv X pins σ (upd H1 D (.lst ((bits bs).map V.int))) { s1 with heap := h', toks := tk } := inv_new I1 up nD ⟨hlen2, ys.toList, n, rb, by rw [Array.toArray_toList]; exact hg⟩
    exact ⟨.ref D, _, J, rfl, q D (I1.hok.gone nD)⟩
/-- sum(xs) of a list of ints there -/
theorem cr_sumH (hc : HotC X) : CallR X (.builtin "sum") (rSum X.K) := fun pins s σ H vs us Q I r ⟨a, ns, e, hs, q⟩ => by
  subst e
  obtain ⟨its, rv, hl, _⟩ := I.list hs
  rw [Vals.ref1 r]
  obtain ⟨x1, hot⟩ := hc.at I
  obtain ⟨xs, e⟩ := rv.ints.allInts.items
  have hl' := hl.isList
  have hn : numsOf (intItems xs).toList = ns := by rw [← e]; exact rv.ints.numsOf
  rw [e] at hl'
  refine sum_hot hot hl' fun h' tk t' k => ⟨.int ns.sum, H, I.kept k, ⟨t', ?_⟩, q⟩
  rw [preSum_eq, List.take_of_length_le (by simp), ← hn, nums_intItems]
end
end HT
set_option Elab.async false
set_option linter.all false
set_option maxRecDepth 100000
set_option maxHeartbeats 2000000
namespace HT
open PySem PySem.Spec PyProof.Rows L2 L2H HotX
/-- the program's own errors, in the law's row -/
def errNames : List Str := ["InvalidForest", "InvalidInput", "InvalidPart", "InvalidTree", "InvalidIndex", "InvalidBox", "InvalidFlag", "InvalidText", "NoFit", "TooMany", "NothingToUndo"]
structure ErrsAt (K : PySem.W.Frag) (mg : Str → Option Value) : Prop where
  each : ∀ n ∈ errNames, ∃ c, mg n = some (.ref c) ∧ ExcC K c ∧ PySem.W.kitOne K (.ref c) (.type "ValueError") = some true
  apart : ∀ n ∈ errNames, ∀ m ∈ errNames, ∀ c d, mg n = some (.ref c) → mg m = some (.ref d) → PySem.W.kitOne K (.ref c) (.ref d) = some (decide (n = m))
section
variable {X : Cx} {p : Addr × Obj} {D : Addr}
/-- isinstance(e, c) of a pinned error -/
theorem cr_isP (C : ExcC X.K D) (hp : p ∈ X.pn) (hz : Zc (.ref D) none p.2) (hf : ∃ vs, p.2.data = .fields vs) : CallR X (.builtin "isinstance") (rIsE X.K D p.1) := fun pins s σ H xs us Q I r ⟨c, cv, b, e, hcv, hk, q⟩ => by
  subst e
  obtain ⟨a, oe⟩ := p
  obtain ⟨oc, od, oda, osl⟩ := oe
  obtain ⟨h1, h2⟩ := hz
  obtain ⟨vs, hv⟩ := hf
  have h1 : oc = .ref D := h1
  have h2 : od = none := h2
  have hv : oda = .fields vs := hv
  subst h1 h2 hv
  have J : PySem.W.InstAt s.heap a _ D none := ⟨(I.pin _ (List.mem_append_left _ hp)).1, rfl, rfl, trivial⟩
  obtain ⟨u1, u2, e, r1, r2⟩ := vals2 r
  subst e
  obtain rfl : u1 = Value.ref a := r1
  have e2 := hcv u2 r2
  subst e2
  exact PySem.W.kia_one (PySem.W.handS_kitx_exc C.hg C.hk C.hs C.hd C.ha C.hn C.ht C.hm) I.kIn J hk (fun z => nomatch z) fun tk => ⟨.bl b, H, I.kept (t' := tk) fun _ _ z => z, rfl, q⟩
end
/-- a def run where an error is handled: the body's reading, at its entry -/
theorem run_hot {CX : CXT} {P : Program} {w : World} {K : PySem.W.Frag} {mg : Str → Option Value} {base : Heap} {k : Nat} {f : Addr} {x qual : Str} {st : Stmt} {fd : FuncData} {N ps : List Str} {A : Around} {outer : List Env} {s : Shared} {H : Hp} {args : Args} {us : List Value} {vs : List V} {Q : VK} {E : XK} {p : Addr × Obj}
    (F : Fun K x qual st f fd) (S : FnScope N ps (defScope st)) (hr : RoomH (k + 1) A) (hpin : PinOk outer H s p) (e0 : Env0 P w K mg base A outer s H) (hb : BindsTo s fd args (ps.zip us)) (r : Vals vs us) (hl : vs.length = ps.length)
    (body : ∀ cdv, RoomH k (A.deeper (envOfC qual (defScope st) s.heap.objs.size f cdv)) → ∃ t, PSs (cxH CX P w K mg base N qual (defScope st) f cdv A outer s H E p) (defBody st) t ∧ t { nx := fun _ H' => Q .non H', rt := Q } (L2.start N vs) H) :
    codeAny (model P w) A (.call (.ref f) args) (CR CX outer P w H s Q E) s := by
  obtain ⟨oc, od, kV, doc, pm, an, cdv, ct, osl, e, lk, hcd⟩ := F.ex
  subst e
  have KX : K.In s.heap := e0.mod.kin.keeps fun b o e => (e0.bs b o e).1
  have kinds : ∀ y ∈ ps.zip us, (defScope st).names.lookup y.1 = some .local ∨ ((defScope st).names.lookup y.1 = some .cell ∧ ((cellsFrom (s.heap.objs.size + 1) (defScope st).names []).lookup y.1).isSome = true) := fun y hy =>
    (S.par y.1 (List.of_mem_zip hy).1).imp _root_.id fun q => ⟨q, PySem.W.cellsFrom_some _ _ _ (.inl q)⟩
  refine codeAny_call_function hr.depth (KX _ _ lk) rfl S.co S.gen rfl (PySem.W.codeRec_of KX hcd) (hb _ _ _ _ (wpAny_newFunctionEnv_cells S.kind kinds fun env he s1 x => ?_))
  subst he
  refine ⟨(e0.mod.nolimit.keeps fun b o e => (e0.bs b o e).1).keeps x.toInCall.keep, codeAny_func ?_⟩
  obtain ⟨t, ht, hq⟩ := body cdv (hr.deeper _)
  have I : Inv (cxH CX P w K mg base N qual (defScope st) f cdv A outer s H E p) [] (L2.start N vs) H s1 := inv_startH S hpin e0 hl r x
  refine wpAny_mono (ht.run [] s1 (L2.start N vs) H _ I hq) (fun fl s' hs => ?_) fun _ _ z => z
  cases fl with
  | ret u => obtain ⟨v, σ', H', J, rv, q⟩ := hs; exact ⟨v, H', J.os, J.bare, J.base, J.hok, rv, q⟩
  | next => obtain ⟨σ', H', J, q⟩ := hs; exact ⟨V.non, H', J.os, J.bare, J.base, J.hok, rfl, q⟩
  | brk => obtain ⟨_, _, _, z⟩ := hs; exact z.elim
  | cont => obtain ⟨_, _, _, z⟩ := hs; exact z.elim
/-! readings at a fixed first slot -/
abbrev At0 (a : Addr) (σ : L2.St) : Prop := σ[(0 : Nat)]? = some (some (.ref a))
def VE (X : Cx) (a : Addr) (e : Expr) (v : V) : Prop := PE X e (fun σ H Q => At0 a σ ∧ Q v H)
def VA (X : Cx) (a : Addr) (es : List Expr) (vs : List V) : Prop := PA X es (fun σ H Q => At0 a σ ∧ Q vs H)
section
variable {X : Cx} {a : Addr} {e : Expr} {es : List Expr} {v : V} {vs : List V} {pos : Pos}
theorem ve_of (h : PE X e (tC v)) : VE X a e v := DL.PE_imp h fun σ H Q q => q.2
theorem va_nil : VA X a [] [] := DL.PA_imp pa_nil fun σ H Q q => q.2
theorem va_cons (h : VE X a e v) (r : VA X a es vs) (hs : starEach (e :: es) X.env = (false, eval e X.env) :: starEach es X.env := by rfl) : VA X a (e :: es) (v :: vs) := DL.PA_imp (pa_cons h r hs) fun σ H Q q => ⟨q.1, q⟩
theorem lst_le {n : Nat} (h : n ≤ 1000) : n ≤ sizeLine := by rw [sizeLine_eq]; omega
theorem ve_lst (h : VA X a es vs) (hl : vs.length ≤ 1000) : PE X (.List es pos) (fun σ H Q => At0 a σ ∧ ∀ q, H q = none → Q (.ref q) (upd H q (.lst vs))) := DL.PE_imp (pe_lst h) fun σ H Q q => ⟨q.1, lst_le hl, q.2⟩
/-- x = [..] -/
theorem hs_new {i : Nat} {x : Str} {p pe : Pos} (nd : X.N.Nodup) (h : VA X a es vs) (hl : vs.length ≤ 1000) (hi : X.N[i]? = some x := by rfl) (hx : Loc X.env.scope x := by first | exact .inl rfl | exact .inr rfl) (hs : swapsWith (.List es pe) (some (.Name x p)) pos.line X.env = pure false := by rfl)
    (hf : X.fn x = true ∨ X.env.scope.names.lookup x = some .local := by first | exact .inl rfl | exact .inr rfl) :
    PS X (.Assign [.Name x p] (.List es pe) pos) (fun D σ H => At0 a σ ∧ ∀ q H', Same H H' → H' q = some (.lst vs) → D.nx (σ.set i (some (.ref q))) H') := DL.PS_imp (ps_set nd hi hx (ve_lst h hl) hs hf) fun D σ H ⟨h0, q⟩ => ⟨h0, fun z nz => q z _ (DL.same_upd nz) upd_same⟩
/-- x = x + [..] -/
theorem hs_more {i : Nat} {x : Str} {p p1 pe pb : Pos} (nd : X.N.Nodup) (hv : PE X (.Name x p1) (tVar i)) (h : VA X a es vs) (hl : vs.length ≤ 1000) (hi : X.N[i]? = some x := by rfl) (hx : Loc X.env.scope x := by first | exact .inl rfl | exact .inr rfl) (hs : swapsWith (.BinOp (.Name x p1) .Add (.List es pe) pb) (some (.Name x p)) pos.line X.env = pure false := by rfl)
    (hf : X.fn x = true ∨ X.env.scope.names.lookup x = some .local := by first | exact .inl rfl | exact .inr rfl) :
    PS X (.Assign [.Name x p] (.BinOp (.Name x p1) .Add (.List es pe) pb) pos) (fun D σ H => At0 a σ ∧ ∃ l xs, σ[i]? = some (some (.ref l)) ∧ H l = some (.lst xs) ∧ xs.length + vs.length ≤ 1000 ∧
      ∀ q H', Same H H' → H' q = some (.lst (xs ++ vs)) → D.nx (σ.set i (some (.ref q))) H') :=
  DL.PS_imp (ps_set nd hi hx (pe_op op_cat hv (ve_lst h hl)) hs hf) fun D σ H ⟨h0, l, xs, h1, h2, h3, q⟩ => ⟨_, h1, h0, fun q1 n1 => ⟨l, q1, xs, vs, rfl, rfl, by rw [upd_ne (ne_of_none h2 n1)]; exact h2, upd_same, lst_le h3, fun q2 n2 => q q2 _ ((DL.same_upd n1).trans (DL.same_upd n2)) upd_same⟩⟩
/-- isinstance of the pinned error -/
theorem ve_isP {p0 : Addr × Obj} {D : Addr} {n m : Str} {e0 : Expr} {q q2 : Pos} (Er : ErrsAt X.K X.mg) (hn : n ∈ errNames) (hm : m ∈ errNames) (hD : X.mg n = some (.ref D)) (hp : p0 ∈ X.pn) (hz : Zc (.ref D) none p0.2) (hf : ∃ vs, p0.2.data = .fields vs) (hi : X.mg "isinstance" = none) (h0 : PE X e0 (tVar 0))
    (hg : Gl X m := by rfl) (hgI : Gl X "isinstance" := by rfl) (hd : (m == ("__debug__" : Str)) = false := by decide) (he : starEach (e0 :: [.Name m q2]) X.env = (false, eval e0 X.env) :: starEach [.Name m q2] X.env := by rfl) (he2 : starEach [Expr.Name m q2] X.env = (false, eval (.Name m q2) X.env) :: starEach [] X.env := by rfl)
    (hpl : (backTo pos (starEach [Expr.Name m q2] X.env)).any (·.1) = false := by rfl) : VE X p0.1 (.Call (.Name "isinstance" q) [e0, .Name m q2] [] pos) (.bl (decide (n = m))) := by
  obtain ⟨c, hc, _, _⟩ := Er.each m hm
  obtain ⟨d, hd2, C, _⟩ := Er.each n hn
  rw [hD] at hd2
  cases hd2
  exact DL.PE_imp (pe_callB (cr_isP C hp hz hf) hgI hi (by decide +kernel) (pa_cons h0 (pa_cons (pe_glob hg hc (v := .ref c) rfl hd) pa_nil he2) he) (by decide) (by decide) he hpl) fun σ H Q ⟨h0, q⟩ => ⟨_, h0, .ref c, .ref c, _, rfl, fun u r => r, Er.apart n hn m hm D c hD hc, q⟩
theorem ve_isV {p0 : Addr × Obj} {D : Addr} {n : Str} {e0 : Expr} {q q2 : Pos} (Er : ErrsAt X.K X.mg) (hn : n ∈ errNames) (hD : X.mg n = some (.ref D)) (hp : p0 ∈ X.pn) (hz : Zc (.ref D) none p0.2) (hf : ∃ vs, p0.2.data = .fields vs) (hi : X.mg "isinstance" = none) (hV : X.mg "ValueError" = none) (h0 : PE X e0 (tVar 0))
    (hg : Gl X "ValueError" := by rfl) (hgI : Gl X "isinstance" := by rfl) (he : starEach (e0 :: [.Name "ValueError" q2]) X.env = (false, eval e0 X.env) :: starEach [.Name "ValueError" q2] X.env := by rfl) (he2 : starEach [Expr.Name "ValueError" q2] X.env = (false, eval (.Name "ValueError" q2) X.env) :: starEach [] X.env := by rfl)
    (hpl : (backTo pos (starEach [Expr.Name "ValueError" q2] X.env)).any (·.1) = false := by rfl) : VE X p0.1 (.Call (.Name "isinstance" q) [e0, .Name "ValueError" q2] [] pos) (.bl true) := by
  obtain ⟨d, hd2, C, hk⟩ := Er.each n hn
  rw [hD] at hd2
  cases hd2
  exact DL.PE_imp (pe_callB (cr_isP C hp hz hf) hgI hi (by decide +kernel) (pa_cons h0 (pa_cons (pe_bltn (v := .ty "ValueError") hg hV (by decide +kernel) rfl) pa_nil he2) he) (by decide) (by decide) he hpl) fun σ H Q ⟨h0, q⟩ => ⟨_, h0, .ty "ValueError", .type "ValueError", _, rfl, fun u r => r, hk, q⟩
end
end HT
set_option Elab.async false
set_option linter.all false
set_option maxRecDepth 100000
set_option maxHeartbeats 2000000
namespace LN
open PySem PySem.Spec PyProof.Rows L2 LamX
/-- the table T.1 of the code objects, each of the name T.2, none of them hidden -/
def TabG (T : Addr × Str) (G : Addr → Prop) (H : Hp) : Prop := ∃ ps : Array Value, H T.1 = some (.tbl ps) ∧ TriplesOk ps.toList ∧ ∀ (pos : Pos) (cv : Value), codeAmong pos ps.toList = some cv → ∃ c, cv = .ref c ∧ H c = some (CodeO c T.2) ∧ ¬ G c
theorem TabG.keep {T : Addr × Str} {G G' : Addr → Prop} {H H' : Hp} (t : TabG T G H) (h1 : ∀ ps, H T.1 = some (.tbl ps) → H' T.1 = some (.tbl ps)) (h2 : ∀ b o, H b = some o → ¬ G b → H' b = some o ∧ ¬ G' b) : TabG T G' H' := by
  obtain ⟨ps, a, b, c⟩ := t
  refine ⟨ps, h1 ps a, b, fun pos cv e => ?_⟩
  obtain ⟨d, e1, e2, e3⟩ := c pos cv e
  exact ⟨d, e1, h2 d _ e2 e3⟩
section
variable {X : Cx} {pins : List (Addr × Obj)} {σ : L2.St} {H : Hp} {s : Shared}
/-- a lambda is made: its code object is new or told by the table -/
theorem lam_new {G : Addr → Prop} {c P : Addr} {params : Arguments} {body : Expr} {scope : Scope} {pos : Pos} {E : Value → Shared → Prop} {Q : Value → Shared → Prop} (I : Inv X pins σ H s) (TB : TabB X.base X.mg c P) (hcode : X.env.code = .ref c)
    (hT : TabG (P, X.env.qual ++ "<lambda>") G H) (vis : ∀ b, G b → H b ≠ none) (hdef : defaultsOf params X.env = ([], [])) (hfree : ∀ y ∈ scope.names, y.2 = .free → ∃ c, X.env.cells.lookup y.1 = some c)
    (q : ∀ (f c' : Addr) (pm ctv : Value) (H1 : Hp) (s' : Shared), Inv X pins σ H1 s' → (∀ b o, H b = some o → b ≠ P → H1 b = some o) → TabG (P, X.env.qual ++ "<lambda>") G H1 →
      s'.heap.get? f = some (PySem.W.kla_obj "<lambda>" (X.env.qual ++ "<lambda>") params body scope (cloFrom X.env.cells scope.names []) pm c' ctv) → H1 f = none → f ∉ frs X.stack → H1 c' = some (CodeO c' (X.env.qual ++ "<lambda>")) → Q (.ref f) s') :
    wpAny (model X.prog X.w) X.A (eval (.Lambda params body scope pos) X.env) Q E s := by
  obtain ⟨ps, hP, hok, each⟩ := hT
  have hP : H P = some (.tbl ps) := hP
  have gP : s.heap.get? P = some { cls := .none, data := .fields ps } := I.hok P _ hP
  have lts : X.env.locals < s.heap.objs.size := I.lt
  have out : ∀ f, s.heap.objs.size ≤ f → f ∉ frs X.stack := fun f hf hm => by
    rcases List.mem_cons.mp (I.stkSub f hm) with z | z
    · rw [z] at hf; exact Nat.lt_irrefl _ (Nat.lt_of_lt_of_le lts hf)
    · exact I.nofs hf z
  refine PySem.W.kla_eval hdef ?_
  cases found : codeAmong pos ps.toList with
  | some cv =>
    obtain ⟨c', e, hc', _⟩ := each pos cv found
    subst e
    refine PySem.W.kla_makeFunctionHit (mg := X.mg) (c := c) (P := P) (ps := ps) (closure_ok hfree) I.ok.glob (I.mod.glob.keeps I.bk) hcode (TB.code.keeps I.bk) gP hok found (TB.bm.keeps I.bk) fun ctv h' tk keep more => ?_
    have J : Inv X pins σ H { s with heap := h'.push (PySem.W.kla_obj "<lambda>" (X.env.qual ++ "<lambda>") params body scope (cloFrom X.env.cells scope.names []) ((X.mg "__name__").getD .none) c' ctv), toks := tk } := I.kept fun b o e => Heap.get?_push_of_some _ (keep b o e)
    exact q h'.objs.size c' _ ctv H _ J (fun _ _ e _ => e) ⟨ps, hP, hok, each⟩ (Heap.get?_push_size _ rfl) (I.hok.fresh more) (out _ more) hc'
  | none =>
    refine PySem.W.kla_makeFunction (mg := X.mg) (c := c) (P := P) (ps := ps) (closure_ok hfree) I.ok.glob (I.mod.glob.keeps I.bk) hcode (TB.code.keeps I.bk) gP hok found TB.gP (TB.bm.keeps I.bk) fun c' ctv h' tk ext ge lt rec tab => ?_
    obtain ⟨c2, oc, vs, t, e, g, dd, vv⟩ := rec
    cases e
    have more : s.heap.objs.size ≤ h'.objs.size := Nat.le_trans ge (Nat.le_of_lt lt)
    have nc : H c' = none := I.hok.fresh ge
    have neP : P ≠ c' := ne_of_none hP nc
    have keep : ∀ b o, H b = some o → b ≠ P → upd (upd H P (.tbl (ps ++ #[rawInt pos.line, rawInt pos.col, .ref c']))) c' (CodeO c' (X.env.qual ++ "<lambda>")) b = some o := fun b o e n => by
      rw [upd_ne (ne_of_none e nc), upd_ne n]; exact e
    have J := inv_table (t' := tk) (q := X.env.qual ++ "<lambda>") (more := #[rawInt pos.line, rawInt pos.col, .ref c']) (h' := h'.push (PySem.W.kla_obj "<lambda>" (X.env.qual ++ "<lambda>") params body scope (cloFrom X.env.cells scope.names []) ((X.mg "__name__").getD .none) c' ctv)) I hP
      (fun b o n e => Heap.get?_push_of_some _ (ext b o n e)) (Heap.get?_push_of_some _ tab) ge ⟨oc, vs, t, Heap.get?_push_of_some _ g, dd, vv⟩
    refine q h'.objs.size c' _ ctv _ _ J keep ⟨_, by rw [upd_ne neP, upd_same], by rw [show (ps ++ #[rawInt pos.line, rawInt pos.col, Value.ref c']).toList = ps.toList ++ [rawInt pos.line, rawInt pos.col, .ref c'] by simp]; exact PySem.TriplesOk_snoc _ _ _ _ hok, fun p2 cv e => ?_⟩ (Heap.get?_push_size _ rfl) ?_ (out _ more) upd_same
    · rw [show (ps ++ #[rawInt pos.line, rawInt pos.col, Value.ref c']).toList = ps.toList ++ [rawInt pos.line, rawInt pos.col, .ref c'] by simp] at e
      rcases among_app _ hok e with z | z
      · obtain ⟨c0, a1, a2, a3⟩ := each p2 cv z
        refine ⟨c0, a1, keep c0 _ a2 fun y => ?_, a3⟩
        rw [y, hP] at a2
        exact codeO_ne _ (Option.some.inj a2).symm
      · exact ⟨c', z, upd_same, fun y => vis c' y nc⟩
    · rw [upd_ne (Nat.ne_of_gt lt), upd_ne (Nat.ne_of_gt (Nat.lt_of_lt_of_le (Heap.lt_size gP) more))]
      exact I.hok.fresh more
/-- the context of the lambda's body: what it raises has no context -/
def lamN (X : Cx) (A : Around) (outer : List Env) (s : Shared) (H : Hp) (E : XK) (scope : Scope) (f c' : Addr) : Cx :=
  { lamCx X A outer s H E scope f c' with
    xe := fun e s' => wpAny (model X.prog X.w) (A.deeper (lamEnv X scope s.heap.objs.size f c')) (leaving (lamEnv X scope s.heap.objs.size f c') e) (fun _ s'' => L2N.CX X.prog X.w outer H s E e s'') (fun e' s'' => L2N.CX X.prog X.w outer H s E e' s'') s' }
theorem inv_lamN {A : Around} {outer : List Env} {s1 s2 : Shared} {H0 HZ : Hp} {E : XK} {scope : Scope} {f c' : Addr} (I : Inv (lamCx X A outer s1 H0 E scope f c') [] σ HZ s2) : Inv (lamN X A outer s1 H0 E scope f c') [] σ HZ s2 :=
  ⟨⟨I.ok.mod, I.ok.kind, I.ok.glob, I.ok.blt, I.ok.above, I.ok.inj, I.ok.has, I.ok.cab, I.ok.hd, I.ok.frames, I.ok.stk, I.ok.exf, I.ok.bs, I.ok.bsz, I.ok.noex, I.ok.exfs, I.ok.funs, I.ok.frf⟩, I.os, I.bare, I.base, I.loc, I.cell, I.free, I.freeC, I.pin, I.hok, I.len⟩
end
section
variable {X : Cx} {pins : List (Addr × Obj)} {σ : L2.St} {H : Hp} {s : Shared}
/-- the lambda, called where it has been handed to -/
theorem pe_deed {CXg : CXT} {Eg : XK} {Ng : List Str} {qg : Str} {sg : Scope} {g f c' : Addr} {cdg pm ctv : Value} {params : Arguments} {body : Expr} {scope : Scope} {k i : Nat} {a : Str} {pn : List (Addr × Obj)} {xe : Value → Shared → Prop} {W : WX} {E : XK} {tb : TE} {p1 p2 : Pos}
    (I : Inv X pins σ H s) (L : LamS X.env.scope scope) (hf : s.heap.get? f = some (PySem.W.kla_obj "<lambda>" (X.env.qual ++ "<lambda>") params body scope (cloFrom X.env.cells scope.names []) pm c' ctv)) (hfn : H f = none) (hfr : f ∉ frs X.stack)
    (hbind : bindArgs (PySem.W.kla_fn "<lambda>" (X.env.qual ++ "<lambda>") params body scope (cloFrom X.env.cells scope.names []) pm (.ref c') ctv) ⟨[], []⟩ = pure [])
    (tk : L2N.Takes ((cxOf CXg X.prog X.w X.K X.mg X.base Ng qg sg g cdg X.A X.stack s H Eg).tr pn xe) W) (hr : Room (k + 1) (X.A.deeper (envOfC qg sg s.heap.objs.size g cdg)))
    (hbody : ∀ (A : Around) (outer : List Env) (s : Shared) (H : Hp), Room k (A.deeper (lamEnv X scope s.heap.objs.size f c')) → PE (lamN X A outer s H E scope f c') body tb)
    (hN : Ng[i]? = some a) (hv : Vis sg a) (hd : (a == ("__debug__" : Str)) = false := by decide) (hcd : (a == ("__classdict__" : Str)) = false := by decide) :
    PE ((cxOf CXg X.prog X.w X.K X.mg X.base Ng qg sg g cdg X.A X.stack s H Eg).tr pn xe) (.Call (.Name a p1) [] [] p2)
      (fun σ1 H1 Q => σ1[i]? = some (some (.ref f)) ∧ H1 c' = some (CodeO c' (X.env.qual ++ "<lambda>")) ∧ (∀ cls d H', E cls d H' → W cls d σ1 H') ∧ tb σ H1 Q) := by
  refine ⟨fun pins1 s1 σ1 H1 Q I1 ⟨h1, h2, hW, h3⟩ => ?_⟩
  refine wpAny_Call_Name_kw (thn ((pe_var (pos := p1) (i := i) hN hv hd hcd).run pins1 s1 σ1 H1 (fun v H2 => v = .ref f ∧ H2 = H1) I1 ⟨_, h1, rfl, rfl⟩) fun u s2 ⟨v, H2, I2, rv, e1, e2⟩ => ?_)
  subst e1 e2
  obtain rfl : u = Value.ref f := rv
  have gf := I2.base.keep f _ hf hfn hfr (fun z => nomatch (show f ∈ ([] : List Addr) from z))
  obtain ⟨⟨oc, vs, t, goc, doc, voc⟩, _, _⟩ := I2.hok c' _ h2
  have un : Un (frs X.stack) [] H H2 s.heap s2.heap := I2.base
  have inner : codeAny (model X.prog X.w) (X.A.deeper (envOfC qg sg s.heap.objs.size g cdg)) (.call (.ref f) ⟨[], []⟩) (CR (L2N.CX X.prog X.w) (envOfC qg sg s.heap.objs.size g cdg :: X.stack) X.prog X.w H2 s2 Q E) s2 := by
    refine PySem.W.kla_callFunE hr.depth gf rfl L.co L.gen rfl ⟨c', oc, vs, t, rfl, goc, doc, voc⟩ ?_
    rw [hbind]
    refine wpAny_pure (wpAny_newFunctionEnv (fun y hy => (L.own y hy).2) (fun y hy => absurd hy (by simp)) (fun h4 ns sb => ⟨I2.nolimit.fresh _ sb, ?_⟩) L.kind)
    show codeAny _ _ (.expr body (lamEnv X scope s2.heap.objs.size f c')) _ _
    have kp : ∀ b o, s2.heap.get? b = some o → h4.get? b = some o := fun b o e => sb.extBut b o (Nat.ne_of_lt (Heap.lt_size e)) (Heap.get?_push_of_some _ e)
    have J := inv_lamN (lam_start2 (E := E) (f := f) (c' := c') (tk := s2.toks + ([] : List (Str × Value)).length) I L I2.env0 hr.hd un ns kp)
    refine PySem.W.kla_codeExpr (wpAny_mono ((hbody _ _ s2 H2 (hr.deeper _)).run [] _ _ H2 Q J h3) (fun v s' hq => ?_) fun _ _ z => z)
    obtain ⟨w', H', J', r, q⟩ := hq
    exact ⟨w', H', J'.os, J'.bare, J'.base, J'.hok, r, q⟩
  refine PySem.W.callWith_F0 ⟨_, _, _, _, gf⟩ (wpAny_call (codeAny_mono inner fun r s' hq => ?_))
  cases r with
  | error e => exact tk e s' (L2N.XE.of_call I2 hW hq)
  | ok fl => cases fl with
    | ret u => exact I2.after hq
    | next => exact hq.elim
    | brk => exact hq.elim
    | cont => exact hq.elim
end
end LN
set_option Elab.async false
set_option linter.all false
set_option maxRecDepth 100000
set_option maxHeartbeats 2000000
namespace DQ
open PySem PySem.Spec L2 DL LN
/-! the law's own body: as DL, beside a table of code objects (T) that its lambdas fill -/
structure Rep2 (K : PySem.W.Frag) (T : Addr × Str) (F G : Addr → Prop) (H : Hp) (σ : L2.St) (δ : DSt) : Prop where
  rep : Rep K F G H σ δ
  tF : F T.1
  tb : TabG T G H
def Fr2 (T : Addr × Str) (F G : Addr → Prop) (H H' : Hp) : Prop := ∀ b o, H b = some o → (F b ∨ ¬ G b) → b ≠ T.1 → H' b = some o
theorem Fr2.refl {T : Addr × Str} {F G : Addr → Prop} {H : Hp} : Fr2 T F G H H := fun _ _ h _ _ => h
theorem Fr2.trans {T : Addr × Str} {F G : Addr → Prop} {H H1 H2 : Hp} (a : Fr2 T F G H H1) (b : Fr2 T F G H1 H2) : Fr2 T F G H H2 := fun c o h n m => b c o (a c o h n m) n m
theorem Fr2.of {T : Addr × Str} {F G : Addr → Prop} {H H' : Hp} (f : Fr F G H H') : Fr2 T F G H H' := fun b o h n _ => f b o h n
theorem Fr2.hide {T : Addr × Str} {F G : Addr → Prop} {H H' : Hp} (f : Fr2 T F G H H') (hT : G T.1) : Same (hide G H) (hide G H') := hide_same (fun _ z => .inl z) fun b o e n => f b o e (.inr n) fun z => n (by rw [z]; exact hT)
theorem Rep2.hT {K : PySem.W.Frag} {T : Addr × Str} {F G : Addr → Prop} {H : Hp} {σ : L2.St} {δ : DSt} (R : Rep2 K T F G H σ δ) : G T.1 := R.rep.sub _ R.tF
theorem Rep2.fr {K : PySem.W.Frag} {T : Addr × Str} {F G : Addr → Prop} {H H' : Hp} {σ σ' : L2.St} {δ δ' : DSt} (R : Rep2 K T F G H σ δ) (f : Fr F G H H') (r : Rep K F G H' σ' δ') : Rep2 K T F G H' σ' δ' :=
  ⟨r, R.tF, R.tb.keep (fun ps e => f _ _ e (.inl R.tF)) fun b o e n => ⟨f b o e (.inr n), n⟩⟩
section
variable (X : Cx) (T : Addr × Str)
def PostE2 (F G : Addr → Prop) (H : Hp) (σ : L2.St) (r : Res (PyData × DSt)) (Q : VK) : Prop := match r with
  | .ok (d, δ') => ∀ v H', Fr2 T F G H H' → Rep2 X.K T F G H' σ δ' → Dq X.K (hide G H') v d → Q v H'
  | _ => False
def PostT2 (F G : Addr → Prop) (H : Hp) (σ : L2.St) (r : Res (Bool × DSt)) (Q : Bool → Hp → Prop) : Prop := match r with
  | .ok (d, δ') => ∀ H', Fr2 T F G H H' → Rep2 X.K T F G H' σ δ' → Q d H'
  | _ => False
def tD2 (f : EvE) : TE := fun σ H Q => ∃ F G δ, Rep2 X.K T F G H σ δ ∧ PostE2 X T F G H σ (f δ) Q
def tDT2 (f : EvT) : TT := fun σ H Q => ∃ F G δ, Rep2 X.K T F G H σ δ ∧ PostT2 X T F G H σ (f δ) Q
def DE2 (e : Expr) (f : EvE) : Prop := PE X e (tD2 X T f)
def DT2 (e : Expr) (f : EvT) : Prop := PT X e (tDT2 X T f)
def DW2 (e : Expr) (f : EvT) : Prop := PW X e (tDT2 X T f)
end
section
variable {X : Cx} {T : Addr × Str}
theorem PostE2.mono {F G : Addr → Prop} {H H1 : Hp} {σ : L2.St} {r : Res (PyData × DSt)} {Q : VK} (p : PostE2 X T F G H σ r Q) (f : Fr2 T F G H H1) : PostE2 X T F G H1 σ r Q := by
  cases r with
  | ok x => exact fun v H' fr R h => p v H' (f.trans fr) R h
  | err c => exact p
  | bad => exact p
theorem PostT2.mono {F G : Addr → Prop} {H H1 : Hp} {σ : L2.St} {r : Res (Bool × DSt)} {Q : Bool → Hp → Prop} (p : PostT2 X T F G H σ r Q) (f : Fr2 T F G H H1) : PostT2 X T F G H1 σ r Q := by
  cases r with
  | ok x => exact fun H' fr R => p H' (f.trans fr) R
  | err c => exact p
  | bad => exact p
theorem tD_of2 {f : EvE} {σ : L2.St} {H : Hp} {Q : VK} (h : tD2 X T f σ H Q) : tD X W0 f σ H Q := by
  obtain ⟨F, G, δ, R, p⟩ := h
  refine ⟨F, G, δ, R.rep, ?_⟩
  cases e : f δ with
  | ok x => rw [e] at p; exact fun v H' fr r h => p v H' (.of fr) (R.fr fr r) h
  | err c => rw [e] at p; exact p.elim
  | bad => rw [e] at p; exact p.elim
theorem tDT_of2 {f : EvT} {σ : L2.St} {H : Hp} {Q : Bool → Hp → Prop} (h : tDT2 X T f σ H Q) : tDT X W0 f σ H Q := by
  obtain ⟨F, G, δ, R, p⟩ := h
  refine ⟨F, G, δ, R.rep, ?_⟩
  cases e : f δ with
  | ok x => rw [e] at p; exact fun H' fr r => p H' (.of fr) (R.fr fr r)
  | err c => rw [e] at p; exact p.elim
  | bad => rw [e] at p; exact p.elim
/-- what the layer says of an expression without a lambda -/
theorem de2 {e : Expr} {f : EvE} (h : DE X W0 e f) : DE2 X T e f := PE_imp h fun _ _ _ q => tD_of2 q
theorem dt2 {e : Expr} {f : EvT} (h : DT X W0 e f) : DT2 X T e f := PT_imp h fun _ _ _ q => tDT_of2 q
theorem seqE2 {F G : Addr → Prop} {H : Hp} {σ : L2.St} {δ : DSt} {f : EvE} {β : Type} {g : PyData × DSt → Res β} {P : Hp → Res β → Prop} {Q : VK}
    (R : Rep2 X.K T F G H σ δ) (hp : P H ((f δ).bind g)) (mono : ∀ H1 r, Fr2 T F G H H1 → P H r → P H1 r) (herr : ∀ c, P H (.err c) → False) (hbad : P H .bad → False)
    (hok : ∀ d δ1 v H1, Fr2 T F G H H1 → Rep2 X.K T F G H1 σ δ1 → Dq X.K (hide G H1) v d → P H1 (g (d, δ1)) → Q v H1) : tD2 X T f σ H Q := by
  refine ⟨F, G, δ, R, ?_⟩
  cases e : f δ with
  | ok x => rw [e] at hp; exact fun v H1 fr R1 h => hok x.1 x.2 v H1 fr R1 h (mono H1 _ fr hp)
  | err c => rw [e] at hp; exact (herr c hp).elim
  | bad => rw [e] at hp; exact (hbad hp).elim
theorem seqT2 {F G : Addr → Prop} {H : Hp} {σ : L2.St} {δ : DSt} {f : EvT} {β : Type} {g : Bool × DSt → Res β} {P : Hp → Res β → Prop} {Q : Bool → Hp → Prop}
    (R : Rep2 X.K T F G H σ δ) (hp : P H ((f δ).bind g)) (mono : ∀ H1 r, Fr2 T F G H H1 → P H r → P H1 r) (herr : ∀ c, P H (.err c) → False) (hbad : P H .bad → False)
    (hok : ∀ d δ1 H1, Fr2 T F G H H1 → Rep2 X.K T F G H1 σ δ1 → P H1 (g (d, δ1)) → Q d H1) : tDT2 X T f σ H Q := by
  refine ⟨F, G, δ, R, ?_⟩
  cases e : f δ with
  | ok x => rw [e] at hp; exact fun H1 fr R1 => hok x.1 x.2 H1 fr R1 (mono H1 _ fr hp)
  | err c => rw [e] at hp; exact (herr c hp).elim
  | bad => rw [e] at hp; exact (hbad hp).elim
end
theorem Rep2.same {K : PySem.W.Frag} {T : Addr × Str} {F G : Addr → Prop} {H H' : Hp} {σ : L2.St} {δ : DSt} (R : Rep2 K T F G H σ δ) (s : Same H H') : Rep2 K T F G H' σ δ := R.fr (.of s) (R.rep.same s)
section
variable {X : Cx} {T : Addr × Str}
theorem PostE2.gives {F G : Addr → Prop} {H : Hp} {σ : L2.St} {δ : DSt} {z : PyData} {Q : VK} (p : PostE2 X T F G H σ (.ok (z, δ)) Q) (R : Rep2 X.K T F G H σ δ) : Gives X G H z Q := fun w H' s h => p w H' (.of (.of s)) (R.same s) h
theorem tD2_op {g : PyData → PyData → Res PyData} {fa fb : EvE} {r : R2} (hr : ∀ (G : Addr → Prop) (H : Hp) (v u : V) (d e z : PyData) (Q : VK), (∀ b, G b → H b ≠ none) → Dq X.K (hide G H) v d → Dq X.K (hide G H) u e → g d e = .ok z → Gives X G H z Q → r v u H Q)
    {σ : L2.St} {H : Hp} {Q : VK} (h : tD2 X T (vOp g fa fb) σ H Q) : tOp r (tD2 X T fa) (tD2 X T fb) σ H Q := by
  obtain ⟨F, G, δ, R, p⟩ := h
  refine seqE2 (P := fun H r => PostE2 X T F G H σ r Q) R p (fun _ _ f p => p.mono f) (fun _ p => p) (fun p => p) fun d δ1 v H1 f1 R1 h1 p1 => ?_
  refine seqE2 (P := fun H r => PostE2 X T F G H σ r Q) R1 p1 (fun _ _ f p => p.mono f) (fun _ p => p) (fun p => p) fun e δ2 u H2 f2 R2 h2 p2 => ?_
  dsimp only at p2
  cases ez : g d e with
  | ok z => rw [ez] at p2; exact hr G H2 v u d e z Q R2.rep.vis (h1.mono (f2.hide R.hT)) h2 ez (PostE2.gives p2 R2)
  | err c => rw [ez] at p2; exact p2.elim
  | bad => rw [ez] at p2; exact p2.elim
theorem tDT2_of {f : EvE} {σ : L2.St} {H : Hp} {Q : Bool → Hp → Prop} (h : tDT2 X T (vTest f) σ H Q) : tD2 X T f σ H (fun v H1 => ∃ k, v = .bl k ∧ Q k H1) := by
  obtain ⟨F, G, δ, R, p⟩ := h
  refine ⟨F, G, δ, R, ?_⟩
  unfold vTest asB at p
  cases e : f δ with
  | ok x =>
    obtain ⟨d, δ1⟩ := x
    rw [e] at p
    intro v H' fr R1 h
    cases d <;> try exact p.elim
    cases h
    exact ⟨_, rfl, p H' fr R1⟩
  | err c => rw [e] at p; exact p.elim
  | bad => rw [e] at p; exact p.elim
variable {a b e : Expr} {fa fb f : EvE} {ta tb : EvT} {rest : List Expr} {pos : Pos}
theorem dt2_cmp {op : CmpOp} {g : PyData → PyData → Res PyData} (ho : OpD X (compareOp op) g) (ha : DE2 X T a fa) (hb : DE2 X T b fb) (hm : behindInMarks op b = false := by first | exact nomark _ | rfl) : DT2 X T (.Compare a [op] [b] pos) (vTest (vOp g fa fb)) := by
  obtain ⟨r, h1, h2⟩ := ho
  exact PT_imp (pt_cmpR h1 ha hb hm) fun σ H Q h => tD2_op h2 (tDT2_of h)
theorem dw2_or1 (ha : DT2 X T a ta) : DW2 X T (.BoolOp .Or [a] pos) ta := pw_or1 ha
theorem dw2_or (ha : DT2 X T a ta) (hb : DW2 X T (.BoolOp .Or (b :: rest) pos) tb) : DW2 X T (.BoolOp .Or (a :: b :: rest) pos) (vOr ta tb) := by
  refine PW_imp (pw_or ha hb) fun σ H Q ⟨F, G, δ, R, p⟩ => ?_
  refine seqT2 (P := fun H r => PostT2 X T F G H σ r Q) R p (fun _ _ f p => p.mono f) (fun _ p => p) (fun p => p) fun d δ1 H1 f1 R1 p1 => ?_
  cases d with
  | true => rw [if_pos rfl]; exact p1 H1 .refl R1
  | false => rw [if_neg Bool.false_ne_true]; exact ⟨F, G, δ1, R1, p1⟩
theorem dt2_w (h : DW2 X T a ta) : DT2 X T a ta := PW.pt h
end
/-! ### statements -/
structure SF2 (T : Addr × Str) (F G G' : Addr → Prop) (H H' : Hp) : Prop where
  fr : Fr2 T F G H H'
  grow : ∀ b, G' b → G b ∨ H b = none
theorem SF2.refl {T : Addr × Str} {F G : Addr → Prop} {H : Hp} : SF2 T F G G H H := ⟨.refl, fun _ z => .inl z⟩
theorem SF2.trans {T : Addr × Str} {F G G1 G2 : Addr → Prop} {H H1 H2 : Hp} (hT : G T.1) (a : SF2 T F G G1 H H1) (b : SF2 T F G1 G2 H1 H2) : SF2 T F G G2 H H2 where
  fr := fun c o e n m => b.fr c o (a.fr c o e n m) (n.imp _root_.id fun n z => (a.grow c z).elim n fun q => by rw [q] at e; cases e) m
  grow := fun c z => by
    rcases b.grow c z with q | q
    · exact a.grow c q
    · cases e : H c with
      | none => exact .inr rfl
      | some o =>
        by_cases g : G c
        · exact .inl g
        · rw [a.fr c o e (.inr g) fun z => g (by rw [z]; exact hT)] at q; cases q
theorem SF2.hide {T : Addr × Str} {F G G' : Addr → Prop} {H H' : Hp} (s : SF2 T F G G' H H') (hT : G T.1) : Same (hide G H) (hide G' H') := hide_same s.grow fun b o e n => s.fr b o e (.inr n) fun z => n (by rw [z]; exact hT)
section
variable (X : Cx) (T : Addr × Str)
def PostS2 (F G : Addr → Prop) (H : Hp) (r : Res (Flw × DSt)) (D : Ends) : Prop := match r with
  | .ok (.nx, δ') => ∀ σ' H' G', SF2 T F G G' H H' → Rep2 X.K T F G' H' σ' δ' → D.nx σ' H'
  | .ok (.rt d, δ') => ∀ v σ' H' G', SF2 T F G G' H H' → Rep2 X.K T F G' H' σ' δ' → Dq X.K (hide G' H') v d → D.rt v H'
  | .ok (.rn ds, δ') => ∀ v σ' H' G', SF2 T F G G' H H' → Rep2 X.K T F G' H' σ' δ' → Dq X.K (hide G' H') v (.tuple ds) → D.rt v H'
  | .ok (.bk, δ') => ∀ σ' H' G', SF2 T F G G' H H' → Rep2 X.K T F G' H' σ' δ' → D.bk σ' H'
  | .ok (.ct, δ') => ∀ σ' H' G', SF2 T F G G' H H' → Rep2 X.K T F G' H' σ' δ' → D.ct σ' H'
  | _ => False
def tDS2 (f : EvS) : TS := fun D σ H => ∃ F G δ, Rep2 X.K T F G H σ δ ∧ PostS2 X T F G H (f δ) D
def DS2 (s : Stmt) (f : EvS) : Prop := PS X s (tDS2 X T f)
def DSs2 (s : List Stmt) (f : EvS) : Prop := PSs X s (tDS2 X T f)
end
section
variable {X : Cx} {T : Addr × Str}
theorem PostS2.step {F G G1 : Addr → Prop} {H H1 : Hp} {r : Res (Flw × DSt)} {D : Ends} (p : PostS2 X T F G H r D) (hT : G T.1) (s : SF2 T F G G1 H H1) : PostS2 X T F G1 H1 r D := by
  cases r with
  | ok x =>
    obtain ⟨fl, δ'⟩ := x
    cases fl with
    | nx => exact fun σ' H' G' s' R => p σ' H' G' (s.trans hT s') R
    | rt d => exact fun v σ' H' G' s' R h => p v σ' H' G' (s.trans hT s') R h
    | rn ds => exact fun v σ' H' G' s' R h => p v σ' H' G' (s.trans hT s') R h
    | bk => exact fun σ' H' G' s' R => p σ' H' G' (s.trans hT s') R
    | ct => exact fun σ' H' G' s' R => p σ' H' G' (s.trans hT s') R
  | err c => exact p
  | bad => exact p
/-- what the layer says of a statement without a lambda -/
theorem ds2 {s : Stmt} {f : EvS} (h : DS X W0 s f) : DS2 X T s f := PS_imp h fun D σ H ⟨F, G, δ, R, p⟩ => by
  refine ⟨F, G, δ, R.rep, ?_⟩
  have up : ∀ {σ' : L2.St} {H' : Hp} {G' : Addr → Prop} {δ' : DSt}, SF F G G' H H' σ σ' δ δ' → Rep X.K F G' H' σ' δ' → SF2 T F G G' H H' ∧ Rep2 X.K T F G' H' σ' δ' := fun {σ' H' G' δ'} s r =>
    ⟨⟨.of s.fr, s.grow⟩, r, R.tF, R.tb.keep (fun ps e => s.fr _ _ e (.inl R.tF)) fun b o e n => ⟨s.fr b o e (.inr n), fun z => (s.grow b z).elim n fun q => by rw [q] at e; cases e⟩⟩
  cases e : f δ with
  | ok x =>
    obtain ⟨fl, δ'⟩ := x
    rw [e] at p
    cases fl with
    | nx => exact fun σ' H' G' s r => p σ' H' G' (up s r).1 (up s r).2
    | rt d => exact fun v σ' H' G' s r h => p v σ' H' G' (up s r).1 (up s r).2 h
    | rn ds => exact fun a o vs σ' H' G' s r h1 h2 h3 => p (.ref a) σ' H' G' (up s r).1 (up s r).2 (.tup (.inl (.inr ⟨o, h1⟩)) h3)
    | bk => exact fun σ' H' G' s r => p σ' H' G' (up s r).1 (up s r).2
    | ct => exact fun σ' H' G' s r => p σ' H' G' (up s r).1 (up s r).2
  | err c => rw [e] at p; exact p.elim
  | bad => rw [e] at p; exact p.elim
theorem dss2_nil : DSs2 X T [] vNext := PSs_imp pss_nil fun D σ H ⟨F, G, δ, R, p⟩ => p σ H G .refl R
theorem dss2_cons {s : Stmt} {rest : List Stmt} {f g : EvS} (h1 : DS2 X T s f) (h2 : DSs2 X T rest g) : DSs2 X T (s :: rest) (vSeq f g) := by
  refine PSs_imp (pss_cons h1 h2) fun D σ H ⟨F, G, δ, R, p⟩ => ⟨F, G, δ, R, ?_⟩
  unfold vSeq at p
  cases e : f δ with
  | ok x =>
    obtain ⟨fl, δ1⟩ := x
    rw [e] at p
    cases fl with
    | nx => exact fun σ' H' G' s R' => ⟨F, G', δ1, R', PostS2.step p R.hT s⟩
    | rt d => exact p
    | rn d => exact p
    | bk => exact p
    | ct => exact p
  | err c => rw [e] at p; exact p
  | bad => rw [e] at p; exact p
theorem dss2_one {s : Stmt} {f : EvS} (h : DS2 X T s f) : DSs2 X T [s] f := PSs_imp (pss_one h) fun D σ H h => h
def vIf2 (t : EvT) (f g : EvS) : EvS := fun δ => (t δ).bind fun p => if p.1 = true then f p.2 else g p.2
theorem ds2_if {c : Expr} {a b : List Stmt} {t : EvT} {f g : EvS} {pos : Pos} (hc : DT2 X T c t) (ha : DSs2 X T a f) (hb : DSs2 X T b g) : DS2 X T (.If c a b pos) (vIf2 t f g) := by
  refine PS_imp (ps_if hc ha hb) fun D σ H ⟨F, G, δ, R, p⟩ => ?_
  refine seqT2 (P := fun H r => PostS2 X T F G H r D) R p (fun _ _ f p => PostS2.step p R.hT ⟨f, fun _ z => .inl z⟩) (fun _ p => p) (fun p => p) fun d δ1 H1 f1 R1 p1 => ?_
  cases d with
  | true => rw [if_pos rfl]; exact ⟨F, G, δ1, R1, p1⟩
  | false => rw [if_neg Bool.false_ne_true]; exact ⟨F, G, δ1, R1, p1⟩
theorem Rep2.set {K : PySem.W.Frag} {F G : Addr → Prop} {H : Hp} {σ : L2.St} {δ : DSt} {i : Nat} {x : Sl} {v : V} (R : Rep2 K T F G H σ δ) (hi : i < δ.length) (hx : SlOk K G H v x) : Rep2 K T F G H (σ.set i (some v)) (δ.set i x) := ⟨R.rep.set hi hx, R.tF, R.tb⟩
end
end DQ
set_option Elab.async false
set_option linter.all false
set_option maxRecDepth 100000
set_option maxHeartbeats 2000000
namespace DQ
open PySem PySem.Spec L2 DL LN
section
variable {X : Cx} {T : Addr × Str}
def vFor2 (f : EvA) (g : PyData → DSt → Res DSt) (b : EvS) : EvS := fun δ => (f δ).bind fun p => vForL g b p.1 p.2
theorem ds2_for {tg it : Expr} {body : List Stmt} {f : EvA} {g : PyData → DSt → Res DSt} {ts : List Nat} {b : EvS} {pos : Pos} (hp : PassesOwn (model X.prog X.w) X.A X.env X.xe) (hc : X.calm = true) (hi : DI X W0 tg it f) (hg : DG X tg g ts) (hb : DSs2 X T body b)
    (hs : ∀ x, foldedSetIterable it X.env x = pure x := by intro _; rfl) : DS2 X T (.For tg it body [] pos) (vFor2 f g b) := by
  refine PS_imp (ps_for hp hc hi hg hb hs) fun D σ H ⟨F, G, δ, R, p⟩ => ⟨F, G, δ, R.rep, ?_⟩
  unfold vFor2 at p
  cases e : f δ with
  | err c => rw [e] at p; exact p.elim
  | bad => rw [e] at p; exact p.elim
  | ok x =>
    obtain ⟨ds, δ1⟩ := x
    rw [e] at p
    intro J H1 f1 r1 wk
    have R1 := R.fr f1 r1
    have p1 : PostS2 X T F G H1 (vForL g b ds δ1) D := PostS2.step p R.hT ⟨.of f1, fun _ z => .inl z⟩
    have hT := R.hT
    refine for_it wk.w (fun i σ' H' => ∃ G' δ', SF2 T F G G' H1 H' ∧ Rep2 X.K T F G' H' σ' δ' ∧ PostS2 X T F G' H' (vForL g b (ds.drop i) δ') D) ⟨G, δ1, .refl, R1, p1⟩ (fun i σ' H' _ ⟨G', δ', s', _, _⟩ b o e n => s'.fr b o e (.inr n) fun z => n (by rw [z]; exact hT)) ?_ ?_
    · rintro i x σ' H' H2 hi ⟨G', δ', s', R', p'⟩ ⟨d, ed, same, hd⟩
      have R2 := R'.same same
      have hx := hd G' R'.rep.vis (s'.hide hT)
      have ec : ds.drop i = d :: ds.drop (i + 1) := by
        obtain ⟨h1, h2⟩ := List.getElem?_eq_some_iff.mp ed
        rw [List.drop_eq_getElem_cons h1, h2]
      rw [ec] at p'
      have p2 : PostS2 X T F G' H2 ((noErr (g d δ')).bind fun δ1 => (b δ1).bind fun q => match q.1 with
        | .nx | .ct => vForL g b (ds.drop (i + 1)) q.2
        | .bk => .ok (.nx, q.2)
        | .rn d => .ok (.rn d, q.2)
        | .rt d => .ok (.rt d, q.2)) D := PostS2.step p' R'.hT ⟨.of (.of same), fun _ z => .inl z⟩
      have s2 : SF2 T F G G' H1 H2 := s'.trans hT ⟨.of (.of same), fun _ z => .inl z⟩
      refine ⟨F, G', δ', d, R2.rep, hx, ?_⟩
      cases eg : g d δ' with
      | err c => rw [eg] at p2; exact p2.elim
      | bad => rw [eg] at p2; exact p2.elim
      | ok δ2 =>
        rw [eg] at p2
        intro σ2 _ r3 _
        have R3 : Rep2 X.K T F G' H2 σ2 δ2 := ⟨r3, R2.tF, R2.tb⟩
        refine ⟨F, G', δ2, R3, ?_⟩
        have p3 : PostS2 X T F G' H2 ((b δ2).bind fun q => match q.1 with
          | .nx | .ct => vForL g b (ds.drop (i + 1)) q.2
          | .bk => .ok (.nx, q.2)
          | .rn d => .ok (.rn d, q.2)
          | .rt d => .ok (.rt d, q.2)) D := p2
        cases eb : b δ2 with
        | ok q =>
          obtain ⟨fl, δ3⟩ := q
          rw [eb] at p3
          cases fl with
          | nx => exact fun σ4 H4 G4 s4 R4 => ⟨G4, δ3, s2.trans hT s4, R4, PostS2.step p3 R3.hT s4⟩
          | ct => exact fun σ4 H4 G4 s4 R4 => ⟨G4, δ3, s2.trans hT s4, R4, PostS2.step p3 R3.hT s4⟩
          | bk => exact p3
          | rt d => exact p3
          | rn d => exact p3
        | err c => rw [eb] at p3; exact p3
        | bad => rw [eb] at p3; exact p3
    · rintro σ' H' ⟨G', δ', s', R', p'⟩
      rw [List.drop_length] at p'
      exact p' σ' H' G' .refl R'
/-! a walk over new lists, each one's own for its turn -/
def vForO (i : Nat) (b : EvS) : List (List PyData) → EvS
  | [], δ => .ok (.nx, δ)
  | ls :: r, δ => if i < δ.length then (b ((List.replicate δ.length Sl.no).set i (.own ls))).bind fun q => match q.1 with
    | .nx | .ct => vForO i b r q.2
    | .bk => .ok (.nx, q.2)
    | .rn d => .ok (.rn d, q.2)
    | .rt d => .ok (.rt d, q.2) else .bad
/-- all slots forgotten -/
theorem Rep.forget {K : PySem.W.Frag} {F G : Addr → Prop} {H : Hp} {σ : L2.St} {δ : DSt} (R : Rep K F G H σ δ) : Rep K F G H σ (List.replicate δ.length Sl.no) := by
  have no : ∀ (j : Nat) (x : Sl), (List.replicate δ.length Sl.no)[j]? = some x → x = .no := fun j x e => by
    rw [List.getElem?_replicate] at e
    split at e
    · exact (Option.some.inj e).symm
    · cases e
  exact ⟨R.sub, R.vis, by rw [List.length_replicate]; exact R.len, fun j d e => (nomatch no j _ e), fun j ds e => (nomatch no j _ e), fun j ds e => (nomatch no j _ e), fun j k ds es a e => (nomatch no j _ e), fun j od e => (nomatch no j _ e), fun j k od oe a e => (nomatch no j _ e)⟩
/-- a hidden list becomes a slot's own -/
theorem Rep.ownF {K : PySem.W.Frag} {F F' G : Addr → Prop} {H : Hp} {σ : L2.St} {δ : DSt} {i : Nat} {a : Addr} {xs : List V} {ls : List PyData} (R : Rep K F G H σ δ) (hi : i < δ.length) (ha : H a = some (.lst xs)) (fa : F a) (hF : ∀ b, F' b → F b) (na : ¬ F' a) (hx : DqAll K (hide G H) xs ls) :
    Rep K F' G H (σ.set i (some (.ref a))) (δ.set i (.own ls)) := by
  have hiσ : i < σ.length := by rw [← R.len]; exact hi
  have at_ : ∀ (j : Nat) (x : Sl), (δ.set i (.own ls))[j]? = some x → (j = i ∧ x = .own ls) ∨ (i ≠ j ∧ δ[j]? = some x) := fun j x e => by
    by_cases z : i = j
    · subst z; rw [List.getElem?_set_self hi] at e; exact .inl ⟨rfl, (Option.some.inj e).symm⟩
    · rw [List.getElem?_set_ne z] at e; exact .inr ⟨z, e⟩
  refine ⟨fun b z => R.sub b (hF b z), R.vis, by rw [List.length_set, List.length_set]; exact R.len, fun j d e => ?_, fun j ds e => ?_, fun j ds e => ?_, fun j k ds es c e1 e2 e3 e4 => ?_, fun j od e => ?_, fun j k od oe c e1 e2 e3 e4 => ?_⟩
  · rcases at_ j _ e with ⟨_, z⟩ | ⟨z, e'⟩
    · cases z
    · rw [List.getElem?_set_ne z]; exact R.dat j d e'
  · rcases at_ j _ e with ⟨_, z⟩ | ⟨z, e'⟩
    · cases z
    · rw [List.getElem?_set_ne z]; exact R.tn j ds e'
  · rcases at_ j _ e with ⟨z, y⟩ | ⟨z, e'⟩
    · cases y; subst z
      rw [List.getElem?_set_self hiσ]
      exact ⟨a, xs, rfl, R.sub a fa, na, ha, hx⟩
    · rw [List.getElem?_set_ne z]
      obtain ⟨b, us, h1, h2, h3, h4, h5⟩ := R.ow j ds e'
      exact ⟨b, us, h1, h2, fun y => h3 (hF b y), h4, h5⟩
  · have other : ∀ (j : Nat) (ds : List PyData), i ≠ j → δ[j]? = some (.own ds) → (σ.set i (some (.ref a)))[j]? ≠ some (some (.ref a)) := fun j ds z e y => by
      rw [List.getElem?_set_ne z] at y
      obtain ⟨b, us, h1, h2, h3, h4, h5⟩ := R.ow j ds e
      rw [y] at h1
      cases h1
      exact h3 fa
    rcases at_ j _ e1 with ⟨z, _⟩ | ⟨z, e'⟩
    · rcases at_ k _ e2 with ⟨y, _⟩ | ⟨y, e''⟩
      · rw [z, y]
      · subst z
        rw [List.getElem?_set_self hiσ] at e3
        cases e3
        exact (other k es y e'' e4).elim
    · rcases at_ k _ e2 with ⟨y, _⟩ | ⟨y, e''⟩
      · subst y
        rw [List.getElem?_set_self hiσ] at e4
        cases e4
        exact (other j ds z e' e3).elim
      · rw [List.getElem?_set_ne z] at e3
        rw [List.getElem?_set_ne y] at e4
        exact R.inj j k ds es c e' e'' e3 e4
  · rcases at_ j _ e with ⟨_, y⟩ | ⟨z, e'⟩
    · cases y
    · rw [List.getElem?_set_ne z]
      obtain ⟨b, o, h1, h2, h3, h4, h5⟩ := R.ob j od e'
      exact ⟨b, o, h1, h2, fun y => h3 (hF b y), h4, h5⟩
  · rcases at_ j _ e1 with ⟨_, y⟩ | ⟨z, e'⟩
    · cases y
    · rcases at_ k _ e2 with ⟨_, y⟩ | ⟨y, e''⟩
      · cases y
      · rw [List.getElem?_set_ne z] at e3
        rw [List.getElem?_set_ne y] at e4
        exact R.obj j k od oe c e' e'' e3 e4
theorem SF2.less {F F' G G' : Addr → Prop} {H H' : Hp} (s : SF2 T F G G' H H') (hF : ∀ b, F' b → F b) : SF2 T F' G G' H H' := ⟨fun b o e n m => s.fr b o e (n.imp (hF b) _root_.id) m, s.grow⟩
theorem Rep2.less {K : PySem.W.Frag} {F F' G : Addr → Prop} {H : Hp} {σ : L2.St} {δ : DSt} (R : Rep2 K T F G H σ δ) (hF : ∀ b, F' b → F b) (hT : F' T.1) : Rep2 K T F' G H σ δ :=
  ⟨⟨fun b z => R.rep.sub b (hF b z), R.rep.vis, R.rep.len, R.rep.dat, R.rep.tn, fun i ds e => let ⟨a, xs, h1, h2, h3, h4, h5⟩ := R.rep.ow i ds e; ⟨a, xs, h1, h2, fun z => h3 (hF a z), h4, h5⟩, R.rep.inj, fun i od e => let ⟨a, o, h1, h2, h3, h4, h5⟩ := R.rep.ob i od e; ⟨a, o, h1, h2, fun z => h3 (hF a z), h4, h5⟩, R.rep.obj⟩, hT, R.tb⟩
theorem PostS2.more {F F' G : Addr → Prop} {H : Hp} {r : Res (Flw × DSt)} {D : Ends} (p : PostS2 X T F G H r D) (hF : ∀ b, F b → F' b) (hT : F T.1) : PostS2 X T F' G H r D := by
  cases r with
  | ok x =>
    obtain ⟨fl, δ'⟩ := x
    cases fl with
    | nx => exact fun σ' H' G' s R => p σ' H' G' (s.less hF) (R.less hF hT)
    | rt d => exact fun v σ' H' G' s R h => p v σ' H' G' (s.less hF) (R.less hF hT) h
    | rn ds => exact fun v σ' H' G' s R h => p v σ' H' G' (s.less hF) (R.less hF hT) h
    | bk => exact fun σ' H' G' s R => p σ' H' G' (s.less hF) (R.less hF hT)
    | ct => exact fun σ' H' G' s R => p σ' H' G' (s.less hF) (R.less hF hT)
  | err c => exact p
  | bad => exact p
/-- the list at a, new, of the new lists as: what the loop asks of its iterator's value -/
structure NewLs (H H1 : Hp) (a : Addr) (as : List Addr) (its : List (List Int)) : Prop where
  same : Same H H1
  out : H1 a = some (.lst (as.map V.ref))
  new : H a = none
  len : as.length = its.length
  nd : as.Nodup
  news : ∀ b ∈ as, H b = none
  neq : a ∉ as
  each : ∀ (j : Nat) b c, as[j]? = some b → its[j]? = some c → H1 b = some (.lst (c.map V.int))
/-- for x in e, e a new list of new lists of ints: a turn may change its own -/
theorem ds2_forO {i : Nat} {x : Str} {it : Expr} {body : List Stmt} {b : EvS} {px pos : Pos} {te : TE} (hp : PassesOwn (model X.prog X.w) X.A X.env X.xe) (hc : X.calm = true) (hN : X.N.Nodup) (hit : PE X it te) (hb : DSs2 X T body b) (hi : X.N[i]? = some x := by rfl) (hx : Loc X.env.scope x := by first | exact .inl rfl | exact .inr rfl)
    (hf : X.fn x = true ∨ X.env.scope.names.lookup x = some .local := by first | exact .inl rfl | exact .inr rfl) (hs : ∀ x, foldedSetIterable it X.env x = pure x := by intro _; rfl) (mono : ∀ σ H (P P' : VK), (∀ v H1, P v H1 → P' v H1) → te σ H P → te σ H P') :
    PS X (.For (.Name x px) it body [] pos) (fun D σ H => ∃ F G δ, Rep2 X.K T F G H σ δ ∧ te σ H fun v H1 => ∃ a as its, v = .ref a ∧ NewLs H H1 a as its ∧ PostS2 X T F G H (vForO i b (its.map fun l => l.map PyData.int) δ) D) := by
  refine PS_imp (ps_for hp hc (pi_list hit) (pg_name hN hi hx hf) hb hs) fun D σ H ⟨F, G, δ, R, h⟩ => mono σ H _ _ (fun v H1 ⟨a, as, its, e, N, p⟩ => ⟨a, e, ⟨_, .inl (.inl N.out)⟩, ?_⟩) h
  have hT := R.hT
  have someT : H T.1 ≠ none := R.rep.vis _ hT
  have neT : ∀ {z : Addr}, H z = none → z ≠ T.1 := fun n z => someT (by rw [← z]; exact n)
  have mem : ∀ {j : Nat} {z : Addr}, as[j]? = some z → z ∈ as := fun e => List.mem_of_getElem? e
  have nGa : ¬ G a := fun z => R.rep.vis a z N.new
  have notF : ∀ z ∈ as, ¬ F z := fun z hz f => R.rep.vis z (R.rep.sub z f) (N.news z hz)
  have ix : ∀ {j k : Nat} {z : Addr}, as[j]? = some z → as[k]? = some z → j = k := fun {j k z} e1 e2 => by
    obtain ⟨h1, e1⟩ := List.getElem?_eq_some_iff.mp e1
    obtain ⟨h2, e2⟩ := List.getElem?_eq_some_iff.mp e2
    exact (List.getElem_inj N.nd).mp (e1.trans e2.symm)
  let Fk : Nat → Addr → Prop := fun k z => F z ∨ ∃ j, k ≤ j ∧ as[j]? = some z
  have vF : ∀ k z, F z → Fk k z := fun k z f => .inl f
  let G0 : Addr → Prop := fun z => G z ∨ z ∈ as
  have S0 : Same (hide G H) (hide G0 H1) := hide_same (fun z g => g.imp _root_.id (N.news z)) fun z o e n => N.same z o e
  have R0 : Rep2 X.K T (Fk 0) G0 H1 σ δ := by
    refine ⟨⟨fun z f => f.imp (R.rep.sub z) fun ⟨j, _, e⟩ => mem e, fun z g e => ?_, R.rep.len, fun j d e => ?_, fun j ds e => ?_, fun j ds e => ?_, R.rep.inj, fun j od e => ?_, R.rep.obj⟩, .inl R.tF, R.tb.keep (fun ps e => N.same _ _ e) fun z o e n => ⟨N.same z o e, fun g => g.elim n fun m => by rw [N.news z m] at e; cases e⟩⟩
    · rcases g with g | g
      · exact R.rep.vis z g (N.same.free e)
      · obtain ⟨j, hj, ej⟩ := List.mem_iff_getElem.mp g
        have hj2 : j < its.length := by rw [← N.len]; exact hj
        have q := N.each j z its[j] (by rw [← ej]; exact List.getElem?_eq_getElem hj) (List.getElem?_eq_getElem hj2)
        rw [q] at e
        cases e
    · obtain ⟨v, h1, h2⟩ := R.rep.dat j d e
      exact ⟨v, h1, h2.mono S0⟩
    · obtain ⟨z, o, us, h1, h2, h3, h4⟩ := R.rep.tn j ds e
      exact ⟨z, o, us, h1, S0 _ _ h2, h3, h4.mono S0⟩
    · obtain ⟨z, us, h1, h2, h3, h4, h5⟩ := R.rep.ow j ds e
      exact ⟨z, us, h1, .inl h2, (fun f => f.elim h3 fun ⟨k, _, ek⟩ => nomatch (N.news z (mem ek)).symm.trans h4), N.same _ _ h4, h5.mono S0⟩
    · obtain ⟨z, o, h1, h2, h3, h4, h5⟩ := R.rep.ob j od e
      exact ⟨z, o, h1, .inl h2, (fun f => f.elim h3 fun ⟨k, _, ek⟩ => nomatch (N.news z (mem ek)).symm.trans h4), N.same _ _ h4, h5.mono S0⟩
  have s0 : SF2 T F G G0 H H1 := ⟨fun z o e _ _ => N.same z o e, fun z g => g.imp _root_.id (N.news z)⟩
  have lenI : (its.map fun l => l.map PyData.int).length = as.length := by rw [List.length_map, N.len]
  refine for_it (walk_list (K := X.K) (a := a) (xs := as.map V.ref)) (fun k σ' H' => ∃ G' δ', SF2 T F G G' H H' ∧ Rep2 X.K T (Fk k) G' H' σ' δ' ∧ H' a = some (.lst (as.map V.ref)) ∧ ¬ G' a ∧ (∀ (j : Nat) z c, k ≤ j → as[j]? = some z → its[j]? = some c → H' z = some (.lst (c.map V.int))) ∧
      PostS2 X T F G' H' (vForO i b ((its.map fun l => l.map PyData.int).drop k) δ') D)
    ⟨G0, δ, s0, R0, N.out, (fun g => g.elim nGa N.neq), fun j z c _ e1 e2 => N.each j z c e1 e2, PostS2.step p hT s0⟩ (fun k σ' H' _ ⟨G', δ', _, _, h1, _⟩ => .inl (.inl h1)) ?_ ?_
  · rintro k x σ' H' H2 hk ⟨G', δ', s', R', hA, nA, each, p'⟩ ⟨rfl, ex⟩
    rw [List.length_map] at hk
    have hki : k < its.length := by rw [← N.len]; exact hk
    have ek : as[k]? = some as[k] := List.getElem?_eq_getElem hk
    rw [List.getElem?_map, ek] at ex
    cases ex
    have ec : (its.map fun l => l.map PyData.int).drop k = its[k].map PyData.int :: (its.map fun l => l.map PyData.int).drop (k + 1) := by
      rw [List.drop_eq_getElem_cons (by rw [lenI]; exact hk), List.getElem_map]
    rw [ec] at p'
    have p2 : PostS2 X T F G' H2 (if i < δ'.length then (b ((List.replicate δ'.length Sl.no).set i (.own (its[k].map PyData.int)))).bind fun q => match q.1 with
      | .nx | .ct => vForO i b ((its.map fun l => l.map PyData.int).drop (k + 1)) q.2
      | .bk => .ok (.nx, q.2)
      | .rn d => .ok (.rn d, q.2)
      | .rt d => .ok (.rt d, q.2) else .bad) D := p'
    by_cases hil : i < δ'.length
    · rw [if_pos hil] at p2
      have hk1 := each k as[k] its[k] (Nat.le_refl _) ek (List.getElem?_eq_getElem hki)
      have less : ∀ z, Fk (k + 1) z → Fk k z := fun z f => f.imp _root_.id fun ⟨j, hj, e⟩ => ⟨j, Nat.le_of_succ_le hj, e⟩
      have nF1 : ¬ Fk (k + 1) as[k] := fun f => f.elim (notF _ (mem ek)) fun ⟨j, hj, e⟩ => by
        have := ix e ek
        omega
      have R1 : Rep2 X.K T (Fk (k + 1)) G' H2 (σ'.set i (some (.ref as[k]))) ((List.replicate δ'.length Sl.no).set i (.own (its[k].map PyData.int))) := ⟨Rep.ownF (Rep.forget R'.rep) (by rw [List.length_replicate]; exact hil) hk1 (.inr ⟨k, Nat.le_refl _, ek⟩) less nF1 (dq_ints _), .inl R.tF, R'.tb⟩
      refine ⟨Fk (k + 1), G', _, R1, ?_⟩
      have again : ∀ {σ4 : L2.St} {H4 : Hp} {G4 : Addr → Prop} {δ3 : DSt}, SF2 T (Fk (k + 1)) G' G4 H2 H4 → Rep2 X.K T (Fk (k + 1)) G4 H4 σ4 δ3 → PostS2 X T F G' H2 (vForO i b ((its.map fun l => l.map PyData.int).drop (k + 1)) δ3) D →
          ∃ G' δ', SF2 T F G G' H H4 ∧ Rep2 X.K T (Fk (k + 1)) G' H4 σ4 δ' ∧ H4 a = some (.lst (as.map V.ref)) ∧ ¬ G' a ∧ (∀ (j : Nat) z c, k + 1 ≤ j → as[j]? = some z → its[j]? = some c → H4 z = some (.lst (c.map V.int))) ∧ PostS2 X T F G' H4 (vForO i b ((its.map fun l => l.map PyData.int).drop (k + 1)) δ') D := fun {σ4 H4 G4 δ3} s4 R4 p4 =>
        ⟨G4, δ3, s'.trans hT (s4.less (vF _)), R4, s4.fr a _ hA (.inr nA) (neT N.new), (fun g => (s4.grow a g).elim nA fun z => nomatch z.symm.trans hA),
          fun j z c hj e1 e2 => s4.fr z _ (each j z c (Nat.le_of_succ_le hj) e1 e2) (.inl (.inr ⟨j, hj, e1⟩)) (neT (N.news z (mem e1))), PostS2.step p4 R'.hT (s4.less (vF _))⟩
      cases eb : b ((List.replicate δ'.length Sl.no).set i (.own (its[k].map PyData.int))) with
      | ok q =>
        obtain ⟨fl, δ3⟩ := q
        rw [eb] at p2
        cases fl with
        | nx => exact fun σ4 H4 G4 s4 R4 => again s4 R4 p2
        | ct => exact fun σ4 H4 G4 s4 R4 => again s4 R4 p2
        | bk => exact PostS2.more (D := { D with nx := _, ct := _, bk := D.nx }) (r := .ok (.bk, δ3)) (F := F) p2 (vF _) R.tF
        | rt d => exact PostS2.more (r := .ok (.rt d, δ3)) (F := F) p2 (vF _) R.tF
        | rn d => exact PostS2.more (r := .ok (.rn d, δ3)) (F := F) p2 (vF _) R.tF
      | err c => rw [eb] at p2; exact p2
      | bad => rw [eb] at p2; exact p2
    · rw [if_neg hil] at p2
      exact p2.elim
  · rintro σ' H' ⟨G', δ', s', R', _, _, _, p'⟩
    have ed : (its.map fun l => l.map PyData.int).drop (as.map V.ref).length = [] := by
      rw [List.length_map, ← lenI, List.drop_length]
    rw [ed] at p'
    exact p' σ' H' G' .refl (R'.less (vF _) R.tF)
end
/-! told(lambda: ..) -/
def noOwn (δ : DSt) : DSt := δ.map fun s => match s with
  | .own _ => .no
  | .ob _ => .no
  | s => s
def vTold (names : List Str) (f : EvE) : EvE := fun δ => match f (noOwn δ) with
  | .ok (d, _) => .ok (d, δ)
  | .err c => if c ∈ names then .ok (.tuple [.str "error", .str c], δ) else .bad
  | .bad => .bad
theorem noOwn_at {δ : DSt} {i : Nat} {s : Sl} (h : (noOwn δ)[i]? = some s) (hs : s ≠ .no) : δ[i]? = some s ∧ (∀ ds, s ≠ .own ds) ∧ ∀ od, s ≠ .ob od := by
  unfold noOwn at h
  rw [List.getElem?_map] at h
  cases e : δ[i]? with
  | none => rw [e] at h; cases h
  | some t =>
    rw [e] at h
    cases t with
    | own ds => cases h; exact (hs rfl).elim
    | ob od => cases h; exact (hs rfl).elim
    | no => cases h; exact (hs rfl).elim
    | d x => cases h; exact ⟨rfl, (fun ds z => nomatch z), fun od z => nomatch z⟩
    | tn x => cases h; exact ⟨rfl, (fun ds z => nomatch z), fun od z => nomatch z⟩
theorem Rep.noOwn {K : PySem.W.Frag} {F G : Addr → Prop} {H : Hp} {σ : L2.St} {δ : DSt} (R : Rep K F G H σ δ) : Rep K G G H σ (noOwn δ) where
  sub := fun _ z => z
  vis := R.vis
  len := by unfold DQ.noOwn; rw [List.length_map]; exact R.len
  dat := fun i d e => R.dat i d (noOwn_at e fun z => nomatch z).1
  tn := fun i ds e => R.tn i ds (noOwn_at e fun z => nomatch z).1
  ow := fun i ds e => ((noOwn_at e fun z => nomatch z).2.1 ds rfl).elim
  inj := fun i j ds es a e => ((noOwn_at e fun z => nomatch z).2.1 ds rfl).elim
  ob := fun i od e => ((noOwn_at e fun z => nomatch z).2.2 od rfl).elim
  obj := fun i j od oe a e => ((noOwn_at e fun z => nomatch z).2.2 od rfl).elim
theorem Rep.upto {K : PySem.W.Frag} {F G : Addr → Prop} {H H1 : Hp} {σ : L2.St} {δ : DSt} {P : Addr} (R : Rep K F G H σ δ) (k : ∀ b o, H b = some o → b ≠ P → H1 b = some o) (hP : F P) (h1 : H1 P ≠ none) : Rep K F G H1 σ δ := by
  have S : Same (hide G H) (hide G H1) := hide_same (fun _ z => .inl z) fun b o e n => k b o e fun z => n (by rw [z]; exact R.sub P hP)
  refine ⟨R.sub, fun b g => ?_, R.len, fun i d e => ?_, fun i ds e => ?_, fun i ds e => ?_, R.inj, fun i od e => ?_, R.obj⟩
  · by_cases z : b = P
    · rw [z]; exact h1
    · cases q : H b with
      | none => exact (R.vis b g q).elim
      | some o => rw [k b o q z]; exact fun z => nomatch z
  · obtain ⟨v, a, b⟩ := R.dat i d e
    exact ⟨v, a, b.mono S⟩
  · obtain ⟨a, o, vs, e1, e2, e3, e4⟩ := R.tn i ds e
    exact ⟨a, o, vs, e1, S _ _ e2, e3, e4.mono S⟩
  · obtain ⟨a, xs, e1, e2, e3, e4, e5⟩ := R.ow i ds e
    exact ⟨a, xs, e1, e2, e3, k a _ e4 fun z => e3 (by rw [z]; exact hP), e5.mono S⟩
  · obtain ⟨a, o, e1, e2, e3, e4, e5⟩ := R.ob i od e
    exact ⟨a, o, e1, e2, e3, k a _ e4 fun z => e3 (by rw [z]; exact hP), e5.mono S⟩
end DQ
set_option linter.all false
set_option maxRecDepth 100000
set_option maxHeartbeats 1000000
namespace DL
open PySem PySem.Spec L2
section
variable {α β : Type}
theorem e_bo (a : α) (f : α → Res β) : (Res.ok a).bind f = f a := rfl
theorem e_be (c : Str) (f : α → Res β) : (Res.err c : Res α).bind f = .err c := rfl
theorem e_bb (f : α → Res β) : (Res.bad : Res α).bind f = .bad := rfl
theorem e_ao (b : Bool) (δ : DSt) : asB (.ok (.bool b, δ)) = .ok (b, δ) := rfl
theorem e_ae (c : Str) : asB (.err c) = .err c := rfl
theorem e_no (a : α) : noErr (.ok a) = .ok a := rfl
theorem e_nb : noErr (.bad : Res α) = .bad := rfl
theorem e_cd (x : PyData) (r : DSt) (q : Res (α × DSt)) : chk0 (.d x :: r) q = q := rfl
theorem e_cn (r : DSt) (q : Res (α × DSt)) : chk0 (.no :: r) q = q := rfl
theorem e_ct (x : List PyData) (r : DSt) (q : Res (α × DSt)) : chk0 (.tn x :: r) q = q := rfl
theorem e_co (l l' : List PyData) (r r' : DSt) (x : α) : chk0 (.own l :: r) (.ok (x, .own l' :: r')) = .ok (x, .own l' :: r') := rfl
theorem e_ce (δ : DSt) (c : Str) : chk0 δ (.err c : Res (α × DSt)) = .err c := chk0_err
theorem e_op (g : PyData → PyData → Res PyData) (a b : EvE) (δ : DSt) : vOp g a b δ = (a δ).bind fun p => (b p.2).bind fun q => (noErr (g p.1 q.1)).bind fun z => .ok (z, q.2) := rfl
theorem e_if (t : EvT) (f g : EvS) (δ : DSt) : vIfS t f g δ = (chk0 δ (t δ)).bind fun p => if p.1 = true then f p.2 else g p.2 := rfl
theorem e_seq (f g : EvS) (δ : DSt) : vSeq f g δ = (f δ).bind fun p => match p.1 with
  | .nx => g p.2
  | _ => .ok p := rfl
theorem cz2 : ((2 : Nat) : Int) = 2 := rfl
theorem cz3 : ((3 : Nat) : Int) = 3 := rfl
theorem cz4 : ((4 : Nat) : Int) = 4 := rfl
theorem cz5 : ((5 : Nat) : Int) = 5 := rfl
theorem cz6 : ((6 : Nat) : Int) = 6 := rfl
theorem cz7 : ((7 : Nat) : Int) = 7 := rfl
theorem cz8 : ((8 : Nat) : Int) = 8 := rfl
theorem cz9 : ((9 : Nat) : Int) = 9 := rfl
theorem e_len_t (ds : List PyData) : gLen [.tuple ds] = .ok (.int ds.length) := rfl
theorem e_len_l (ds : List PyData) : gLen [.list ds] = .ok (.int ds.length) := rfl
theorem sh_int (i : Int) : SeqAt.shaped (.int i) = true := by unfold SeqAt.shaped; simp only [PyData.canLay0, PyData.depth]; rfl
theorem e_eq {d e : PyData} (h1 : SeqAt.shaped d = true) (h2 : SeqAt.shaped e = true) : gEq d e = .ok (.bool (PyData.eqv d e)) := by unfold gEq; rw [h1, h2]; rfl
theorem e_ne {d e : PyData} (h1 : SeqAt.shaped d = true) (h2 : SeqAt.shaped e = true) : gNe d e = .ok (.bool (!PyData.eqv d e)) := by unfold gNe; rw [h1, h2]; rfl
theorem e_eq_ii (i j : Int) : gEq (.int i) (.int j) = .ok (.bool (decide (i = j))) := by rw [e_eq (sh_int i) (sh_int j)]; simp only [PyData.eqv, Res.ok.injEq, PyData.bool.injEq]; rfl
theorem e_ne_ii (i j : Int) : gNe (.int i) (.int j) = .ok (.bool (!decide (i = j))) := by rw [e_ne (sh_int i) (sh_int j)]; simp only [PyData.eqv, Res.ok.injEq, PyData.bool.injEq]; rfl
theorem e_lt_ii (i j : Int) : gLt (.int i) (.int j) = .ok (.bool (decide (i < j))) := rfl
theorem e_le_ii (i j : Int) : gLe (.int i) (.int j) = .ok (.bool (decide (i ≤ j))) := rfl
theorem e_gt_ii (i j : Int) : gGt (.int i) (.int j) = .ok (.bool (decide (j < i))) := rfl
theorem e_ge_ii (i j : Int) : gGe (.int i) (.int j) = .ok (.bool (decide (j ≤ i))) := rfl
theorem atI_nat {α : Type} (xs : List α) (k : Nat) : atI xs (k : Int) = xs[k]? := by
  unfold atI ixN
  have h0 : (0 : Int) ≤ (k : Int) := Int.natCast_nonneg k
  rw [if_pos h0]
  by_cases h : (k : Int) < (xs.length : Int)
  · rw [if_pos h] <;> rfl
  · rw [if_neg h, List.getElem?_eq_none (by omega)] <;> rfl
theorem e_ix_t {ds : List PyData} {k : Nat} {d : PyData} (h : ds[k]? = some d) : gIx (.tuple ds) (.int (k : Int)) = .ok d := by
  show (match atI ds (k : Int) with | some d => Res.ok d | none => .bad) = _
  rw [atI_nat, h]
theorem e_ix_l {ds : List PyData} {k : Nat} {d : PyData} (h : ds[k]? = some d) : gIx (.list ds) (.int (k : Int)) = .ok d := by
  show (match atI ds (k : Int) with | some d => Res.ok d | none => .bad) = _
  rw [atI_nat, h]
theorem e_ix_t0 (a : PyData) (r : List PyData) : gIx (.tuple (a :: r)) (.int 0) = .ok a := e_ix_t (k := 0) rfl
theorem e_ix_t1 (a b : PyData) (r : List PyData) : gIx (.tuple (a :: b :: r)) (.int 1) = .ok b := e_ix_t (k := 1) rfl
theorem e_ix_t2 (a b c : PyData) (r : List PyData) : gIx (.tuple (a :: b :: c :: r)) (.int 2) = .ok c := e_ix_t (k := 2) rfl
theorem e_ix_t3 (a b c d : PyData) (r : List PyData) : gIx (.tuple (a :: b :: c :: d :: r)) (.int 3) = .ok d := e_ix_t (k := 3) rfl
theorem e_ix_t4 (a b c d e : PyData) (r : List PyData) : gIx (.tuple (a :: b :: c :: d :: e :: r)) (.int 4) = .ok e := e_ix_t (k := 4) rfl
theorem e_gcd (a b : Int) : gGcd [.int a, .int b] = .ok (.int (Nat.gcd a.natAbs b.natAbs : Nat)) := rfl
end
theorem p_none : plainD .none = true := rfl
theorem p_bool (b : Bool) : plainD (.bool b) = true := rfl
theorem p_int (b : Int) : plainD (.int b) = true := rfl
theorem p_str (b : Str) : plainD (.str b) = true := rfl
theorem p_list (b : List PyData) : plainD (.list b) = true := rfl
theorem p_tuple (b : List PyData) : plainD (.tuple b) = true := rfl
theorem i_int_none  : isiD "int" .none = false := by
  show (kitB "NoneType" "int").getD false = _
  decide +kernel
theorem i_int_bool (b : Bool) : isiD "int" (.bool b) = true := by
  show (kitB "bool" "int").getD false = _
  decide +kernel
theorem i_int_int (b : Int) : isiD "int" (.int b) = true := by
  show (kitB "int" "int").getD false = _
  decide +kernel
theorem i_int_str (b : Str) : isiD "int" (.str b) = false := by
  show (kitB "str" "int").getD false = _
  decide +kernel
theorem i_int_list (b : List PyData) : isiD "int" (.list b) = false := by
  show (kitB "list" "int").getD false = _
  decide +kernel
theorem i_int_tuple (b : List PyData) : isiD "int" (.tuple b) = false := by
  show (kitB "tuple" "int").getD false = _
  decide +kernel
theorem i_bool_none  : isiD "bool" .none = false := by
  show (kitB "NoneType" "bool").getD false = _
  decide +kernel
theorem i_bool_bool (b : Bool) : isiD "bool" (.bool b) = true := by
  show (kitB "bool" "bool").getD false = _
  decide +kernel
theorem i_bool_int (b : Int) : isiD "bool" (.int b) = false := by
  show (kitB "int" "bool").getD false = _
  decide +kernel
theorem i_bool_str (b : Str) : isiD "bool" (.str b) = false := by
  show (kitB "str" "bool").getD false = _
  decide +kernel
theorem i_bool_list (b : List PyData) : isiD "bool" (.list b) = false := by
  show (kitB "list" "bool").getD false = _
  decide +kernel
theorem i_bool_tuple (b : List PyData) : isiD "bool" (.tuple b) = false := by
  show (kitB "tuple" "bool").getD false = _
  decide +kernel
theorem i_str_none  : isiD "str" .none = false := by
  show (kitB "NoneType" "str").getD false = _
  decide +kernel
theorem i_str_bool (b : Bool) : isiD "str" (.bool b) = false := by
  show (kitB "bool" "str").getD false = _
  decide +kernel
theorem i_str_int (b : Int) : isiD "str" (.int b) = false := by
  show (kitB "int" "str").getD false = _
  decide +kernel
theorem i_str_str (b : Str) : isiD "str" (.str b) = true := by
  show (kitB "str" "str").getD false = _
  decide +kernel
theorem i_str_list (b : List PyData) : isiD "str" (.list b) = false := by
  show (kitB "list" "str").getD false = _
  decide +kernel
theorem i_str_tuple (b : List PyData) : isiD "str" (.tuple b) = false := by
  show (kitB "tuple" "str").getD false = _
  decide +kernel
theorem i_tuple_none  : isiD "tuple" .none = false := by
  show (kitB "NoneType" "tuple").getD false = _
  decide +kernel
theorem i_tuple_bool (b : Bool) : isiD "tuple" (.bool b) = false := by
  show (kitB "bool" "tuple").getD false = _
  decide +kernel
theorem i_tuple_int (b : Int) : isiD "tuple" (.int b) = false := by
  show (kitB "int" "tuple").getD false = _
  decide +kernel
theorem i_tuple_str (b : Str) : isiD "tuple" (.str b) = false := by
  show (kitB "str" "tuple").getD false = _
  decide +kernel
theorem i_tuple_list (b : List PyData) : isiD "tuple" (.list b) = false := by
  show (kitB "list" "tuple").getD false = _
  decide +kernel
theorem i_tuple_tuple (b : List PyData) : isiD "tuple" (.tuple b) = true := by
  show (kitB "tuple" "tuple").getD false = _
  decide +kernel
theorem i_list_none  : isiD "list" .none = false := by
  show (kitB "NoneType" "list").getD false = _
  decide +kernel
theorem i_list_bool (b : Bool) : isiD "list" (.bool b) = false := by
  show (kitB "bool" "list").getD false = _
  decide +kernel
theorem i_list_int (b : Int) : isiD "list" (.int b) = false := by
  show (kitB "int" "list").getD false = _
  decide +kernel
theorem i_list_str (b : Str) : isiD "list" (.str b) = false := by
  show (kitB "str" "list").getD false = _
  decide +kernel
theorem i_list_list (b : List PyData) : isiD "list" (.list b) = true := by
  show (kitB "list" "list").getD false = _
  decide +kernel
theorem i_list_tuple (b : List PyData) : isiD "list" (.tuple b) = false := by
  show (kitB "tuple" "list").getD false = _
  decide +kernel
theorem e_v0 (q : PyData) (r : DSt) : vVar 0 (.d q :: r) = .ok (q, .d q :: r) := rfl
theorem e_t0 (q : List PyData) (r : DSt) : vVar 0 (.tn q :: r) = .ok (.tuple q, .tn q :: r) := rfl
theorem e_s0_0 (x : Sl) (r : DSt) : setD 0 x (.no :: r) = .ok (x :: r) := rfl
theorem e_s0_1 (x : Sl) (y : PyData) (r : DSt) : setD 0 x (.d y :: r) = .ok (x :: r) := rfl
theorem e_s0_2 (x : Sl) (y : List PyData) (r : DSt) : setD 0 x (.tn y :: r) = .ok (x :: r) := rfl
theorem e_v1 (q : PyData) (a : Sl) (r : DSt) : vVar 1 (a :: .d q :: r) = .ok (q, a :: .d q :: r) := rfl
theorem e_t1 (q : List PyData) (a : Sl) (r : DSt) : vVar 1 (a :: .tn q :: r) = .ok (.tuple q, a :: .tn q :: r) := rfl
theorem e_s1_0 (x : Sl) (a : Sl) (r : DSt) : setD 1 x (a :: .no :: r) = .ok (a :: x :: r) := rfl
theorem e_s1_1 (x : Sl) (y : PyData) (a : Sl) (r : DSt) : setD 1 x (a :: .d y :: r) = .ok (a :: x :: r) := rfl
theorem e_s1_2 (x : Sl) (y : List PyData) (a : Sl) (r : DSt) : setD 1 x (a :: .tn y :: r) = .ok (a :: x :: r) := rfl
theorem e_s1_3 (x : Sl) (y : List PyData) (a : Sl) (r : DSt) : setD 1 x (a :: .own y :: r) = .ok (a :: x :: r) := rfl
theorem e_v2 (q : PyData) (a b : Sl) (r : DSt) : vVar 2 (a :: b :: .d q :: r) = .ok (q, a :: b :: .d q :: r) := rfl
theorem e_t2 (q : List PyData) (a b : Sl) (r : DSt) : vVar 2 (a :: b :: .tn q :: r) = .ok (.tuple q, a :: b :: .tn q :: r) := rfl
theorem e_s2_0 (x : Sl) (a b : Sl) (r : DSt) : setD 2 x (a :: b :: .no :: r) = .ok (a :: b :: x :: r) := rfl
theorem e_s2_1 (x : Sl) (y : PyData) (a b : Sl) (r : DSt) : setD 2 x (a :: b :: .d y :: r) = .ok (a :: b :: x :: r) := rfl
theorem e_s2_2 (x : Sl) (y : List PyData) (a b : Sl) (r : DSt) : setD 2 x (a :: b :: .tn y :: r) = .ok (a :: b :: x :: r) := rfl
theorem e_s2_3 (x : Sl) (y : List PyData) (a b : Sl) (r : DSt) : setD 2 x (a :: b :: .own y :: r) = .ok (a :: b :: x :: r) := rfl
theorem e_v3 (q : PyData) (a b c : Sl) (r : DSt) : vVar 3 (a :: b :: c :: .d q :: r) = .ok (q, a :: b :: c :: .d q :: r) := rfl
theorem e_t3 (q : List PyData) (a b c : Sl) (r : DSt) : vVar 3 (a :: b :: c :: .tn q :: r) = .ok (.tuple q, a :: b :: c :: .tn q :: r) := rfl
theorem e_s3_0 (x : Sl) (a b c : Sl) (r : DSt) : setD 3 x (a :: b :: c :: .no :: r) = .ok (a :: b :: c :: x :: r) := rfl
theorem e_s3_1 (x : Sl) (y : PyData) (a b c : Sl) (r : DSt) : setD 3 x (a :: b :: c :: .d y :: r) = .ok (a :: b :: c :: x :: r) := rfl
theorem e_s3_2 (x : Sl) (y : List PyData) (a b c : Sl) (r : DSt) : setD 3 x (a :: b :: c :: .tn y :: r) = .ok (a :: b :: c :: x :: r) := rfl
theorem e_s3_3 (x : Sl) (y : List PyData) (a b c : Sl) (r : DSt) : setD 3 x (a :: b :: c :: .own y :: r) = .ok (a :: b :: c :: x :: r) := rfl
theorem e_v4 (q : PyData) (a b c d : Sl) (r : DSt) : vVar 4 (a :: b :: c :: d :: .d q :: r) = .ok (q, a :: b :: c :: d :: .d q :: r) := rfl
theorem e_t4 (q : List PyData) (a b c d : Sl) (r : DSt) : vVar 4 (a :: b :: c :: d :: .tn q :: r) = .ok (.tuple q, a :: b :: c :: d :: .tn q :: r) := rfl
theorem e_s4_0 (x : Sl) (a b c d : Sl) (r : DSt) : setD 4 x (a :: b :: c :: d :: .no :: r) = .ok (a :: b :: c :: d :: x :: r) := rfl
theorem e_s4_1 (x : Sl) (y : PyData) (a b c d : Sl) (r : DSt) : setD 4 x (a :: b :: c :: d :: .d y :: r) = .ok (a :: b :: c :: d :: x :: r) := rfl
theorem e_s4_2 (x : Sl) (y : List PyData) (a b c d : Sl) (r : DSt) : setD 4 x (a :: b :: c :: d :: .tn y :: r) = .ok (a :: b :: c :: d :: x :: r) := rfl
theorem e_s4_3 (x : Sl) (y : List PyData) (a b c d : Sl) (r : DSt) : setD 4 x (a :: b :: c :: d :: .own y :: r) = .ok (a :: b :: c :: d :: x :: r) := rfl
theorem e_v5 (q : PyData) (a b c d e : Sl) (r : DSt) : vVar 5 (a :: b :: c :: d :: e :: .d q :: r) = .ok (q, a :: b :: c :: d :: e :: .d q :: r) := rfl
theorem e_t5 (q : List PyData) (a b c d e : Sl) (r : DSt) : vVar 5 (a :: b :: c :: d :: e :: .tn q :: r) = .ok (.tuple q, a :: b :: c :: d :: e :: .tn q :: r) := rfl
theorem e_s5_0 (x : Sl) (a b c d e : Sl) (r : DSt) : setD 5 x (a :: b :: c :: d :: e :: .no :: r) = .ok (a :: b :: c :: d :: e :: x :: r) := rfl
theorem e_s5_1 (x : Sl) (y : PyData) (a b c d e : Sl) (r : DSt) : setD 5 x (a :: b :: c :: d :: e :: .d y :: r) = .ok (a :: b :: c :: d :: e :: x :: r) := rfl
theorem e_s5_2 (x : Sl) (y : List PyData) (a b c d e : Sl) (r : DSt) : setD 5 x (a :: b :: c :: d :: e :: .tn y :: r) = .ok (a :: b :: c :: d :: e :: x :: r) := rfl
theorem e_s5_3 (x : Sl) (y : List PyData) (a b c d e : Sl) (r : DSt) : setD 5 x (a :: b :: c :: d :: e :: .own y :: r) = .ok (a :: b :: c :: d :: e :: x :: r) := rfl
theorem e_v6 (q : PyData) (a b c d e f : Sl) (r : DSt) : vVar 6 (a :: b :: c :: d :: e :: f :: .d q :: r) = .ok (q, a :: b :: c :: d :: e :: f :: .d q :: r) := rfl
theorem e_t6 (q : List PyData) (a b c d e f : Sl) (r : DSt) : vVar 6 (a :: b :: c :: d :: e :: f :: .tn q :: r) = .ok (.tuple q, a :: b :: c :: d :: e :: f :: .tn q :: r) := rfl
theorem e_s6_0 (x : Sl) (a b c d e f : Sl) (r : DSt) : setD 6 x (a :: b :: c :: d :: e :: f :: .no :: r) = .ok (a :: b :: c :: d :: e :: f :: x :: r) := rfl
theorem e_s6_1 (x : Sl) (y : PyData) (a b c d e f : Sl) (r : DSt) : setD 6 x (a :: b :: c :: d :: e :: f :: .d y :: r) = .ok (a :: b :: c :: d :: e :: f :: x :: r) := rfl
theorem e_s6_2 (x : Sl) (y : List PyData) (a b c d e f : Sl) (r : DSt) : setD 6 x (a :: b :: c :: d :: e :: f :: .tn y :: r) = .ok (a :: b :: c :: d :: e :: f :: x :: r) := rfl
theorem e_s6_3 (x : Sl) (y : List PyData) (a b c d e f : Sl) (r : DSt) : setD 6 x (a :: b :: c :: d :: e :: f :: .own y :: r) = .ok (a :: b :: c :: d :: e :: f :: x :: r) := rfl
theorem e_v7 (q : PyData) (a b c d e f g : Sl) (r : DSt) : vVar 7 (a :: b :: c :: d :: e :: f :: g :: .d q :: r) = .ok (q, a :: b :: c :: d :: e :: f :: g :: .d q :: r) := rfl
theorem e_t7 (q : List PyData) (a b c d e f g : Sl) (r : DSt) : vVar 7 (a :: b :: c :: d :: e :: f :: g :: .tn q :: r) = .ok (.tuple q, a :: b :: c :: d :: e :: f :: g :: .tn q :: r) := rfl
theorem e_s7_0 (x : Sl) (a b c d e f g : Sl) (r : DSt) : setD 7 x (a :: b :: c :: d :: e :: f :: g :: .no :: r) = .ok (a :: b :: c :: d :: e :: f :: g :: x :: r) := rfl
theorem e_s7_1 (x : Sl) (y : PyData) (a b c d e f g : Sl) (r : DSt) : setD 7 x (a :: b :: c :: d :: e :: f :: g :: .d y :: r) = .ok (a :: b :: c :: d :: e :: f :: g :: x :: r) := rfl
theorem e_s7_2 (x : Sl) (y : List PyData) (a b c d e f g : Sl) (r : DSt) : setD 7 x (a :: b :: c :: d :: e :: f :: g :: .tn y :: r) = .ok (a :: b :: c :: d :: e :: f :: g :: x :: r) := rfl
theorem e_s7_3 (x : Sl) (y : List PyData) (a b c d e f g : Sl) (r : DSt) : setD 7 x (a :: b :: c :: d :: e :: f :: g :: .own y :: r) = .ok (a :: b :: c :: d :: e :: f :: g :: x :: r) := rfl
end DL
set_option Elab.async false
set_option linter.all false
set_option maxRecDepth 100000
set_option maxHeartbeats 2000000
namespace Vw
open PySem PySem.Spec PyProof.Rows L2 L2H DL HT
abbrev s__law_term : Stmt := top 78
theorem sc__law_term : FnScope ["_law_e", "_law_flags", "_law_kinds_here"] ["_law_e"] (defScope s__law_term) := ⟨rfl, rfl, rfl, by decide +kernel, rfl, by decide +kernel, by decide +kernel⟩
/-- what the two helpers ask of the module -/
structure Tm (K : PySem.W.Frag) (mg : Str → Option Value) : Prop where
  er : ErrsAt K mg
  isi : mg "isinstance" = none
  val : mg "ValueError" = none
  sum : mg "sum" = none
  int : mg "int" = none
  d : DefAt K mg "_law_term" s__law_term ["_law_e"]
def flagsOf (n : Str) : List Bool := errNames.map fun m => decide (n = m)
theorem flags_sum : (errNames.all fun n => decide ((bits (flagsOf n)).sum = 1)) = true := by decide +kernel
theorem flags_ix : ((List.range 11).all fun i => match errNames[i]? with
  | some n => decide ((flagsOf n)[i]? = some true) && ((List.range i).all fun j => decide ((flagsOf n)[j]? = some false))
  | none => false) = true := by decide +kernel
theorem flags_shaped : (errNames.all fun n => SeqAt.shaped (.list ((flagsOf n).map .bool))) = true := by decide +kernel
theorem dp_bools {K : PySem.W.Frag} {H : Hp} : ∀ bs : List Bool, DpAll K H (bs.map V.bl) (bs.map PyData.bool)
  | [] => .nil
  | b :: bs => .cons (.bl b) (dp_bools bs)
theorem run_term {P : Program} {w : World} {K : PySem.W.Frag} {mg : Str → Option Value} {base : Heap} (T : Tm K mg) {CX : CXT} {A : Around} {outer : List Env} {s : Shared} {H : Hp} {Q : VK} {E : XK} {p : Addr × Obj} {n : Str} {D : Addr}
    (hn : n ∈ errNames) (hD : mg n = some (.ref D)) (hz : Zc (.ref D) none p.2) (hf : ∃ vs, p.2.data = .fields vs) (hr : RoomH 2 A) (hot : Hot1 A p) (hpin : PinOk outer H s p) (e0 : Env0 P w K mg base A outer s H)
    (q : ∀ a H', Same H H' → H a = none → H' a = some (.tup [.str "error", .str n]) → Q (.ref a) H') :
    ∃ f fd, mg "_law_term" = some (.ref f) ∧ PySem.W.keepIn K (.ref f) = true ∧ Binds K fd ["_law_e"] [] ∧ ∀ (args : Args) (us : List Value), BindsTo s fd args ((["_law_e"] : List Str).zip us) → Vals [.ref p.1] us → codeAny (model P w) A (.call (.ref f) args) (CR CX outer P w H s Q E) s := by
  obtain ⟨f, fd, F, hm, hb⟩ := T.d.ex
  refine ⟨f, fd, hm, F.kp, hb, fun args us hbt hv => ?_⟩
  refine run_hot (k := 1) F sc__law_term hr hpin e0 hbt hv rfl fun cdv hr2 => ?_
  have hc : HotC (cxH CX P w K mg base ["_law_e", "_law_flags", "_law_kinds_here"] "_law_term" (defScope s__law_term) f cdv A outer s H E p) := ⟨p, hot, List.mem_singleton.mpr rfl⟩
  have hp : p ∈ (cxH CX P w K mg base ["_law_e", "_law_flags", "_law_kinds_here"] "_law_term" (defScope s__law_term) f cdv A outer s H E p).pn := List.mem_singleton.mpr rfl
  have nd := sc__law_term.nd
  have hu : (cxH CX P w K mg base ["_law_e", "_law_flags", "_law_kinds_here"] "_law_term" (defScope s__law_term) f cdv A outer s H E p).A.units + 65 < cLine := by
    have := hr2.un
    show (A.deeper _).units + 65 < cLine
    omega
  refine ⟨_, pss_cons (hs_new (i := 1) (a := p.1) nd (va_cons (ve_isP T.er hn (m := "InvalidForest") (by decide +kernel) hD hp hz hf T.isi (pv 0)) (va_cons (ve_isP T.er hn (m := "InvalidInput") (by decide +kernel) hD hp hz hf T.isi (pv 0)) (va_cons (ve_isP T.er hn (m := "InvalidPart") (by decide +kernel) hD hp hz hf T.isi (pv 0)) va_nil))) (by simp))
    (pss_cons (hs_more (i := 1) (a := p.1) nd (pv 1) (va_cons (ve_isP T.er hn (m := "InvalidTree") (by decide +kernel) hD hp hz hf T.isi (pv 0)) (va_cons (ve_isP T.er hn (m := "InvalidIndex") (by decide +kernel) hD hp hz hf T.isi (pv 0)) (va_cons (ve_isP T.er hn (m := "InvalidBox") (by decide +kernel) hD hp hz hf T.isi (pv 0)) va_nil))) (by simp))
    (pss_cons (hs_more (i := 1) (a := p.1) nd (pv 1) (va_cons (ve_isP T.er hn (m := "InvalidFlag") (by decide +kernel) hD hp hz hf T.isi (pv 0)) (va_cons (ve_isP T.er hn (m := "InvalidText") (by decide +kernel) hD hp hz hf T.isi (pv 0)) (va_cons (ve_isP T.er hn (m := "NoFit") (by decide +kernel) hD hp hz hf T.isi (pv 0)) va_nil))) (by simp))
    (pss_cons (hs_more (i := 1) (a := p.1) nd (pv 1) (va_cons (ve_isP T.er hn (m := "TooMany") (by decide +kernel) hD hp hz hf T.isi (pv 0)) (va_cons (ve_isP T.er hn (m := "NothingToUndo") (by decide +kernel) hD hp hz hf T.isi (pv 0)) va_nil)) (by simp))
    (pss_cons (hs_new (i := 2) (a := p.1) nd (va_cons (ve_of pe_str) (va_cons (ve_of pe_str) (va_cons (ve_of pe_str) (va_cons (ve_of pe_str) (va_cons (ve_of pe_str) (va_cons (ve_of pe_str) va_nil)))))) (by simp))
    (pss_cons (hs_more (i := 2) (a := p.1) nd (pv 2) (va_cons (ve_of pe_str) (va_cons (ve_of pe_str) (va_cons (ve_of pe_str) (va_cons (ve_of pe_str) (va_cons (ve_of pe_str) va_nil))))) (by simp))
    (pss_cons (ps_if (PW.pt (pw_or (pt_cmpR op_ne (pe_callB (cr_sumH hc) rfl T.sum (by decide +kernel) (pa_cons (pe_bits (i := 1) hc (pv 1) T.int (by rfl) (by decide +kernel) rfl (by decide +kernel) rfl (by decide) (fun _ => rfl) (fun _ => rfl)) pa_nil)) pe_int rfl)
        (pw_or1 (pt_not (pt_val (ve_isV T.er hn hD hp hz hf T.isi T.val (pv 0))))))) (pss_one (ps_ret (pe_tup (pa_cons pe_str (pa_cons pe_str pa_nil))))) pss_nil)
    (pss_one (ps_ret (pe_tup (pa_cons pe_str (pa_cons (pe_ix ix_list (pv 2) (pe_bm (T := "list") PySem.F.plainAttrs_list PySem.F.slot_list_index PySem.F.type_list_index (mt_indexD hu) (pv 1) (pa_cons pe_bl pa_nil)) (fun _ _ => rfl)) pa_nil))))))))))), ?_⟩
  obtain ⟨i, hi⟩ := List.mem_iff_getElem?.mp hn
  have h11 : i < 11 := (List.getElem?_eq_some_iff.mp hi).1
  have hix := List.all_eq_true.mp flags_ix i (List.mem_range.mpr h11)
  rw [hi] at hix
  have hix : (decide ((flagsOf n)[i]? = some true) && ((List.range i).all fun j => decide ((flagsOf n)[j]? = some false))) = true := hix
  rw [Bool.and_eq_true, decide_eq_true_eq, List.all_eq_true] at hix
  have hsum := of_decide_eq_true (List.all_eq_true.mp flags_sum n hn)
  refine ⟨rfl, fun a1 H1 s1 m1 => ⟨rfl, a1, _, rfl, m1, by simp, fun a2 H2 s2 m2 => ⟨rfl, a2, _, rfl, m2, by simp, fun a3 H3 s3 m3 => ⟨rfl, a3, _, rfl, m3, by simp, fun a4 H4 s4 m4 => ?_⟩⟩⟩⟩
  have f4 : H4 a4 = some (.lst ((flagsOf n).map V.bl)) := m4
  clear m1 m2 m3 m4
  refine ⟨rfl, fun b1 H5 s5 m5 => ⟨rfl, b1, _, rfl, m5, by simp, fun b2 H6 s6 m6 => ?_⟩⟩
  have f6 : H6 b2 = some (.lst (errNames.map V.str)) := m6
  have g6 := (s5.trans s6) _ _ f4
  have S := s1.trans (s2.trans (s3.trans (s4.trans (s5.trans s6))))
  clear m5 m6 f4 s1 s2 s3 s4 s5 s6
  refine ⟨a4, flagsOf n, rfl, .inl (.inl g6), fun L nL => ⟨L, bits (flagsOf n), rfl, .inl (.inl upd_same), ?_⟩⟩
  have S7 := S.trans (same_upd (o := .lst ((bits (flagsOf n)).map V.int)) nL)
  have g7 := same_upd (o := .lst ((bits (flagsOf n)).map V.int)) nL _ _ g6
  have f7 := same_upd (o := .lst ((bits (flagsOf n)).map V.int)) nL _ _ f6
  generalize upd H6 L _ = H7 at S7 g7 f7 ⊢
  rw [hsum]
  refine ⟨rfl, false, rfl, ⟨rfl, _, rfl, ?_⟩⟩
  refine ⟨_, rfl, _, rfl, .inl ⟨rfl, _, .inl (.inl g7)⟩, a4, .bl true, .bool true, (flagsOf n).map .bool, i, .bool true, rfl, rfl, .lst (.inl (.inl g7)) (dp_bools _), .bl true, List.all_eq_true.mp flags_shaped n hn, by decide +kernel, by rw [List.getElem?_map, hix.1] <;> rfl, rfl, fun m z hm hz => ?_, b2, errNames.map V.str, (i : Nat), .str n, rfl, rfl, .inl (.inl f7), ?_, ?_⟩
  · have hz2 := of_decide_eq_true (hix.2 m (List.mem_range.mpr hm))
    rw [List.getElem?_map, hz2] at hz
    cases hz
    rfl
  · rw [DL.atI_nat, List.getElem?_map, hi] <;> rfl
  · exact ⟨lst_le (by simp), fun a na => q a _ (S7.trans (same_upd na)) (S7.free na) upd_same⟩
/-- _law_term(e) in an except suite -/
theorem pe_term {X : Cx} (T : Tm X.K X.mg) {p : Addr × Obj} {i : Nat} {x : Str} {p1 q pos : Pos} {n : Str} {D : Addr} (hn : n ∈ errNames) (hD : X.mg n = some (.ref D)) (hz : Zc (.ref D) none p.2) (hf : ∃ vs, p.2.data = .fields vs) (hr : RoomH 2 X.A) (hot : Hot1 X.A p) (hp : p ∈ X.pn)
    (hv : PE X (.Name x p1) (tVar i)) (hg : Gl X "_law_term" := by rfl) (he : starEach (.Name x p1 :: []) X.env = (false, eval (.Name x p1) X.env) :: starEach [] X.env := by rfl) (hpl : (backTo pos (starEach [] X.env)).any (·.1) = false := by rfl) :
    PE X (.Call (.Name "_law_term" q) [.Name x p1] [] pos) (fun σ H Q => σ[i]? = some (some (.ref p.1)) ∧ ∀ a H', Same H H' → H a = none → H' a = some (.tup [.str "error", .str n]) → Q (.ref a) H') := by
  refine ⟨fun pins s σ H Q I ⟨h1, h2⟩ => ?_⟩
  obtain ⟨f, fd, F, hm, hb⟩ := T.d.ex
  refine wpAny_Call_Name_kw (ld_glob I hg hm ?_ (by decide))
  refine PySem.W.callWith_K (h₀ := X.base) I.ok.mod.kin F.kp (thn ((pa_cons hv pa_nil he).run pos pins s σ H (fun vs H1 => vs = [V.ref p.1] ∧ H1 = H) I ⟨_, h1, rfl, rfl⟩) fun us s1 ⟨vs, H1, I1, r, e1, e2⟩ => ⟨I1.kIn, ?_⟩) he hpl
  subst e1 e2
  have P1 := I1.pin p (List.mem_append_left _ hp)
  have hpin : PinOk X.stack H1 s1 p := ⟨P1.1, P1.2.1, fun hm => (List.mem_cons.mp (I1.stkSub p.1 hm)).elim P1.2.2.1 P1.2.2.2.1, P1.2.2.2.2⟩
  obtain ⟨f2, fd2, hm2, _, hb2, run⟩ := run_term (P := X.prog) (w := X.w) (base := X.base) T (CX := fun _ _ _ _ _ _ => False) (Q := Q) (E := fun _ _ _ => False) hn hD hz hf hr hot hpin I1.env0 h2
  obtain rfl : f = f2 := Value.ref.inj (Option.some.inj (hm.symm.trans hm2))
  have lus : us.length = 1 := by rw [← r.length] <;> rfl
  have b := hb2 s1 us I1.kIn (by rw [List.append_nil]; exact lus)
  rw [List.append_nil] at b
  refine wpAny_call (codeAny_mono (run ⟨us, []⟩ us b r) fun rs s' hq => ?_)
  cases rs with
  | error e => exact (show False from hq).elim
  | ok fl => cases fl with
    | ret u => exact I1.after hq
    | next => exact (show False from hq).elim
    | brk => exact (show False from hq).elim
    | cont => exact (show False from hq).elim
abbrev s__law_told : Stmt := top 79
theorem sc__law_told : FnScope ["_law_deed", "_law_e"] ["_law_deed"] (defScope s__law_told) := ⟨rfl, rfl, rfl, by decide +kernel, rfl, by decide +kernel, by decide +kernel⟩
structure Td (K : PySem.W.Frag) (mg : Str → Option Value) : Prop where
  tm : Tm K mg
  d : DefAt K mg "_law_told" s__law_told ["_law_deed"]
  vote : ∃ C, mg "VoteError" = some (.ref C) ∧ ∀ n ∈ errNames, ∀ c, mg n = some (.ref c) → PySem.W.exmOne K (.ref c) (.ref C) = some true
/-- what is wished of an error that the deed lets out -/
def Named (mg : Str → Option Value) (Q : VK) : XK := fun cls d H => d = none ∧ ∃ n C, n ∈ errNames ∧ mg n = some (.ref C) ∧ cls = .ref C ∧ ∀ a H', Same H H' → H a = none → H' a = some (.tup [.str "error", .str n]) → Q (.ref a) H'
open LamX LN in
theorem pe_told {X : Cx} (T : Td X.K X.mg) {c P : Addr} {params : Arguments} {body : Expr} {scope : Scope} {p lpos pos : Pos} {k : Nat} {t : XK → TE} (TB : TabB X.base X.mg c P) (hcode : X.env.code = .ref c) (hr : Room (k + 4) X.A) (L : LamS X.env.scope scope) (hdef : defaultsOf params X.env = ([], []))
    (hbind : ∀ (q : Str) (cl : List (Str × Addr)) (pm cv ctv : Value), bindArgs (PySem.W.kla_fn "<lambda>" q params body scope cl pm cv ctv) ⟨[], []⟩ = pure [])
    (hbody : ∀ (A : Around) (outer : List Env) (s : Shared) (H : Hp) (E : XK) (f c' : Addr), Room k (A.deeper (lamEnv X scope s.heap.objs.size f c')) → PE (lamN X A outer s H E scope f c') body (t E)) (hg : Gl X "_law_told" := by rfl) :
    PE X (.Call (.Name "_law_told" p) [.Lambda params body scope lpos] [] pos) (fun σ H Q => ∃ G : Addr → Prop, TabG (P, X.env.qual ++ "<lambda>") G H ∧ (∀ b, G b → H b ≠ none) ∧ ∀ H1, (∀ b o, H b = some o → b ≠ P → H1 b = some o) → TabG (P, X.env.qual ++ "<lambda>") G H1 → t (Named X.mg Q) σ H1 Q) := by
  refine ⟨fun pins s σ H Q I ⟨G, hT, vis, h⟩ => ?_⟩
  obtain ⟨g, fd, F, hm, hb⟩ := T.d.ex
  obtain ⟨oc, od, kV, doc, pm, an, cdv, ct, osl, e, lk, hcg⟩ := F.ex
  subst e
  obtain ⟨CS, hCS, hexm⟩ := T.vote
  refine wpAny_Call_Name_kw (ld_glob I hg hm ?_ (by decide))
  refine PySem.W.callWith_K (h₀ := X.base) I.ok.mod.kin F.kp ?_ (by rfl) (by rfl)
  show wpAny _ _ (spliced ((false, eval (.Lambda params body scope lpos) X.env) :: backTo pos (starEach [] X.env))) _ _ s
  refine Calls.spliced_cons (lam_new I TB hcode hT vis hdef (L.has I.ok) fun f c' pm' ctv H1 s' I1 keep T1 hf hfn hfr hco => ?_)
  refine Calls.spliced_nil ⟨I1.kIn, ?_⟩
  have inner : codeAny (model X.prog X.w) X.A (.call (.ref g) ⟨[.ref f], []⟩) (CR C8.CX0 X.stack X.prog X.w H1 s' Q C8.E0) s' := by
    refine run_ofS (N := ["_law_deed", "_law_e"]) (ps := ["_law_deed"]) (us := [.ref f]) (vs := [.ref f]) lk hcg sc__law_told (k := k + 3) hr I1.env0 (hb s' [.ref f] I1.kIn rfl) (.cons rfl .nil) rfl fun hr2 => ?_
    refine ⟨_, (pss_one (L2N.ps_try_as (X := (cxOf C8.CX0 X.prog X.w X.K X.mg X.base ["_law_deed", "_law_e"] "_law_told" (defScope s__law_told) g cdv X.A X.stack s' H1 C8.E0).nox) (i := 1) (c := .ref CS)
        (tb := fun W D σ1 HZ => ∃ Ech : XK, (∀ cls d H', Ech cls d H' → W cls d σ1 H') ∧ σ1[(0 : Nat)]? = some (some (.ref f)) ∧ HZ c' = some (CodeO c' (X.env.qual ++ "<lambda>")) ∧ t Ech σ HZ D.rt)
        (ts := fun a cls d D σ1 HZ => d = none ∧ ∃ n C, n ∈ errNames ∧ X.mg n = some (.ref C) ∧ cls = .ref C ∧ σ1[(1 : Nat)]? = some (some (.ref a)) ∧ ∀ b H', Same HZ H' → HZ b = none → H' b = some (.tup [.str "error", .str n]) → D.rt (.ref b) H')
        (x := "VoteError") rfl rfl sc__law_told.nd rfl rfl ⟨(by rfl), (by decide), .inl hCS⟩ takesN (fun W pn xe tk _ => ?_) (fun a oe cls d pn hz hfl => ?_))).nox, ?_⟩
    · refine ⟨fun pins1 s1 σ1 HZ D IZ ⟨Ech, h1, h2, h3, h4⟩ => ?_⟩
      have hd := fun p1 p2 : Pos => pe_deed (CXg := C8.CX0) (Eg := C8.E0) (p1 := p1) (p2 := p2) (i := 0) (a := "_law_deed") (E := Ech) (W := W) (pn := pn) (xe := xe) I1 L hf hfn hfr (hbind _ _ _ _ _) tk (hr2.mono (Nat.add_le_add_left (by decide) k)) (fun A outer s H hr3 => hbody A outer s H Ech f c' hr3) rfl (.inl rfl)
      exact (pss_one (ps_ret (hd _ _))).run pins1 s1 σ1 HZ D IZ ⟨h2, h3, h1, h4⟩
    · refine ⟨fun pins1 s1 σ1 HZ D IZ ⟨e1, n, C, h1, h2, h3, h4, h5⟩ => ?_⟩
      subst e1 h3
      have hot : Hot1 ((cxOf C8.CX0 X.prog X.w X.K X.mg X.base ["_law_deed", "_law_e"] "_law_told" (defScope s__law_told) g cdv X.A X.stack s' H1 C8.E0).nox.suite a ((a, oe) :: pn)).A (a, oe) := by
        obtain ⟨vs, hv⟩ := hfl
        exact ⟨rfl, vs, hv, hz.2.2 vs hv⟩
      have hr4 : RoomH (k + 3) ((cxOf C8.CX0 X.prog X.w X.K X.mg X.base ["_law_deed", "_law_e"] "_law_told" (defScope s__law_told) g cdv X.A X.stack s' H1 C8.E0).nox.suite a ((a, oe) :: pn)).A := ⟨hr2.dp, hr2.un⟩
      have ht := fun p1 p2 p3 : Pos => pe_term (p1 := p1) (q := p2) (pos := p3) (p := (a, oe)) (i := 1) (X := (cxOf C8.CX0 X.prog X.w X.K X.mg X.base ["_law_deed", "_law_e"] "_law_told" (defScope s__law_told) g cdv X.A X.stack s' H1 C8.E0).nox.suite a ((a, oe) :: pn)) T.tm h1 h2 hz.zc hfl (hr4.mono (Nat.le_add_left 2 (k + 1))) hot List.mem_cons_self (pv 1)
      exact (pss_one (ps_ret (ht _ _ _))).run pins1 s1 σ1 HZ D IZ ⟨h4, h5⟩
    · refine ⟨Named X.mg Q, fun cls d H' ⟨e1, n, C, h1, h2, h3, h4⟩ => ⟨true, by rw [h3]; exact hexm n h1 C h2, fun _ a _ => ⟨e1, n, C, h1, h2, h3, rfl, h4⟩, fun z => nomatch z⟩, rfl, hco, h H1 keep T1⟩
  refine wpAny_call (codeAny_mono inner fun r s2 hq => ?_)
  cases r with
  | error e => exact (show False from hq).elim
  | ok fl => cases fl with
    | ret u => exact I1.after hq
    | next => exact (show False from hq).elim
    | brk => exact (show False from hq).elim
    | cont => exact (show False from hq).elim
open LamX LN DQ in
theorem de2_told {X : Cx} (T : Td X.K X.mg) {c P : Addr} {params : Arguments} {body : Expr} {scope : Scope} {p lpos pos : Pos} {k : Nat} {fD : EvE} (TB : TabB X.base X.mg c P) (hcode : X.env.code = .ref c) (hr : Room (k + 4) X.A) (L : LamS X.env.scope scope) (hdef : defaultsOf params X.env = ([], []))
    (hbind : ∀ (q : Str) (cl : List (Str × Addr)) (pm cv ctv : Value), bindArgs (PySem.W.kla_fn "<lambda>" q params body scope cl pm cv ctv) ⟨[], []⟩ = pure [])
    (hbody : ∀ (A : Around) (outer : List Env) (s : Shared) (H : Hp) (E : XK) (f c' : Addr), Room k (A.deeper (lamEnv X scope s.heap.objs.size f c')) → DE (lamN X A outer s H E scope f c') (fun cls d _ H => E cls d H) body fD) (hg : Gl X "_law_told" := by rfl) :
    DE2 X (P, X.env.qual ++ "<lambda>") (.Call (.Name "_law_told" p) [.Lambda params body scope lpos] [] pos) (vTold errNames fD) := by
  refine PE_imp (pe_told (t := fun E => tD X (fun cls d _ H => E cls d H) fD) T TB hcode hr L hdef hbind (fun A outer s H E f c' hr => hbody A outer s H E f c' hr) hg) fun σ H Q ⟨F, G, δ, R, p⟩ => ⟨G, R.tb, R.rep.vis, fun H1 keep T1 => ?_⟩
  have hP : H1 P ≠ none := by
    obtain ⟨ps, h, _⟩ := T1
    rw [show H1 P = some (.tbl ps) from h]
    exact fun z => nomatch z
  have R1 : Rep2 X.K (P, X.env.qual ++ "<lambda>") F G H1 σ δ := ⟨DQ.Rep.upto R.rep keep R.tF hP, R.tF, T1⟩
  refine ⟨G, G, noOwn δ, DQ.Rep.noOwn R1.rep, ?_⟩
  unfold vTold at p
  have end_ : ∀ {H2 : Hp}, Fr G G H1 H2 → Fr2 (P, X.env.qual ++ "<lambda>") F G H H2 ∧ Rep2 X.K (P, X.env.qual ++ "<lambda>") F G H2 σ δ := fun {H2} f => by
    have S : Same H1 H2 := fun b o e => f b o e (Classical.em (G b))
    exact ⟨fun b o e _ n => S b o (keep b o e n), R1.same S⟩
  cases e : fD (noOwn δ) with
  | ok x => rw [e] at p; exact fun v H2 f r h => p v H2 (end_ f).1 (end_ f).2 h
  | bad => rw [e] at p; exact p.elim
  | err c =>
    rw [e] at p
    intro C H2 hC f
    have p' : PostE2 X (P, X.env.qual ++ "<lambda>") F G H σ (if c ∈ errNames then .ok (.tuple [.str "error", .str c], δ) else .bad) Q := p
    by_cases hc : c ∈ errNames
    · rw [if_pos hc] at p'
      obtain ⟨f2, r2⟩ := end_ f
      refine ⟨rfl, c, C, hc, hC, rfl, fun a H3 s3 na h3 => ?_⟩
      refine p' (.ref a) H3 (f2.trans (.of (.of s3))) (r2.same s3) (.tup (.inl (.inl (hide_of (fun g => R1.rep.vis a g ?_) h3))) (.cons (.str _) (.cons (.str _) .nil)))
      cases q : H1 a with
      | none => rfl
      | some o => rw [f a o q (Classical.em (G a))] at na; cases na
    · rw [if_neg hc] at p'
      exact p'.elim
end Vw
set_option linter.all false
set_option maxRecDepth 100000
set_option maxHeartbeats 1000000
namespace DL
open PySem PySem.Spec L2
/-! ### comprehensions, by their items -/
theorem backD_wipe (δ : DSt) (vs : List Nat) : backD δ (wipeD δ vs) vs = δ := by
  apply List.ext_getElem?
  intro i
  rw [backD_at δ _ (wipeD_len δ vs)]
  by_cases h : i ∈ vs
  · rw [if_pos h]
  · rw [if_neg h, wipeD_at, if_neg fun z => h z.1]
/-- a turn that keeps all but the block's slots -/
def TurnP (g : PyData → DSt → Res DSt) (t : EvT) (f : EvE) (vs : List Nat) (δ : DSt) (d : PyData) (o : Option PyData) : Prop :=
  ∃ δ1, g d (wipeD δ vs) = .ok δ1 ∧ ∃ b δ2, t δ1 = .ok (b, δ2) ∧ match o with
    | some y => b = true ∧ ∃ δ3, f δ2 = .ok (y, δ3) ∧ wipeD δ3 vs = wipeD δ vs
    | none => b = false ∧ wipeD δ2 vs = wipeD δ vs
theorem lcL_pure {g : PyData → DSt → Res DSt} {t : EvT} {f : EvE} {vs : List Nat} {r : PyData → Option PyData} : ∀ (ds : List PyData) (δ : DSt), ds.length ≤ sizeLine → (∀ d ∈ ds, TurnP g t f vs δ d (r d)) →
    vLcL g t f vs ds δ = .ok (ds.filterMap r, wipeD δ vs)
  | [], δ, _, _ => rfl
  | d :: ds, δ, hl, h => by
    obtain ⟨δ1, h1, b, δ2, h2, h3⟩ := h d List.mem_cons_self
    have hl' : ds.length ≤ sizeLine := by rw [List.length_cons] at hl; omega
    rw [vLcL, h1, e_no, e_bo, h2, e_bo]
    have again : ∀ δ', wipeD δ' vs = wipeD δ vs → vLcL g t f vs ds δ' = .ok (ds.filterMap r, wipeD δ vs) := fun δ' e => by
      rw [lcL_pure ds δ' hl' fun x hx => ?_, e]
      have q := h x (List.mem_cons_of_mem _ hx)
      unfold TurnP at q ⊢
      rw [e]
      exact q
    cases e : r d with
    | some y =>
      rw [e] at h3
      obtain ⟨rfl, δ3, h4, h5⟩ := h3
      have hf : (ds.filterMap r).length < sizeLine := by
        have := List.length_filterMap_le r ds
        rw [List.length_cons] at hl
        omega
      rw [if_pos rfl, h4, e_bo, again δ3 h5, e_bo, if_pos hf, List.filterMap_cons, e]
    | none =>
      rw [e] at h3
      obtain ⟨rfl, h5⟩ := h3
      rw [if_neg Bool.false_ne_true, again δ2 h5, List.filterMap_cons, e]
theorem comp_pure {wi : EvA} {g : PyData → DSt → Res DSt} {t : EvT} {f : EvE} {vs : List Nat} {δ : DSt} {ds : List PyData} (r : PyData → Option PyData) (hf : freeOf δ vs = true) (hi : wi δ = .ok (ds, δ)) (hl : ds.length ≤ sizeLine)
    (h : ∀ d ∈ ds, TurnP g t f vs δ d (r d)) : vComp wi g t f vs δ = .ok (.list (ds.filterMap r), δ) := by
  unfold vComp vLcA
  rw [if_pos hf, hi, e_bo, if_pos hf, lcL_pure ds δ hl h]
  show (noErr ((Res.ok (ds.filterMap r, wipeD δ vs)).bind fun r => .ok (r.1, backD δ r.2 vs))).bind _ = _
  rw [e_bo, e_no, e_bo, backD_wipe]
/-- turns that may change the state: what is asked of each, what of all -/
def TurnI (g : PyData → DSt → Res DSt) (t : EvT) (f : EvE) (vs : List Nat) (I : DSt → Prop) (O : PyData → Option PyData → Prop) (d : PyData) : Prop :=
  ∀ δ, I (wipeD δ vs) → ∃ δ1, g d (wipeD δ vs) = .ok δ1 ∧ ∃ b δ2, t δ1 = .ok (b, δ2) ∧ ((b = true ∧ ∃ y δ3, f δ2 = .ok (y, δ3) ∧ O d (some y) ∧ I (wipeD δ3 vs)) ∨ (b = false ∧ O d none ∧ I (wipeD δ2 vs)))
theorem lcL_inv {g : PyData → DSt → Res DSt} {t : EvT} {f : EvE} {vs : List Nat} {I : DSt → Prop} {O : PyData → Option PyData → Prop} : ∀ (ds : List PyData) (δ : DSt), ds.length ≤ sizeLine → I (wipeD δ vs) → (∀ d ∈ ds, TurnI g t f vs I O d) →
    ∃ (os : List (Option PyData)) (δ' : DSt), vLcL g t f vs ds δ = .ok (os.filterMap id, δ') ∧ os.length = ds.length ∧ (∀ (i : Nat) (d : PyData) (o : Option PyData), ds[i]? = some d → os[i]? = some o → O d o) ∧ I δ' ∧ ∃ δ'', δ' = wipeD δ'' vs
  | [], δ, _, hI, _ => ⟨[], wipeD δ vs, rfl, rfl, fun i d o h => by simp at h, hI, δ, rfl⟩
  | d :: ds, δ, hl, hI, h => by
    obtain ⟨δ1, h1, b, δ2, h2, h3⟩ := h d List.mem_cons_self δ hI
    have hl' : ds.length ≤ sizeLine := by rw [List.length_cons] at hl; omega
    rw [vLcL, h1, e_no, e_bo, h2, e_bo]
    rcases h3 with ⟨rfl, y, δ3, h4, h5, h6⟩ | ⟨rfl, h5, h6⟩
    · obtain ⟨os, δ', k1, k2, k3, k4, k5⟩ := lcL_inv ds δ3 hl' h6 fun x hx => h x (List.mem_cons_of_mem _ hx)
      have hf : (os.filterMap id).length < sizeLine := by
        have := List.length_filterMap_le id os
        rw [List.length_cons] at hl
        omega
      refine ⟨some y :: os, δ', ?_, by rw [List.length_cons, List.length_cons, k2], fun i d' o hd ho => ?_, k4, k5⟩
      · rw [if_pos rfl, h4, e_bo, k1, e_bo, if_pos hf] <;> rfl
      · cases i with
        | zero => cases hd; cases ho; exact h5
        | succ i => exact k3 i d' o hd ho
    · obtain ⟨os, δ', k1, k2, k3, k4, k5⟩ := lcL_inv ds δ2 hl' h6 fun x hx => h x (List.mem_cons_of_mem _ hx)
      refine ⟨none :: os, δ', ?_, by rw [List.length_cons, List.length_cons, k2], fun i d' o hd ho => ?_, k4, k5⟩
      · rw [if_neg Bool.false_ne_true, k1] <;> rfl
      · cases i with
        | zero => cases hd; cases ho; exact h5
        | succ i => exact k3 i d' o hd ho
/-- turns without a condition that may change the state -/
def TurnT (g : PyData → DSt → Res DSt) (f : EvE) (vs : List Nat) (I : DSt → Prop) (O : PyData → PyData → Prop) (d : PyData) : Prop :=
  ∀ δ, I δ → ∃ δ1, g d δ = .ok δ1 ∧ ∃ y δ3, f δ1 = .ok (y, δ3) ∧ O d y ∧ I (wipeD δ3 vs)
theorem lcL_T {g : PyData → DSt → Res DSt} {f : EvE} {vs : List Nat} {I : DSt → Prop} {O : PyData → PyData → Prop} : ∀ (ds : List PyData) (δ : DSt), ds.length ≤ sizeLine → I (wipeD δ vs) → (∀ d ∈ ds, TurnT g f vs I O d) →
    ∃ (ys : List PyData) (δ' : DSt), vLcL g vTrue f vs ds δ = .ok (ys, δ') ∧ ys.length = ds.length ∧ (∀ (i : Nat) (d y : PyData), ds[i]? = some d → ys[i]? = some y → O d y) ∧ I δ'
  | [], δ, _, hI, _ => ⟨[], wipeD δ vs, rfl, rfl, fun i d o h => by simp at h, hI⟩
  | d :: ds, δ, hl, hI, h => by
    obtain ⟨δ1, h1, y, δ3, h4, h5, h6⟩ := h d List.mem_cons_self _ hI
    have hl' : ds.length ≤ sizeLine := by rw [List.length_cons] at hl; omega
    obtain ⟨ys, δ', k1, k2, k3, k4⟩ := lcL_T ds δ3 hl' h6 fun x hx => h x (List.mem_cons_of_mem _ hx)
    have hf : ys.length < sizeLine := by rw [List.length_cons] at hl; omega
    refine ⟨y :: ys, δ', ?_, by rw [List.length_cons, List.length_cons, k2], fun i d' o hd ho => ?_, k4⟩
    · rw [vLcL, h1, e_no, e_bo]
      show ((Res.ok (true, δ1)).bind _) = _
      rw [e_bo, if_pos rfl, h4, e_bo, k1, e_bo, if_pos hf]
    · cases i with
      | zero => cases hd; cases ho; exact h5
      | succ i => exact k3 i d' o hd ho
theorem comp_T {wi : EvA} {g : PyData → DSt → Res DSt} {f : EvE} {vs : List Nat} {δ δ1 : DSt} {ds : List PyData} (I : DSt → Prop) (O : PyData → PyData → Prop) (hf : freeOf δ vs = true) (hi : wi δ = .ok (ds, δ1)) (hf1 : freeOf δ1 vs = true) (hl : ds.length ≤ sizeLine) (hI : I (wipeD δ1 vs))
    (h : ∀ d ∈ ds, TurnT g f vs I O d) : ∃ (ys : List PyData) (δ' : DSt), vComp wi g vTrue f vs δ = .ok (.list ys, backD δ1 δ' vs) ∧ ys.length = ds.length ∧ (∀ (i : Nat) (d y : PyData), ds[i]? = some d → ys[i]? = some y → O d y) ∧ I δ' := by
  obtain ⟨ys, δ', k1, k2, k3, k4⟩ := lcL_T ds δ1 hl hI h
  refine ⟨ys, δ', ?_, k2, k3, k4⟩
  unfold vComp vLcA
  rw [if_pos hf, hi, e_bo, if_pos hf1, k1]
  rfl
theorem at_mem {ds ys : List PyData} {O : PyData → PyData → Prop} (hl : ys.length = ds.length) (h : ∀ (i : Nat) (d y : PyData), ds[i]? = some d → ys[i]? = some y → O d y) : ∀ y ∈ ys, ∃ d ∈ ds, O d y := fun y hy => by
  obtain ⟨i, hi, e⟩ := List.mem_iff_getElem.mp hy
  have hd : i < ds.length := by omega
  exact ⟨ds[i], List.getElem_mem hd, h i _ _ (List.getElem?_eq_getElem hd) (by rw [List.getElem?_eq_getElem hi, e])⟩
theorem range_le {n : Nat} (h : n ≤ 1000) : (rangeD n).length ≤ sizeLine := by rw [rangeD_len, sizeLine_eq]; omega
/-! ### loops, by a relation -/
end DL
set_option linter.all false
set_option maxRecDepth 100000
namespace DL
open PySem PySem.Spec L2
theorem lit_le {n : Nat} (h : n ≤ 1000) : n ≤ sizeLine := by rw [sizeLine_eq]; omega
theorem tup_at {f : EvA} {δ δ' : DSt} {ds : List PyData} (h : f δ = .ok (ds, δ')) (hl : ds.length ≤ 1000) : vTup f δ = .ok (.tuple ds, δ') := by
  unfold vTup
  rw [h]
  exact if_pos (lit_le hl)
/-- displays of two and three, item by item -/
theorem e_tup2 (a b : EvE) (δ : DSt) : vTup (vCons a (vCons b vNil)) δ = (a δ).bind fun p => (b p.2).bind fun q => .ok (.tuple [p.1, q.1], q.2) := by
  cases ha : a δ with
  | ok p =>
    cases hb : b p.2 with
    | ok q =>
      refine (tup_at (ds := [p.1, q.1]) (δ' := q.2) ?_ (by show 2 ≤ 1000; decide)).trans ?_
      · unfold vCons vNil; rw [ha]; show ((b p.2).bind _).bind _ = _; rw [hb]; rfl
      · show _ = (b p.2).bind _; rw [hb]; rfl
    | err c => unfold vTup vCons vNil; rw [ha]; show (((b p.2).bind _).bind _).bind _ = (b p.2).bind _; rw [hb]; rfl
    | bad => unfold vTup vCons vNil; rw [ha]; show (((b p.2).bind _).bind _).bind _ = (b p.2).bind _; rw [hb]; rfl
  | err c => unfold vTup vCons; rw [ha]; rfl
  | bad => unfold vTup vCons; rw [ha]; rfl
end DL
set_option linter.all false
set_option maxRecDepth 100000
namespace DL
open PySem PySem.Spec L2
/-! data that may be compared: no dicts, texts of signs, not too deep -/
def Sh (n : Nat) (d : PyData) : Prop := d.canLay0 = true ∧ d.depth ≤ n
theorem Sh.ok {n : Nat} {d : PyData} (h : Sh n d) (hn : n ≤ 64 := by decide) : SeqAt.shaped d = true := by
  unfold SeqAt.shaped
  rw [h.1, Bool.true_and, decide_eq_true_eq]
  exact Nat.le_trans h.2 hn
theorem Sh.mono {n m : Nat} {d : PyData} (h : Sh n d) (hn : n ≤ m) : Sh m d := ⟨h.1, Nat.le_trans h.2 hn⟩
theorem Sh.none {n : Nat} : Sh n .none := ⟨by simp only [PyData.canLay0], by simp only [PyData.depth]; exact Nat.zero_le _⟩
theorem Sh.bool {n : Nat} (b : Bool) : Sh n (.bool b) := ⟨by simp only [PyData.canLay0], by simp only [PyData.depth]; exact Nat.zero_le _⟩
theorem Sh.int {n : Nat} (i : Int) : Sh n (.int i) := ⟨by simp only [PyData.canLay0], by simp only [PyData.depth]; exact Nat.zero_le _⟩
theorem Sh.str {n : Nat} {x : Str} (h : PyData.strOk x = true) : Sh n (.str x) := ⟨by simp only [PyData.canLay0]; exact h, by simp only [PyData.depth]; exact Nat.zero_le _⟩
theorem sh_all : ∀ {n : Nat} {ds : List PyData}, (∀ d ∈ ds, Sh n d) → PyData.canLayAll0 ds = true ∧ PyData.depthAll ds ≤ n
  | _, [], _ => ⟨by simp only [PyData.canLayAll0], by simp only [PyData.depthAll]; exact Nat.zero_le _⟩
  | n, d :: ds, h => by
    have h1 := h d List.mem_cons_self
    have h2 := sh_all (n := n) (ds := ds) fun x hx => h x (List.mem_cons_of_mem _ hx)
    exact ⟨by simp only [PyData.canLayAll0, h1.1, h2.1, Bool.and_self], by simp only [PyData.depthAll]; exact Nat.max_le.mpr ⟨h1.2, h2.2⟩⟩
theorem Sh.list {n : Nat} {ds : List PyData} (h : ∀ d ∈ ds, Sh n d) : Sh (n + 1) (.list ds) := ⟨by simp only [PyData.canLay0]; exact (sh_all h).1, by simp only [PyData.depth]; exact Nat.add_le_add_right (sh_all h).2 1⟩
theorem Sh.tuple {n : Nat} {ds : List PyData} (h : ∀ d ∈ ds, Sh n d) : Sh (n + 1) (.tuple ds) := ⟨by simp only [PyData.canLay0]; exact (sh_all h).1, by simp only [PyData.depth]; exact Nat.add_le_add_right (sh_all h).2 1⟩
theorem Sh.ints {n : Nat} (ns : List Int) : ∀ d ∈ ns.map PyData.int, Sh n d := fun d hd => by
  obtain ⟨i, _, rfl⟩ := List.mem_map.mp hd
  exact .int i
/-! equality is that of the data, where no bool stands beside an int -/
theorem eqvAll_ints : ∀ ns ms : List Int, PyData.eqvAll (ns.map .int) (ms.map .int) = decide (ns = ms)
  | [], [] => by simp [PyData.eqvAll]
  | [], _ :: _ => by simp [PyData.eqvAll]
  | _ :: _, [] => by simp [PyData.eqvAll]
  | n :: ns, m :: ms => by
    rw [List.map_cons, List.map_cons]
    simp only [PyData.eqvAll, PyData.eqv, eqvAll_ints ns ms]
    rw [Bool.eq_iff_iff]
    simp
end DL
set_option Elab.async false
set_option linter.all false
set_option maxRecDepth 100000
set_option maxHeartbeats 2000000
namespace Vw
open PySem PySem.Spec PyProof.Rows L2 DL
abbrev r__law_cell : Stmt := top 74
theorem rc__law_cell : FnScope ["_law_script", "_law_k"] ["_law_script", "_law_k"] (defScope r__law_cell) := ⟨rfl, rfl, rfl, by decide +kernel, rfl, by decide +kernel, by decide +kernel⟩
/-- a cell of the script -/
def spC (K : PySem.W.Frag) : Sp := fun vs H Q _ => ∃ (l : Addr) (ns : List Int) (k : Nat), vs = [.ref l, .int (k : Nat)] ∧ SqL K H l (ns.map V.int) ∧ ns.length ≤ 63 ∧ ∀ c H', Same H H' → Q (.int c) H'
theorem dp_ints {K : PySem.W.Frag} {H : Hp} : ∀ ns : List Int, DpAll K H (ns.map V.int) (ns.map PyData.int)
  | [] => .nil
  | n :: ns => .cons (.int n) (dp_ints ns)
theorem shaped_ints (ns : List Int) : SeqAt.shaped (.list (ns.map .int)) = true := (Sh.list (n := 0) (Sh.ints ns)).ok
section
variable {P : Program} {w : World} {K : PySem.W.Frag} {mg : Str → Option Value} {base : Heap}
theorem cc__law_cell (D : DefAt K mg "_law_cell" r__law_cell ["_law_script", "_law_k"]) (hlen : mg "len" = none) : Cal P w K mg base "_law_cell" 1 (spC K) := by
  obtain ⟨f, fd, F, hm, hB⟩ := D.ex
  refine ⟨f, fd, _, okN (k := 0) F rc__law_cell (fun vs H Q E ⟨l, ns, k, e, _⟩ => by rw [e] <;> rfl) (fun cdv A outer s H vs Q E hr ⟨l, ns, k, e, hl, hz, q⟩ => ?_), hm, F.kp, hB⟩
  subst e
  have hu : (A.deeper (envOfC "_law_cell" (defScope r__law_cell) s.heap.objs.size f cdv)).units + 64 < cLine := by have := hr.un; omega
  refine ⟨_, pss_cons (ps_if (pt_cmpR (op_eqD hu) (pv 0) (pe_lst pa_nil) rfl) (pss_one (ps_ret (pe_op op_mul (pv 1) pe_int))) pss_nil)
    (pss_one (ps_ret (pe_op op_add (pe_ix ix_list (pv 0) (pe_op op_mod (pv 1) (pe_callB call_len rfl hlen boot_len (pa_cons (pv 0) pa_nil))) (fun _ _ => rfl)) (pe_op op_mul (pe_op op_fdiv (pv 1) (pe_callB call_len rfl hlen boot_len (pa_cons (pv 0) pa_nil))) pe_int)))), ?_⟩
  refine ⟨_, rfl, ⟨by decide, fun e0 n0 => ?_⟩⟩
  have S := same_upd (o := .lst []) n0
  refine ⟨.list (ns.map .int), .list [], .lst (S.seq hl) (dp_ints ns), .lst (.inl (.inl upd_same)) .nil, shaped_ints ns, by decide +kernel, _, rfl, ?_⟩
  rw [show PyData.eqv (.list (ns.map .int)) (.list []) = decide (ns = []) from by
    have h := eqvAll_ints ns []
    simp only [PyData.eqv]
    exact h]
  have small : ∀ {i j : Int}, -(2 ^ 64) < j → j < 2 ^ 64 → CMul i j := fun h1 h2 => .inr ⟨h1, h2⟩
  by_cases c : ns = []
  · rw [decide_eq_true c]
    dsimp only
    rw [if_pos rfl]
    exact ⟨_, rfl, _, _, rfl, rfl, small (by decide) (by decide), q _ _ S⟩
  · rw [decide_eq_false c]
    dsimp only
    rw [if_neg Bool.false_ne_true]
    have hpos : 0 < ns.length := List.length_pos_iff.mpr c
    have hl2 := S.seq hl
    have e1 : ((ns.map V.int).length : Int) = (ns.length : Int) := by rw [List.length_map]
    have m1 : 0 ≤ (k : Int) % (ns.length : Int) := Int.emod_nonneg _ (by omega)
    have m2 : (k : Int) % (ns.length : Int) < (ns.length : Int) := Int.emod_lt_of_pos _ (by omega)
    obtain ⟨m, hm⟩ : ∃ m : Nat, (k : Int) % (ns.length : Int) = m := ⟨((k : Int) % (ns.length : Int)).toNat, by omega⟩
    refine ⟨_, rfl, _, rfl, _, rfl, _, _, rfl, .inl ⟨_, hl2, rfl⟩, _, _, rfl, rfl, by rw [e1]; omega, l, _, _, .int (ns.getD m 0), rfl, rfl, hl2, ?_, ?_⟩
    · rw [e1, hm, DL.atI_nat, List.getElem?_map, List.getD_eq_getElem?_getD, List.getElem?_eq_getElem (show m < ns.length by omega)] <;> rfl
    · exact ⟨_, rfl, _, rfl, _, _, rfl, .inl ⟨_, hl2, rfl⟩, _, _, rfl, rfl, ⟨by rw [e1]; omega, by rw [e1]; omega⟩, _, _, rfl, rfl, small (by decide) (by decide), _, _, rfl, rfl, q _ _ S⟩
end
abbrev r__law_rounds : Stmt := top 77
theorem rc__law_rounds : FnScope ["_law_script", "_law_most", "_law_k"] ["_law_script", "_law_most"] (defScope r__law_rounds) := ⟨rfl, rfl, rfl, by decide +kernel, rfl, by decide +kernel, by decide +kernel⟩
/-- what the rounds are: a new list of new lists, two ints each -/
theorem lst_le2 {a b : V} : [a, b].length ≤ sizeLine := by rw [sizeLine_eq]; simp
structure RndOk (H H' : Hp) (a : Addr) (as : List Addr) (cs : List Int) : Prop where
  same : Same H H'
  out : H' a = some (.lst (as.map V.ref))
  new : H a = none
  len : as.length = cs.length
  few : cs.length ≤ 63
  nd : as.Nodup
  news : ∀ b ∈ as, H b = none
  each : ∀ (j : Nat) b c, as[j]? = some b → cs[j]? = some c → H' b = some (.lst [.int c, .int 0])
def spR (K : PySem.W.Frag) : Sp := fun vs H Q _ => ∃ (l : Addr) (ns : List Int) (m : Nat), vs = [.ref l, .int (m : Nat)] ∧ SqL K H l (ns.map V.int) ∧ ns.length ≤ 63 ∧ 1 ≤ m ∧ m ≤ 63 ∧ ∀ a as cs H', RndOk H H' a as cs → Q (.ref a) H'
section
variable {P : Program} {w : World} {K : PySem.W.Frag} {mg : Str → Option Value} {base : Heap}
theorem cc__law_rounds (D : DefAt K mg "_law_rounds" r__law_rounds ["_law_script", "_law_most"]) (C : Cal P w K mg base "_law_cell" 1 (spC K)) (hlen : mg "len" = none) (hmin : mg "min" = none) (hmax : mg "max" = none) (hran : mg "range" = none) : Cal P w K mg base "_law_rounds" 2 (spR K) := by
  obtain ⟨f, fd, F, hm, hB⟩ := D.ex
  obtain ⟨fc, fdc, psc, hFc, hmc, hkc, hbc⟩ := C.ex
  refine ⟨f, fd, _, okN (k := 1) F rc__law_rounds (fun vs H Q E ⟨l, ns, k, e, _⟩ => by rw [e] <;> rfl) (fun cdv A outer s H vs Q E hr ⟨l, ns, m, e, hl, hz, m1, m2, q⟩ => ?_), hm, F.kp, hB⟩
  subst e
  have nd := rc__law_rounds.nd
  refine ⟨_, pss_one (ps_ret (pe_lc (own := [("_law_k", 2)]) (g := gName 2) (tt := tYes) rfl nd (pi_range1 rfl hran (pa_cons (pe_callB (call_max2 rfl) rfl hmax (by decide +kernel) (pa_cons pe_int (pa_cons (pe_callB (call_min2 rfl) rfl hmin (by decide +kernel) (pa_cons (pv 1) (pa_cons (pe_callB call_len rfl hlen boot_len (pa_cons (pv 0) pa_nil)) pa_nil))) pa_nil))) pa_nil))
    (blkOk_by (by kernel_rfl)) (fun _ _ _ _ _ => pg_name nd rfl (.inl rfl)) (fun _ _ _ _ _ => pts_nil) (fun _ _ _ _ _ => pe_lst (pa_cons (pe_callS hFc hr rfl hmc hkc hbc (fun σ => L2N.passAt takesN σ) (pa_cons (pv 0) (pa_cons (pv 2) pa_nil))) (pa_cons pe_int pa_nil))))), ?_⟩
  have e1 : ((ns.map V.int).length : Int) = (ns.length : Int) := by rw [List.length_map]
  refine ⟨_, rfl, _, rfl, _, _, rfl, .inl ⟨_, hl, rfl⟩, (m : Int), _, rfl, 1, _, rfl, _, rfl, ?_, ?_, fun L nL => ?_⟩
  · split <;> (try split) <;> omega
  · split <;> (try split) <;> omega
  have hN : ∃ N : Nat, N ≤ 63 ∧ (if (if ((ns.map V.int).length : Int) < (m : Int) then ((ns.map V.int).length : Int) else (m : Int)) > 1 then (if ((ns.map V.int).length : Int) < (m : Int) then ((ns.map V.int).length : Int) else (m : Int)) else 1).toNat = N := ⟨_, by rw [e1]; split <;> (try split) <;> omega, rfl⟩
  obtain ⟨N, hN1, hN2⟩ := hN
  rw [hN2]
  refine lc_it (walk_range (lo := 0) (n := N)) (vs := [2]) (σ := L2.start ["_law_script", "_law_most", "_law_k"] [V.ref l, V.int (m : Nat)]) (H1 := H) (D := L) (Qd := fun H' => Q (.ref L) H')
    (fun i H' => ∃ (as : List Addr) (cs : List Int), H' L = some (.lst (as.map V.ref)) ∧ as.length = i ∧ cs.length = i ∧ i ≤ 63 ∧ as.Nodup ∧ (∀ b ∈ as, H b = none ∧ b ≠ L) ∧ (∀ (j : Nat) b c, as[j]? = some b → cs[j]? = some c → H' b = some (.lst [.int c, .int 0])) ∧ Same H H')
    ⟨[], [], upd_same, rfl, rfl, Nat.zero_le _, .nil, (fun _ z => nomatch z), (fun _ _ _ z => by simp at z), same_upd nL⟩ (fun _ _ _ _ => trivial) ?_ ?_
  · rintro i x H1 H2 hi ⟨as, cs, h1, h2, h3, h4, h5, h6, h7, h8⟩ ⟨rfl, rfl⟩
    refine ⟨rfl, ?_⟩
    unfold tYes
    dsimp only
    rw [if_pos rfl]
    refine ⟨_, rfl, _, rfl, l, ns, i, by rw [Int.zero_add], h8.seq hl, hz, fun c H3 s3 => ⟨lst_le2, fun b nb => ?_⟩⟩
    have hL := s3 _ _ h1
    have neL : L ≠ b := ne_of_none hL nb
    have old : ∀ z, z ∈ as → H3 z ≠ none ∧ z ≠ b ∧ z ≠ L := fun z hz => by
      obtain ⟨j, hj, e⟩ := List.mem_iff_getElem.mp hz
      have hjc : j < cs.length := by omega
      have g := s3 _ _ (h7 j z cs[j] (by rw [← e]; exact List.getElem?_eq_getElem hj) (List.getElem?_eq_getElem hjc))
      exact ⟨by rw [g]; simp, ne_of_none g nb, (h6 z hz).2⟩
    refine ⟨as.map V.ref, by rw [upd_ne neL]; exact hL, by rw [List.length_map, sizeLine_eq]; omega, as ++ [b], cs ++ [c], ?_, by simp [h2], by simp [h3], by omega, ?_, fun z hz => ?_, fun j z d hz hd => ?_, fun z o e => ?_⟩
    · rw [upd_same, List.map_append] <;> rfl
    · refine List.nodup_append.mpr ⟨h5, by simp, fun u hu v hv z => ?_⟩
      rw [List.mem_singleton.mp hv] at z
      exact (old u hu).2.1 z
    · rcases List.mem_append.mp hz with hz | hz
      · exact h6 z hz
      · rw [List.mem_singleton.mp hz]
        exact ⟨(h8.trans s3).free nb, fun e => neL e.symm⟩
    · by_cases hj : j < as.length
      · rw [List.getElem?_append_left hj] at hz
        rw [List.getElem?_append_left (by omega)] at hd
        have mem := List.mem_of_getElem? hz
        rw [upd_ne (old z mem).2.2, upd_ne (old z mem).2.1]
        exact s3 _ _ (h7 j z d hz hd)
      · have hj2 : j = as.length := by
          have := (List.getElem?_eq_some_iff.mp hz).1
          rw [List.length_append, List.length_singleton] at this
          omega
        subst hj2
        rw [List.getElem?_append_right (Nat.le_refl _), Nat.sub_self] at hz
        rw [List.getElem?_append_right (by omega), show as.length - cs.length = 0 by omega] at hd
        cases hz
        cases hd
        rw [upd_ne (fun e => neL e.symm), upd_same]
    · have g := s3 _ _ (h8 _ _ e)
      rw [upd_ne (ne_of_none e nL), upd_ne (ne_of_none g nb)]
      exact g
  · rintro H1 ⟨as, cs, h1, h2, h3, h4, h5, h6, h7, h8⟩
    exact q L as cs H1 ⟨h8, h1, nL, by omega, by omega, h5, fun b hb => (h6 b hb).1, h7⟩
end
end Vw
set_option Elab.async false
set_option linter.all false
set_option maxRecDepth 100000
set_option maxHeartbeats 4000000
namespace Vw
open PySem PySem.Spec L2 DL LN DQ
theorem takes_lam {X : Cx} {A : Around} {outer : List Env} {s : Shared} {H : Hp} {E : XK} {scope : Scope} {f c' : Addr} : L2N.Takes (lamN X A outer s H E scope f c') (fun cls d _ H => E cls d H) := L2N.takes_of rfl rfl rfl rfl
abbrev s_law : Stmt := top 90
theorem sc_law : FnScope ["_law_script", "_law_dice", "_law_forest_here", "_law_bad", "_law_leaf", "_law_wide", "_law_tree_here"] ["_law_script"] (defScope s_law) := ⟨rfl, rfl, rfl, by decide +kernel, rfl, by decide +kernel, by decide +kernel⟩
def b_law : EvS := (vSeq (vSet 2 (vAppM 1 ph__law_forest (vCons (vConst (.int 4)) (vCons (vConst (.int 8)) vNil)))) (vSeq (vIfS (vNot (vTest (vApp ph_is_forest (vCons (vVar 2) vNil)))) (vRet (vConst (.bool false))) vNext) (vSeq (vIfS (vTest (vOp gNe (vApp ph_count_leaves (vCons (vVar 2) vNil)) (vCall gSum (vCons (vComp (vItems (vOp gIx (vVar 2) (vConst (.int 2)))) (wName 6) vTrue (vOp gAdd (vCall gLen (vCons (vApp (ph__law_tests 9) (vCons (vVar 6) vNil)) vNil)) (vConst (.int 1))) [6]) vNil)))) (vRet (vConst (.bool false))) vNext) (vSeq (vFor2 (vItems (vApp ph__law_bad_forests (vCons (vVar 2) vNil))) (wName 3) (vSeq (vIf2 (vOr (vTest (vApp ph_is_forest (vCons (vVar 3) vNil))) (vTest (vOp gNe (vTold HT.errNames (vApp ph_count_leaves (vCons (vVar 3) vNil))) (vTup (vCons (vConst (.str ("error" : Str))) (vCons (vConst (.str ("InvalidForest" : Str))) vNil)))))) (vRet (vConst (.bool false))) vNext) (vSeq (vIf2 (vTest (vOp gNe (vTold HT.errNames (vApp ph_votes_form (vCons (vVar 3) vNil))) (vTup (vCons (vConst (.str ("error" : Str))) (vCons (vConst (.str ("InvalidForest" : Str))) vNil))))) (vRet (vConst (.bool false))) vNext) (vIf2 (vTest (vOp gNe (vTold HT.errNames (vApp ph_joined (vCons (vVar 2) (vCons (vVar 3) vNil)))) (vTup (vCons (vConst (.str ("error" : Str))) (vCons (vConst (.str ("InvalidForest" : Str))) vNil))))) (vRet (vConst (.bool false))) vNext)))) (vSeq (vSet 4 (vTup (vCons (vConst (.str ("leaf" : Str))) (vCons (vTup (vCons (vConst (.int 9)) (vCons (vNeg (vConst (.int 9))) (vCons (vConst (.int 0)) vNil)))) vNil)))) (vSeq (vIfS (vNot (vTest (vApp ph_is_forest (vCons (vTup (vCons (vTup (vCons (vConst (.str ("0" : Str))) vNil)) (vCons (vConst (.int 3)) (vCons (vOp gMul (vTup (vCons (vApp ph__law_row_tree (vCons (vConst (.int 8)) (vCons (vVar 4) vNil))) vNil)) (vConst (.int 4))) vNil)))) vNil)))) (vRet (vConst (.bool false))) vNext) (vSeq (vIfS (vTest (vApp ph_is_forest (vCons (vTup (vCons (vTup (vCons (vConst (.str ("0" : Str))) vNil)) (vCons (vConst (.int 3)) (vCons (vTup (vCons (vApp ph__law_row_tree (vCons (vConst (.int 9)) (vCons (vVar 4) vNil))) vNil)) vNil)))) vNil))) (vRet (vConst (.bool false))) vNext) (vSeq (vSet 5 (vTup (vCons (vConst (.str ("below" : Str))) (vCons (vConst (.int 0)) (vCons (vTup (vCons (vNeg (vConst (.int 99))) (vCons (vConst (.int 4)) vNil))) (vCons (vTup (vCons (vConst (.str ("among" : Str))) (vCons (vConst (.int 1)) (vCons (vConst (.str ("abcd" : Str))) (vCons (vVar 4) (vCons (vVar 4) vNil)))))) (vCons (vVar 4) vNil))))))) (vSeq (vIfS (vNot (vTest (vApp ph_is_forest (vCons (vTup (vCons (vTup (vCons (vConst (.str ("0" : Str))) (vCons (vConst (.str ("abcd" : Str))) (vCons (vConst (.str ("yz" : Str))) vNil)))) (vCons (vConst (.int 3)) (vCons (vTup (vCons (vVar 5) vNil)) vNil)))) vNil)))) (vRet (vConst (.bool false))) vNext) (vIfS (vTest (vApp ph_is_forest (vCons (vTup (vCons (vTup (vCons (vConst (.str ("0" : Str))) (vCons (vConst (.str ("abce" : Str))) (vCons (vConst (.str ("yz" : Str))) vNil)))) (vCons (vConst (.int 3)) (vCons (vTup (vCons (vVar 5) vNil)) vNil)))) vNil))) (vRet (vConst (.bool false))) vNext))))))))))
/-- the law's turn, as data: what is to be shown of it -/
def TurnOk : Prop := ∀ c : Int, ∃ δ', b_law ((List.replicate 7 Sl.no).set 1 (.own [.int c, .int 0])) = .ok (.nx, δ') ∧ δ'.length = 7
theorem vForO_ok (h : TurnOk) : ∀ (cs : List Int) (δ : DSt), δ.length = 7 → ∃ δ', DQ.vForO 1 b_law (cs.map fun c => [PyData.int c, PyData.int 0]) δ = .ok (.nx, δ') ∧ δ'.length = 7
  | [], δ, hl => ⟨δ, rfl, hl⟩
  | c :: cs, δ, hl => by
    obtain ⟨δ1, h1, l1⟩ := h c
    obtain ⟨δ2, h2, l2⟩ := vForO_ok h cs δ1 l1
    refine ⟨δ2, ?_, l2⟩
    rw [List.map_cons, DQ.vForO, if_pos (by omega), hl, h1]
    exact h2
def spLaw (K : PySem.W.Frag) (Pt : Addr) : Sp := fun vs H Q _ => ∃ (l : Addr) (ns : List Int), vs = [.ref l] ∧ SqL K H l (ns.map V.int) ∧ ns.length ≤ 63 ∧ H Pt = some (.tbl #[]) ∧ ∀ H', Q (.bl true) H'
set_option maxHeartbeats 16000000 in
theorem law_ok {P : Program} {w : World} {K : PySem.W.Frag} {mg : Str → Option Value} {base : Heap} (T : Tx K mg) (TD : Td K mg) (C__law_bad_forests : Cal P w K mg base "_law_bad_forests" 1 (spP K mg ph__law_bad_forests)) (C__law_forest : Cal P w K mg base "_law_forest" 14 (spM K mg ph__law_forest)) (C__law_row_tree : Cal P w K mg base "_law_row_tree" 1 (spP K mg ph__law_row_tree)) (C__law_tests : Cal P w K mg base "_law_tests" 9 (spP K mg (ph__law_tests 9))) (C_count_leaves : Cal P w K mg base "count_leaves" 16 (spP K mg ph_count_leaves)) (C_is_forest : Cal P w K mg base "is_forest" 14 (spP K mg ph_is_forest)) (C_joined : Cal P w K mg base "joined" 17 (spP K mg ph_joined)) (C_votes_form : Cal P w K mg base "votes_form" 16 (spP K mg ph_votes_form)) (CR : Cal P w K mg base "_law_rounds" 2 (spR K)) {c Pt f : Addr} (TB : LamX.TabB base mg c Pt) {oc : Value} {od : Option Addr} {kV doc pm ct : Value} {an : Option Addr} {osl : Array (Option Value)}
    (lk : K.lookup f = some ⟨oc, od, .func (PySem.W.fnOf "law" "law" (defArgs s_law) (defBody s_law) (defScope s_law) .none kV doc pm an (.ref c) ct), osl⟩) (hcd : PySem.W.codeIn K (.ref c) "law" = true) (hm : TurnOk) :
    FnOk P w K mg base (L2N.CX P w) 23 f (PySem.W.fnOf "law" "law" (defArgs s_law) (defBody s_law) (defScope s_law) .none kV doc pm an (.ref c) ct) ["_law_script"] (spLaw K Pt) := by
  refine fn_of (k := 22) lk hcd sc_law (fun vs H Q E ⟨l, ns, e, _⟩ => by rw [e] <;> rfl) (fun A outer s H vs Q E hr ⟨l, ns, e, hS, hz, hP, q⟩ => ?_)
  subst e
  have nd := sc_law.nd
  have hcode : (cxOf (L2N.CX P w) P w K mg base ["_law_script", "_law_dice", "_law_forest_here", "_law_bad", "_law_leaf", "_law_wide", "_law_tree_here"] "law" (defScope s_law) f (.ref c) A outer s H E).env.code = .ref c := rfl
  have tk := DL.takesN (X := (cxOf (L2N.CX P w) P w K mg base ["_law_script", "_law_dice", "_law_forest_here", "_law_bad", "_law_leaf", "_law_wide", "_law_tree_here"] "law" (defScope s_law) f (.ref c) A outer s H E))
  obtain ⟨fr, fdr, psr, hFr, hmr, hkr, hbr⟩ := CR.ex
  refine ⟨_, pss_cons (ds2_forO (X := (cxOf (L2N.CX P w) P w K mg base ["_law_script", "_law_dice", "_law_forest_here", "_law_bad", "_law_leaf", "_law_wide", "_law_tree_here"] "law" (defScope s_law) f (.ref c) A outer s H E)) (T := (Pt, (cxOf (L2N.CX P w) P w K mg base ["_law_script", "_law_dice", "_law_forest_here", "_law_bad", "_law_leaf", "_law_wide", "_law_tree_here"] "law" (defScope s_law) f (.ref c) A outer s H E).env.qual ++ "<lambda>")) (b := b_law) (i := 1) (passes_of rfl) rfl nd (pe_callS hFr (rr hr) rfl hmr hkr hbr (fun σ => L2N.passAt tk σ) (pa_cons (pv 0) (pa_cons pe_int pa_nil)))
    (by exact (dss2_cons (ds2 (by exact (ds_set (i := 2) nd (by exact (de_callM C__law_forest (rr hr) tk (pv 1) (by exact (da_cons de_int (da_cons de_int da_nil)))))))) (dss2_cons (ds2 (by exact (ds_if (by exact (dt_not (by exact (dt_val (by exact (de_call C_is_forest (rr hr) tk (by exact (da_cons (de_var (pv 2)) da_nil)))))))) (by exact (dss_one (ds_ret de_bl))) dss_nil))) (dss2_cons (ds2 (by exact (ds_if (by exact (dt_cmp (opd_ne (hu64 hr)) (by exact (de_call C_count_leaves (rr hr) tk (by exact (da_cons (de_var (pv 2)) da_nil)))) (by exact (de_callB (cd_sum rfl) T.n_sum (by decide +kernel) (by exact (da_cons (by exact (de_lc [("_law_tree_here", 6)] (ts := [6]) rfl nd (by exact (di_any (by exact (de_ix (de_var (pv 2)) de_int)))) (by kernel_rfl) (by decide) (fun _ _ _ _ _ => (by exact (dg_name (i := 6) nd))) (fun _ _ _ _ _ => dts_nil) (fun _ _ _ _ _ => (by exact (de_op opd_add (by exact (de_callB cd_len T.n_len (by decide +kernel) (by exact (da_cons (by exact (de_call C__law_tests (rr hr) DL.takesN (by exact (da_cons (de_var (pv 6)) da_nil)))) da_nil)))) de_int))))) da_nil)))))) (by exact (dss_one (ds_ret de_bl))) dss_nil))) (dss2_cons (ds2_for (passes_of rfl) rfl (by exact (di_any (by exact (de_call C__law_bad_forests (rr hr) tk (by exact (da_cons (de_var (pv 2)) da_nil)))))) (by exact (dg_name (i := 3) nd)) (by exact (dss2_cons (ds2_if (by exact (dt2_w (dw2_or (by exact (dt2 (by exact (dt_val (by exact (de_call C_is_forest (rr hr) tk (by exact (da_cons (de_var (pv 3)) da_nil)))))))) (dw2_or1 (by exact (dt2_cmp (opd_ne (hu64 hr)) (by exact (de2_told (k := 17) TD TB hcode (rr hr) (LamX.lamS_by (by kernel_rfl)) rfl (fun _ _ _ _ _ => rfl) (fun _ _ _ _ _ _ _ hr => (by exact (by exact (de_call C_count_leaves (rr hr) takes_lam (by exact (da_cons (de_var (pv 3)) da_nil)))))))) (by exact (de2 (by exact (de_tup (by exact (da_cons de_str (da_cons de_str da_nil))))))))))))) (by exact (dss2_one (ds2 (by exact (ds_ret de_bl))))) dss2_nil) (dss2_cons (ds2_if (by exact (dt2_cmp (opd_ne (hu64 hr)) (by exact (de2_told (k := 17) TD TB hcode (rr hr) (LamX.lamS_by (by kernel_rfl)) rfl (fun _ _ _ _ _ => rfl) (fun _ _ _ _ _ _ _ hr => (by exact (by exact (de_call C_votes_form (rr hr) takes_lam (by exact (da_cons (de_var (pv 3)) da_nil)))))))) (by exact (de2 (by exact (de_tup (by exact (da_cons de_str (da_cons de_str da_nil))))))))) (by exact (dss2_one (ds2 (by exact (ds_ret de_bl))))) dss2_nil) (dss2_one (ds2_if (by exact (dt2_cmp (opd_ne (hu64 hr)) (by exact (de2_told (k := 17) TD TB hcode (rr hr) (LamX.lamS_by (by kernel_rfl)) rfl (fun _ _ _ _ _ => rfl) (fun _ _ _ _ _ _ _ hr => (by exact (by exact (de_call C_joined (rr hr) takes_lam (by exact (da_cons (de_var (pv 2)) (da_cons (de_var (pv 3)) da_nil))))))))) (by exact (de2 (by exact (de_tup (by exact (da_cons de_str (da_cons de_str da_nil))))))))) (by exact (dss2_one (ds2 (by exact (ds_ret de_bl))))) dss2_nil)))))) (dss2_cons (ds2 (by exact (ds_set (i := 4) nd (by exact (de_tup (by exact (da_cons de_str (da_cons (by exact (de_tup (by exact (da_cons de_int (da_cons (by exact (de_neg de_int)) (da_cons de_int da_nil)))))) da_nil)))))))) (dss2_cons (ds2 (by exact (ds_if (by exact (dt_not (by exact (dt_val (by exact (de_call C_is_forest (rr hr) tk (by exact (da_cons (by exact (de_tup (by exact (da_cons (by exact (de_tup (by exact (da_cons de_str da_nil)))) (da_cons de_int (da_cons (by exact (de_op opd_mul (by exact (de_tup (by exact (da_cons (by exact (de_call C__law_row_tree (rr hr) tk (by exact (da_cons de_int (da_cons (de_var (pv 4)) da_nil))))) da_nil)))) de_int)) da_nil)))))) da_nil)))))))) (by exact (dss_one (ds_ret de_bl))) dss_nil))) (dss2_cons (ds2 (by exact (ds_if (by exact (dt_val (by exact (de_call C_is_forest (rr hr) tk (by exact (da_cons (by exact (de_tup (by exact (da_cons (by exact (de_tup (by exact (da_cons de_str da_nil)))) (da_cons de_int (da_cons (by exact (de_tup (by exact (da_cons (by exact (de_call C__law_row_tree (rr hr) tk (by exact (da_cons de_int (da_cons (de_var (pv 4)) da_nil))))) da_nil)))) da_nil)))))) da_nil)))))) (by exact (dss_one (ds_ret de_bl))) dss_nil))) (dss2_cons (ds2 (by exact (ds_set (i := 5) nd (by exact (de_tup (by exact (da_cons de_str (da_cons de_int (da_cons (by exact (de_tup (by exact (da_cons (by exact (de_neg de_int)) (da_cons de_int da_nil))))) (da_cons (by exact (de_tup (by exact (da_cons de_str (da_cons de_int (da_cons de_str (da_cons (de_var (pv 4)) (da_cons (de_var (pv 4)) da_nil)))))))) (da_cons (de_var (pv 4)) da_nil))))))))))) (dss2_cons (ds2 (by exact (ds_if (by exact (dt_not (by exact (dt_val (by exact (de_call C_is_forest (rr hr) tk (by exact (da_cons (by exact (de_tup (by exact (da_cons (by exact (de_tup (by exact (da_cons de_str (da_cons de_str (da_cons de_str da_nil)))))) (da_cons de_int (da_cons (by exact (de_tup (by exact (da_cons (de_var (pv 5)) da_nil)))) da_nil)))))) da_nil)))))))) (by exact (dss_one (ds_ret de_bl))) dss_nil))) (dss2_one (ds2 (by exact (ds_if (by exact (dt_val (by exact (de_call C_is_forest (rr hr) tk (by exact (da_cons (by exact (de_tup (by exact (da_cons (by exact (de_tup (by exact (da_cons de_str (da_cons de_str (da_cons de_str da_nil)))))) (da_cons de_int (da_cons (by exact (de_tup (by exact (da_cons (de_var (pv 5)) da_nil)))) da_nil)))))) da_nil)))))) (by exact (dss_one (ds_ret de_bl))) dss_nil)))))))))))))) (mono := ?_)) (pss_one (ps_ret pe_bl)), ?_⟩
  · rintro σ H1 P1 P2 imp ⟨v, h1, l', ns', m', e1, e2, e3, e4, e5, h2⟩
    exact ⟨v, h1, l', ns', m', e1, e2, e3, e4, e5, fun a as cs H2 r => imp _ _ (h2 a as cs H2 r)⟩
  · have vis : ∀ b, b = Pt → H b ≠ none := fun b e => by rw [e, hP]; exact fun z => nomatch z
    have R : DQ.Rep2 K (Pt, (cxOf (L2N.CX P w) P w K mg base ["_law_script", "_law_dice", "_law_forest_here", "_law_bad", "_law_leaf", "_law_wide", "_law_tree_here"] "law" (defScope s_law) f (.ref c) A outer s H E).env.qual ++ "<lambda>") (fun b => b = Pt) (fun b => b = Pt) H (L2.start ["_law_script", "_law_dice", "_law_forest_here", "_law_bad", "_law_leaf", "_law_wide", "_law_tree_here"] [V.ref l]) (List.replicate 7 Sl.no) := by
      have no : ∀ (j : Nat) (x : Sl), (List.replicate 7 Sl.no)[j]? = some x → x = .no := fun j x e => by
        rw [List.getElem?_replicate] at e
        split at e
        · exact (Option.some.inj e).symm
        · cases e
      exact ⟨⟨fun _ z => z, vis, rfl, fun j d e => (nomatch no j _ e), fun j ds e => (nomatch no j _ e), fun j ds e => (nomatch no j _ e), fun j k ds es a e => (nomatch no j _ e), fun j od e => (nomatch no j _ e), fun j k od oe a e => (nomatch no j _ e)⟩, rfl, #[], hP, True.intro, fun pos cv e => by
        have z : codeAmong pos [] = some cv := e
        simp [codeAmong] at z⟩
    refine ⟨_, _, _, R, _, rfl, l, ns, 4, rfl, hS, hz, by decide, by decide, fun a as cs H1 r => ⟨a, as, cs.map fun c => [c, 0], rfl, ⟨r.same, r.out, r.new, by rw [List.length_map]; exact r.len, r.nd, r.news, fun z => ?_, fun j b d e1 e2 => ?_⟩, ?_⟩⟩
    · obtain ⟨j, hj, ej⟩ := List.mem_iff_getElem.mp z
      have hjc : j < cs.length := by rw [← r.len]; exact hj
      have e := r.each j a cs[j] (by rw [← ej]; exact List.getElem?_eq_getElem hj) (List.getElem?_eq_getElem hjc)
      rw [r.out] at e
      have e2 : as.map V.ref = [V.int cs[j], V.int 0] := HO.lst.inj (Option.some.inj e)
      cases as with
      | nil => cases e2
      | cons b bs => rw [List.map_cons] at e2; cases e2
    · rw [List.getElem?_map] at e2
      cases ec : cs[j]? with
      | none => rw [ec] at e2; cases e2
      | some c0 => rw [ec] at e2; cases e2; exact r.each j b c0 e1 ec
    · have e : (cs.map fun c => [c, (0 : Int)]).map (fun l => l.map PyData.int) = cs.map fun c => [PyData.int c, PyData.int 0] := by rw [List.map_map] <;> rfl
      rw [e]
      obtain ⟨δ', h1, _⟩ := vForO_ok hm cs (List.replicate 7 Sl.no) rfl
      rw [h1]
      exact fun σ' H' G' _ _ => q H'
end Vw
set_option linter.all false
set_option maxRecDepth 100000
set_option maxHeartbeats 1000000
namespace Vw
open PySem PySem.Spec L2 DL
theorem mul_r {i j : Int} (h : j.natAbs < 2 ^ 64) : mulOk i j = true := by
  unfold mulOk
  simp only [Bool.or_eq_true, decide_eq_true_eq]
  exact .inl (.inr h)
theorem mul_l {i j : Int} (h : i.natAbs < 2 ^ 64) : mulOk i j = true := by
  unfold mulOk
  simp only [Bool.or_eq_true, decide_eq_true_eq]
  exact .inl (.inl h)
theorem log_small {n : Nat} (h : n < 2 ^ 250) : n.log2 ≤ 250 := by
  rcases Nat.eq_zero_or_pos n with e | e
  · subst e; decide
  · have : n.log2 < 250 := (Nat.log2_lt (by omega)).mpr h
    omega
theorem mul_s {i j : Int} (h1 : i.natAbs < 2 ^ 250) (h2 : j.natAbs < 2 ^ 250) : mulOk i j = true := by
  unfold mulOk
  simp only [Bool.or_eq_true, decide_eq_true_eq]
  refine .inr ?_
  have a := log_small h1
  have b := log_small h2
  omega
theorem e_mul {i j : Int} (h : mulOk i j = true) : gMul (.int i) (.int j) = .ok (.int (i * j)) := if_pos h
theorem e_add (i j : Int) : gAdd (.int i) (.int j) = .ok (.int (i + j)) := rfl
theorem e_sub (i j : Int) : gSub (.int i) (.int j) = .ok (.int (i - j)) := rfl
theorem e_mod {i j : Int} (h : 0 < j) : gMod (.int i) (.int j) = .ok (.int (i % j)) := if_pos h
theorem e_fdiv {i j : Int} (h : 0 < j) (h2 : j.natAbs < 2 ^ 250) : gFdiv (.int i) (.int j) = .ok (.int (i / j)) := if_pos ⟨h, by have := log_small h2; omega⟩
theorem m_drawn (c k : Int) : ∃ z, ph__law_drawn [.int c, .int k] = .ok (.int z) := by
  have f1 := e_mul (i := c) (j := 6364136223846793005) (mul_r (by decide))
  have f2 := e_mul (i := k + 1) (j := 1442695040888963407) (mul_r (by decide))
  have f3 := e_mod (i := c * 6364136223846793005 + (k + 1) * 1442695040888963407) (j := 340282366920938463463374607431768211507) (by decide)
  generalize hm : (c * 6364136223846793005 + (k + 1) * 1442695040888963407) % 340282366920938463463374607431768211507 = m at f3
  have b1 : m.natAbs < 2 ^ 250 := by
    have := Int.emod_nonneg (c * 6364136223846793005 + (k + 1) * 1442695040888963407) (b := 340282366920938463463374607431768211507) (by decide)
    have := Int.emod_lt_of_pos (c * 6364136223846793005 + (k + 1) * 1442695040888963407) (b := 340282366920938463463374607431768211507) (by decide)
    omega
  have f4 := e_mul (i := m) (j := m) (mul_s b1 b1)
  have f5 := e_mod (i := m * m) (j := 340282366920938463463374607431768211297) (by decide)
  generalize hn : m * m % 340282366920938463463374607431768211297 = n at f5
  have b2 : 0 ≤ n ∧ n < 340282366920938463463374607431768211297 := by
    have h1 := Int.emod_nonneg (m * m) (b := 340282366920938463463374607431768211297) (by decide)
    have h2 := Int.emod_lt_of_pos (m * m) (b := 340282366920938463463374607431768211297) (by decide)
    rw [hn] at h1 h2
    exact ⟨h1, h2⟩
  have f6 := e_mod (i := n) (j := 18446744073709551557) (by decide)
  have f7 := e_fdiv (i := n) (j := 18446744073709551557) (by decide) (by decide)
  have b3 : (n % 18446744073709551557 + 1).natAbs < 2 ^ 64 := by
    have h1 := Int.emod_nonneg n (b := 18446744073709551557) (by decide)
    have h2 := Int.emod_lt_of_pos n (b := 18446744073709551557) (by decide)
    omega
  have f8 := e_mul (i := n % 18446744073709551557 + 1) (j := n / 18446744073709551557 + 1) (mul_l b3)
  have b4 : ((n % 18446744073709551557 + 1) * (n / 18446744073709551557 + 1)).natAbs < 2 ^ 250 := by
    rw [Int.natAbs_mul]
    have h5 : (n / 18446744073709551557 + 1).natAbs < 2 ^ 130 := by omega
    calc (n % 18446744073709551557 + 1).natAbs * (n / 18446744073709551557 + 1).natAbs
        ≤ 2 ^ 64 * (n / 18446744073709551557 + 1).natAbs := Nat.mul_le_mul_right _ (Nat.le_of_lt b3)
      _ < 2 ^ 250 := by omega
  have f9 := e_mul (i := (n % 18446744073709551557 + 1) * (n / 18446744073709551557 + 1)) (j := n) (mul_s b4 (by omega))
  have f10 := e_mod (i := (n % 18446744073709551557 + 1) * (n / 18446744073709551557 + 1) * n) (j := 340282366920938463463374607431768211507) (by decide)
  refine ⟨(n % 18446744073709551557 + 1) * (n / 18446744073709551557 + 1) * n % 340282366920938463463374607431768211507, ?_⟩
  unfold ph__law_drawn b__law_drawn
  simp only [vSet, f1, f2, e_add, f3, f4, f5, f6, f7, f8, f9, f10, DL.runP, DL.runN, DL.startD, List.map, List.length, List.replicate, List.append_nil, List.cons_append, List.nil_append, DL.e_bo, DL.e_be, DL.e_bb, DL.e_ao, DL.e_ae, DL.e_no, DL.e_nb, DL.e_cd, DL.e_cn, DL.e_ct, DL.e_co, DL.e_ce, DL.e_op, DL.e_if, DL.e_seq, DL.vOr, DL.vAnd, DL.vNot, DL.vTest, DL.vIsi, DL.vCall, DL.vCons, DL.vNil, DL.vConst, DL.vRet, DL.vNext, DL.vApp, DL.vNeg, DL.vChain, DL.vAndV, DL.vOrV, DL.vNotV, DL.vIf, ite_true, ite_false, if_true, if_false, Nat.reduceAdd, Nat.reduceSub, Nat.reduceEqDiff, reduceIte, Bool.true_and, Bool.and_true, Bool.not_true, Bool.not_false, Bool.false_eq_true, DL.endP, DL.endN, DL.cz2, DL.cz3, DL.cz4, DL.cz5, DL.cz6, DL.cz7, DL.cz8, DL.cz9, Int.natCast_add, Int.natCast_zero, Int.natCast_one, decide_true, decide_false, eq_self, not_true, not_false_eq_true, Bool.not_eq_true, DL.e_len_t, DL.e_len_l, DL.e_eq_ii, DL.e_ne_ii, DL.e_lt_ii, DL.e_le_ii, DL.e_gt_ii, DL.e_ge_ii, DL.e_ix_t0, DL.e_ix_t1, DL.e_ix_t2, DL.e_ix_t3, DL.e_ix_t4, DL.e_gcd, DL.p_none, DL.p_bool, DL.p_int, DL.p_str, DL.p_list, DL.p_tuple, DL.i_int_none, DL.i_int_bool, DL.i_int_int, DL.i_int_str, DL.i_int_list, DL.i_int_tuple, DL.i_bool_none, DL.i_bool_bool, DL.i_bool_int, DL.i_bool_str, DL.i_bool_list, DL.i_bool_tuple, DL.i_str_none, DL.i_str_bool, DL.i_str_int, DL.i_str_str, DL.i_str_list, DL.i_str_tuple, DL.i_tuple_none, DL.i_tuple_bool, DL.i_tuple_int, DL.i_tuple_str, DL.i_tuple_list, DL.i_tuple_tuple, DL.i_list_none, DL.i_list_bool, DL.i_list_int, DL.i_list_str, DL.i_list_list, DL.i_list_tuple, DL.e_v0, DL.e_t0, DL.e_s0_0, DL.e_s0_1, DL.e_s0_2, DL.e_v1, DL.e_t1, DL.e_s1_0, DL.e_s1_1, DL.e_s1_2, DL.e_s1_3, DL.e_v2, DL.e_t2, DL.e_s2_0, DL.e_s2_1, DL.e_s2_2, DL.e_s2_3, DL.e_v3, DL.e_t3, DL.e_s3_0, DL.e_s3_1, DL.e_s3_2, DL.e_s3_3, DL.e_v4, DL.e_t4, DL.e_s4_0, DL.e_s4_1, DL.e_s4_2, DL.e_s4_3, DL.e_v5, DL.e_t5, DL.e_s5_0, DL.e_s5_1, DL.e_s5_2, DL.e_s5_3, DL.e_v6, DL.e_t6, DL.e_s6_0, DL.e_s6_1, DL.e_s6_2, DL.e_s6_3, DL.e_v7, DL.e_t7, DL.e_s7_0, DL.e_s7_1, DL.e_s7_2, DL.e_s7_3]
theorem a2_0 {α : Type} (a b : α) : atI [a, b] 0 = some a := by rfl
theorem a2_1 {α : Type} (a b : α) : atI [a, b] 1 = some b := by rfl
theorem n2_0 : ixN 2 0 = some 0 := by rfl
theorem n2_1 : ixN 2 1 = some 1 := by rfl
/-- a throw -/
theorem m_roll (a b n : Int) (hn : 0 < n) (hb : n.natAbs < 2 ^ 250) : ∃ r a' b', ph__law_roll [.int a, .int b] [.int n] = .ok (.int r, [.int a', .int b']) ∧ 0 ≤ r ∧ r < n := by
  have p : gPow (.int 10) (.int 18) = .ok (.int 1000000000000000000) := by kernel_rfl
  by_cases h : 1000000000000000000 ≤ a
  · refine ⟨a % n, a / n, b, ?_, Int.emod_nonneg _ (by omega), Int.emod_lt_of_pos _ hn⟩
    have f1 := e_mod (i := a) hn
    have f2 := e_fdiv (i := a) hn hb
    unfold ph__law_roll b__law_roll
    simp only [runM, endM, vSet, vIxO, vSetIx, p, h, f1, f2, List.getElem?_cons_zero, a2_0, a2_1, n2_0, n2_1, List.set_cons_zero, List.set_cons_succ, DL.runP, DL.runN, DL.startD, List.map, List.length, List.replicate, List.append_nil, List.cons_append, List.nil_append, DL.e_bo, DL.e_be, DL.e_bb, DL.e_ao, DL.e_ae, DL.e_no, DL.e_nb, DL.e_cd, DL.e_cn, DL.e_ct, DL.e_co, DL.e_ce, DL.e_op, DL.e_if, DL.e_seq, DL.vOr, DL.vAnd, DL.vNot, DL.vTest, DL.vIsi, DL.vCall, DL.vCons, DL.vNil, DL.vConst, DL.vRet, DL.vNext, DL.vApp, DL.vNeg, DL.vChain, DL.vAndV, DL.vOrV, DL.vNotV, DL.vIf, ite_true, ite_false, if_true, if_false, Nat.reduceAdd, Nat.reduceSub, Nat.reduceEqDiff, reduceIte, Bool.true_and, Bool.and_true, Bool.not_true, Bool.not_false, Bool.false_eq_true, DL.endP, DL.endN, DL.cz2, DL.cz3, DL.cz4, DL.cz5, DL.cz6, DL.cz7, DL.cz8, DL.cz9, Int.natCast_add, Int.natCast_zero, Int.natCast_one, decide_true, decide_false, eq_self, not_true, not_false_eq_true, Bool.not_eq_true, DL.e_len_t, DL.e_len_l, DL.e_eq_ii, DL.e_ne_ii, DL.e_lt_ii, DL.e_le_ii, DL.e_gt_ii, DL.e_ge_ii, DL.e_ix_t0, DL.e_ix_t1, DL.e_ix_t2, DL.e_ix_t3, DL.e_ix_t4, DL.e_gcd, DL.p_none, DL.p_bool, DL.p_int, DL.p_str, DL.p_list, DL.p_tuple, DL.i_int_none, DL.i_int_bool, DL.i_int_int, DL.i_int_str, DL.i_int_list, DL.i_int_tuple, DL.i_bool_none, DL.i_bool_bool, DL.i_bool_int, DL.i_bool_str, DL.i_bool_list, DL.i_bool_tuple, DL.i_str_none, DL.i_str_bool, DL.i_str_int, DL.i_str_str, DL.i_str_list, DL.i_str_tuple, DL.i_tuple_none, DL.i_tuple_bool, DL.i_tuple_int, DL.i_tuple_str, DL.i_tuple_list, DL.i_tuple_tuple, DL.i_list_none, DL.i_list_bool, DL.i_list_int, DL.i_list_str, DL.i_list_list, DL.i_list_tuple, DL.e_v0, DL.e_t0, DL.e_s0_0, DL.e_s0_1, DL.e_s0_2, DL.e_v1, DL.e_t1, DL.e_s1_0, DL.e_s1_1, DL.e_s1_2, DL.e_s1_3, DL.e_v2, DL.e_t2, DL.e_s2_0, DL.e_s2_1, DL.e_s2_2, DL.e_s2_3, DL.e_v3, DL.e_t3, DL.e_s3_0, DL.e_s3_1, DL.e_s3_2, DL.e_s3_3, DL.e_v4, DL.e_t4, DL.e_s4_0, DL.e_s4_1, DL.e_s4_2, DL.e_s4_3, DL.e_v5, DL.e_t5, DL.e_s5_0, DL.e_s5_1, DL.e_s5_2, DL.e_s5_3, DL.e_v6, DL.e_t6, DL.e_s6_0, DL.e_s6_1, DL.e_s6_2, DL.e_s6_3, DL.e_v7, DL.e_t7, DL.e_s7_0, DL.e_s7_1, DL.e_s7_2, DL.e_s7_3]
  · obtain ⟨z, hz⟩ := m_drawn a (b + 1)
    refine ⟨z / 8 % n, a, b + 1, ?_, Int.emod_nonneg _ (by omega), Int.emod_lt_of_pos _ hn⟩
    have f1 := e_fdiv (i := z) (j := 8) (by decide) (by decide)
    have f2 := e_mod (i := z / 8) hn
    unfold ph__law_roll b__law_roll
    simp only [runM, endM, vSet, vIxO, vSetIx, p, h, f1, f2, e_add, hz, List.getElem?_cons_zero, a2_0, a2_1, n2_0, n2_1, List.set_cons_zero, List.set_cons_succ, DL.runP, DL.runN, DL.startD, List.map, List.length, List.replicate, List.append_nil, List.cons_append, List.nil_append, DL.e_bo, DL.e_be, DL.e_bb, DL.e_ao, DL.e_ae, DL.e_no, DL.e_nb, DL.e_cd, DL.e_cn, DL.e_ct, DL.e_co, DL.e_ce, DL.e_op, DL.e_if, DL.e_seq, DL.vOr, DL.vAnd, DL.vNot, DL.vTest, DL.vIsi, DL.vCall, DL.vCons, DL.vNil, DL.vConst, DL.vRet, DL.vNext, DL.vApp, DL.vNeg, DL.vChain, DL.vAndV, DL.vOrV, DL.vNotV, DL.vIf, ite_true, ite_false, if_true, if_false, Nat.reduceAdd, Nat.reduceSub, Nat.reduceEqDiff, reduceIte, Bool.true_and, Bool.and_true, Bool.not_true, Bool.not_false, Bool.false_eq_true, DL.endP, DL.endN, DL.cz2, DL.cz3, DL.cz4, DL.cz5, DL.cz6, DL.cz7, DL.cz8, DL.cz9, Int.natCast_add, Int.natCast_zero, Int.natCast_one, decide_true, decide_false, eq_self, not_true, not_false_eq_true, Bool.not_eq_true, DL.e_len_t, DL.e_len_l, DL.e_eq_ii, DL.e_ne_ii, DL.e_lt_ii, DL.e_le_ii, DL.e_gt_ii, DL.e_ge_ii, DL.e_ix_t0, DL.e_ix_t1, DL.e_ix_t2, DL.e_ix_t3, DL.e_ix_t4, DL.e_gcd, DL.p_none, DL.p_bool, DL.p_int, DL.p_str, DL.p_list, DL.p_tuple, DL.i_int_none, DL.i_int_bool, DL.i_int_int, DL.i_int_str, DL.i_int_list, DL.i_int_tuple, DL.i_bool_none, DL.i_bool_bool, DL.i_bool_int, DL.i_bool_str, DL.i_bool_list, DL.i_bool_tuple, DL.i_str_none, DL.i_str_bool, DL.i_str_int, DL.i_str_str, DL.i_str_list, DL.i_str_tuple, DL.i_tuple_none, DL.i_tuple_bool, DL.i_tuple_int, DL.i_tuple_str, DL.i_tuple_list, DL.i_tuple_tuple, DL.i_list_none, DL.i_list_bool, DL.i_list_int, DL.i_list_str, DL.i_list_list, DL.i_list_tuple, DL.e_v0, DL.e_t0, DL.e_s0_0, DL.e_s0_1, DL.e_s0_2, DL.e_v1, DL.e_t1, DL.e_s1_0, DL.e_s1_1, DL.e_s1_2, DL.e_s1_3, DL.e_v2, DL.e_t2, DL.e_s2_0, DL.e_s2_1, DL.e_s2_2, DL.e_s2_3, DL.e_v3, DL.e_t3, DL.e_s3_0, DL.e_s3_1, DL.e_s3_2, DL.e_s3_3, DL.e_v4, DL.e_t4, DL.e_s4_0, DL.e_s4_1, DL.e_s4_2, DL.e_s4_3, DL.e_v5, DL.e_t5, DL.e_s5_0, DL.e_s5_1, DL.e_s5_2, DL.e_s5_3, DL.e_v6, DL.e_t6, DL.e_s6_0, DL.e_s6_1, DL.e_s6_2, DL.e_s6_3, DL.e_v7, DL.e_t7, DL.e_s7_0, DL.e_s7_1, DL.e_s7_2, DL.e_s7_3]
end Vw
set_option linter.all false
set_option maxRecDepth 100000
set_option maxHeartbeats 1000000
namespace Vw
open PySem PySem.Spec L2 DL
/-- dice -/
def Dice (ls : List PyData) : Prop := ∃ a b, ls = [.int a, .int b]
theorem roll' {ls : List PyData} (h : Dice ls) (n : Int) (hn : 0 < n ∧ n ≤ 1000) : ∃ r ls', ph__law_roll ls [.int n] = .ok (.int r, ls') ∧ Dice ls' ∧ 0 ≤ r ∧ r < n := by
  obtain ⟨a, b, rfl⟩ := h
  obtain ⟨r, a', b', h1, h2, h3⟩ := m_roll a b n hn.1 (by omega)
  exact ⟨r, _, h1, ⟨a', b', rfl⟩, h2, h3⟩
def sevenK : List PyData := [.str "0", .str "0", .str "ab", .str "abc", .str "bdx", .str "0", .str "klmz"]
theorem m_kinds {ls : List PyData} (h : Dice ls) : ∃ ks ls', ph__law_kinds ls [] = .ok (.tuple ks, ls') ∧ Dice ls' ∧ 1 ≤ ks.length ∧ ks.length ≤ 3 ∧ ∀ k ∈ ks, k ∈ sevenK := by
  obtain ⟨r, ls1, h1, h2, h3, h4⟩ := roll' h 3 (by decide)
  have h7 : 7 ≤ sizeLine := by rw [sizeLine_eq]; decide
  have hr : -(2 ^ 62) ≤ 1 + r ∧ 1 + r < 2 ^ 62 := by omega
  have hc := comp_T (wi := vRange (vOp gAdd (vConst (.int 1)) (vAppM 0 ph__law_roll (vCons (vConst (.int 3)) vNil)))) (g := wName 2) (f := vOp gIx (vVar 1) (vAppM 0 ph__law_roll (vCons (vConst (.int 7)) vNil))) (vs := [2])
    (δ := [.own ls, .d (.list sevenK), .no]) (δ1 := [.own ls1, .d (.list sevenK), .no]) (ds := rangeD (1 + r).toNat)
    (fun δ => ∃ l, Dice l ∧ δ = [.own l, .d (.list sevenK), .no]) (fun _ y => y ∈ sevenK) rfl
    (by
      simp only [vRange, vAppM, h1, e_add, List.getElem?_cons_zero, List.set_cons_zero, DL.runP, DL.runN, DL.startD, List.map, List.length, List.replicate, List.append_nil, List.cons_append, List.nil_append, DL.e_bo, DL.e_be, DL.e_bb, DL.e_ao, DL.e_ae, DL.e_no, DL.e_nb, DL.e_cd, DL.e_cn, DL.e_ct, DL.e_co, DL.e_ce, DL.e_op, DL.e_if, DL.e_seq, DL.vOr, DL.vAnd, DL.vNot, DL.vTest, DL.vIsi, DL.vCall, DL.vCons, DL.vNil, DL.vConst, DL.vRet, DL.vNext, DL.vApp, DL.vNeg, DL.vChain, DL.vAndV, DL.vOrV, DL.vNotV, DL.vIf, ite_true, ite_false, if_true, if_false, Nat.reduceAdd, Nat.reduceSub, Nat.reduceEqDiff, reduceIte, Bool.true_and, Bool.and_true, Bool.not_true, Bool.not_false, Bool.false_eq_true, DL.endP, DL.endN, DL.cz2, DL.cz3, DL.cz4, DL.cz5, DL.cz6, DL.cz7, DL.cz8, DL.cz9, Int.natCast_add, Int.natCast_zero, Int.natCast_one, decide_true, decide_false, eq_self, not_true, not_false_eq_true, Bool.not_eq_true, DL.e_len_t, DL.e_len_l, DL.e_eq_ii, DL.e_ne_ii, DL.e_lt_ii, DL.e_le_ii, DL.e_gt_ii, DL.e_ge_ii, DL.e_ix_t0, DL.e_ix_t1, DL.e_ix_t2, DL.e_ix_t3, DL.e_ix_t4, DL.e_gcd, DL.p_none, DL.p_bool, DL.p_int, DL.p_str, DL.p_list, DL.p_tuple, DL.i_int_none, DL.i_int_bool, DL.i_int_int, DL.i_int_str, DL.i_int_list, DL.i_int_tuple, DL.i_bool_none, DL.i_bool_bool, DL.i_bool_int, DL.i_bool_str, DL.i_bool_list, DL.i_bool_tuple, DL.i_str_none, DL.i_str_bool, DL.i_str_int, DL.i_str_str, DL.i_str_list, DL.i_str_tuple, DL.i_tuple_none, DL.i_tuple_bool, DL.i_tuple_int, DL.i_tuple_str, DL.i_tuple_list, DL.i_tuple_tuple, DL.i_list_none, DL.i_list_bool, DL.i_list_int, DL.i_list_str, DL.i_list_list, DL.i_list_tuple, DL.e_v0, DL.e_t0, DL.e_s0_0, DL.e_s0_1, DL.e_s0_2, DL.e_v1, DL.e_t1, DL.e_s1_0, DL.e_s1_1, DL.e_s1_2, DL.e_s1_3, DL.e_v2, DL.e_t2, DL.e_s2_0, DL.e_s2_1, DL.e_s2_2, DL.e_s2_3, DL.e_v3, DL.e_t3, DL.e_s3_0, DL.e_s3_1, DL.e_s3_2, DL.e_s3_3, DL.e_v4, DL.e_t4, DL.e_s4_0, DL.e_s4_1, DL.e_s4_2, DL.e_s4_3, DL.e_v5, DL.e_t5, DL.e_s5_0, DL.e_s5_1, DL.e_s5_2, DL.e_s5_3, DL.e_v6, DL.e_t6, DL.e_s6_0, DL.e_s6_1, DL.e_s6_2, DL.e_s6_3, DL.e_v7, DL.e_t7, DL.e_s7_0, DL.e_s7_1, DL.e_s7_2, DL.e_s7_3]
      rw [if_pos hr]) rfl (range_le (by omega)) ⟨ls1, h2, rfl⟩ (fun d _ δ ⟨l, hl, e⟩ => by
      subst e
      obtain ⟨q, l', k1, k2, k3, k4⟩ := roll' hl 7 (by decide)
      obtain ⟨n, rfl⟩ : ∃ n : Nat, q = n := ⟨q.toNat, by omega⟩
      have hn : n < sevenK.length := by show n < 7; omega
      refine ⟨[.own l, .d (.list sevenK), .d d], rfl, sevenK[n], [.own l', .d (.list sevenK), .d d], ?_, List.getElem_mem hn, ⟨l', k2, rfl⟩⟩
      simp only [vAppM, k1, List.getElem?_cons_zero, List.set_cons_zero, e_ix_l (List.getElem?_eq_getElem hn), DL.runP, DL.runN, DL.startD, List.map, List.length, List.replicate, List.append_nil, List.cons_append, List.nil_append, DL.e_bo, DL.e_be, DL.e_bb, DL.e_ao, DL.e_ae, DL.e_no, DL.e_nb, DL.e_cd, DL.e_cn, DL.e_ct, DL.e_co, DL.e_ce, DL.e_op, DL.e_if, DL.e_seq, DL.vOr, DL.vAnd, DL.vNot, DL.vTest, DL.vIsi, DL.vCall, DL.vCons, DL.vNil, DL.vConst, DL.vRet, DL.vNext, DL.vApp, DL.vNeg, DL.vChain, DL.vAndV, DL.vOrV, DL.vNotV, DL.vIf, ite_true, ite_false, if_true, if_false, Nat.reduceAdd, Nat.reduceSub, Nat.reduceEqDiff, reduceIte, Bool.true_and, Bool.and_true, Bool.not_true, Bool.not_false, Bool.false_eq_true, DL.endP, DL.endN, DL.cz2, DL.cz3, DL.cz4, DL.cz5, DL.cz6, DL.cz7, DL.cz8, DL.cz9, Int.natCast_add, Int.natCast_zero, Int.natCast_one, decide_true, decide_false, eq_self, not_true, not_false_eq_true, Bool.not_eq_true, DL.e_len_t, DL.e_len_l, DL.e_eq_ii, DL.e_ne_ii, DL.e_lt_ii, DL.e_le_ii, DL.e_gt_ii, DL.e_ge_ii, DL.e_ix_t0, DL.e_ix_t1, DL.e_ix_t2, DL.e_ix_t3, DL.e_ix_t4, DL.e_gcd, DL.p_none, DL.p_bool, DL.p_int, DL.p_str, DL.p_list, DL.p_tuple, DL.i_int_none, DL.i_int_bool, DL.i_int_int, DL.i_int_str, DL.i_int_list, DL.i_int_tuple, DL.i_bool_none, DL.i_bool_bool, DL.i_bool_int, DL.i_bool_str, DL.i_bool_list, DL.i_bool_tuple, DL.i_str_none, DL.i_str_bool, DL.i_str_int, DL.i_str_str, DL.i_str_list, DL.i_str_tuple, DL.i_tuple_none, DL.i_tuple_bool, DL.i_tuple_int, DL.i_tuple_str, DL.i_tuple_list, DL.i_tuple_tuple, DL.i_list_none, DL.i_list_bool, DL.i_list_int, DL.i_list_str, DL.i_list_list, DL.i_list_tuple, DL.e_v0, DL.e_t0, DL.e_s0_0, DL.e_s0_1, DL.e_s0_2, DL.e_v1, DL.e_t1, DL.e_s1_0, DL.e_s1_1, DL.e_s1_2, DL.e_s1_3, DL.e_v2, DL.e_t2, DL.e_s2_0, DL.e_s2_1, DL.e_s2_2, DL.e_s2_3, DL.e_v3, DL.e_t3, DL.e_s3_0, DL.e_s3_1, DL.e_s3_2, DL.e_s3_3, DL.e_v4, DL.e_t4, DL.e_s4_0, DL.e_s4_1, DL.e_s4_2, DL.e_s4_3, DL.e_v5, DL.e_t5, DL.e_s5_0, DL.e_s5_1, DL.e_s5_2, DL.e_s5_3, DL.e_v6, DL.e_t6, DL.e_s6_0, DL.e_s6_1, DL.e_s6_2, DL.e_s6_3, DL.e_v7, DL.e_t7, DL.e_s7_0, DL.e_s7_1, DL.e_s7_2, DL.e_s7_3])
  obtain ⟨ys, δ', c1, c2, c3, l', hl', rfl⟩ := hc
  have hy := at_mem c2 c3
  rw [rangeD_len] at c2
  refine ⟨ys, l', ?_, hl', by omega, by omega, fun k hk => (hy k hk).elim fun _ z => z.2⟩
  have g1 : gTuple [.list ys] = .ok (.tuple ys) := rfl
  have c1' : _ = Res.ok (PyData.list ys, [Sl.own l', .d (.list sevenK), .no]) := c1
  unfold sevenK at c1'
  unfold ph__law_kinds b__law_kinds
  simp only [runM, endM, vSet, vLst, List.getElem?_cons_zero, h7, c1', g1, DL.runP, DL.runN, DL.startD, List.map, List.length, List.replicate, List.append_nil, List.cons_append, List.nil_append, DL.e_bo, DL.e_be, DL.e_bb, DL.e_ao, DL.e_ae, DL.e_no, DL.e_nb, DL.e_cd, DL.e_cn, DL.e_ct, DL.e_co, DL.e_ce, DL.e_op, DL.e_if, DL.e_seq, DL.vOr, DL.vAnd, DL.vNot, DL.vTest, DL.vIsi, DL.vCall, DL.vCons, DL.vNil, DL.vConst, DL.vRet, DL.vNext, DL.vApp, DL.vNeg, DL.vChain, DL.vAndV, DL.vOrV, DL.vNotV, DL.vIf, ite_true, ite_false, if_true, if_false, Nat.reduceAdd, Nat.reduceSub, Nat.reduceEqDiff, reduceIte, Bool.true_and, Bool.and_true, Bool.not_true, Bool.not_false, Bool.false_eq_true, DL.endP, DL.endN, DL.cz2, DL.cz3, DL.cz4, DL.cz5, DL.cz6, DL.cz7, DL.cz8, DL.cz9, Int.natCast_add, Int.natCast_zero, Int.natCast_one, decide_true, decide_false, eq_self, not_true, not_false_eq_true, Bool.not_eq_true, DL.e_len_t, DL.e_len_l, DL.e_eq_ii, DL.e_ne_ii, DL.e_lt_ii, DL.e_le_ii, DL.e_gt_ii, DL.e_ge_ii, DL.e_ix_t0, DL.e_ix_t1, DL.e_ix_t2, DL.e_ix_t3, DL.e_ix_t4, DL.e_gcd, DL.p_none, DL.p_bool, DL.p_int, DL.p_str, DL.p_list, DL.p_tuple, DL.i_int_none, DL.i_int_bool, DL.i_int_int, DL.i_int_str, DL.i_int_list, DL.i_int_tuple, DL.i_bool_none, DL.i_bool_bool, DL.i_bool_int, DL.i_bool_str, DL.i_bool_list, DL.i_bool_tuple, DL.i_str_none, DL.i_str_bool, DL.i_str_int, DL.i_str_str, DL.i_str_list, DL.i_str_tuple, DL.i_tuple_none, DL.i_tuple_bool, DL.i_tuple_int, DL.i_tuple_str, DL.i_tuple_list, DL.i_tuple_tuple, DL.i_list_none, DL.i_list_bool, DL.i_list_int, DL.i_list_str, DL.i_list_list, DL.i_list_tuple, DL.e_v0, DL.e_t0, DL.e_s0_0, DL.e_s0_1, DL.e_s0_2, DL.e_v1, DL.e_t1, DL.e_s1_0, DL.e_s1_1, DL.e_s1_2, DL.e_s1_3, DL.e_v2, DL.e_t2, DL.e_s2_0, DL.e_s2_1, DL.e_s2_2, DL.e_s2_3, DL.e_v3, DL.e_t3, DL.e_s3_0, DL.e_s3_1, DL.e_s3_2, DL.e_s3_3, DL.e_v4, DL.e_t4, DL.e_s4_0, DL.e_s4_1, DL.e_s4_2, DL.e_s4_3, DL.e_v5, DL.e_t5, DL.e_s5_0, DL.e_s5_1, DL.e_s5_2, DL.e_s5_3, DL.e_v6, DL.e_t6, DL.e_s6_0, DL.e_s6_1, DL.e_s6_2, DL.e_s6_3, DL.e_v7, DL.e_t7, DL.e_s7_0, DL.e_s7_1, DL.e_s7_2, DL.e_s7_3]
end Vw
set_option linter.all false
set_option maxRecDepth 100000
set_option maxHeartbeats 1000000
namespace Vw
open PySem PySem.Spec L2 DL
/-! _law_low: lowest terms -/
def lowB : EvS := vPar 2 3 (vCons (vVar 3) (vCons (vOp gMod (vVar 2) (vVar 3)) vNil))
def lowT : EvT := vTest (vOp gNe (vVar 3) (vConst (.int 0)))
abbrev lowS (t b x y : Int) : DSt := [.d (.int t), .d (.int b), .d (.int x), .d (.int y)]
theorem lowT_at (t b x y : Int) : lowT (lowS t b x y) = .ok (!decide (y = 0), lowS t b x y) := by
  unfold lowT lowS
  simp only [DL.runP, DL.runN, DL.startD, List.map, List.length, List.replicate, List.append_nil, List.cons_append, List.nil_append, DL.e_bo, DL.e_be, DL.e_bb, DL.e_ao, DL.e_ae, DL.e_no, DL.e_nb, DL.e_cd, DL.e_cn, DL.e_ct, DL.e_co, DL.e_ce, DL.e_op, DL.e_if, DL.e_seq, DL.vOr, DL.vAnd, DL.vNot, DL.vTest, DL.vIsi, DL.vCall, DL.vCons, DL.vNil, DL.vConst, DL.vRet, DL.vNext, DL.vApp, DL.vNeg, DL.vChain, DL.vAndV, DL.vOrV, DL.vNotV, DL.vIf, ite_true, ite_false, if_true, if_false, Nat.reduceAdd, Nat.reduceSub, Nat.reduceEqDiff, reduceIte, Bool.true_and, Bool.and_true, Bool.not_true, Bool.not_false, Bool.false_eq_true, DL.endP, DL.endN, DL.cz2, DL.cz3, DL.cz4, DL.cz5, DL.cz6, DL.cz7, DL.cz8, DL.cz9, Int.natCast_add, Int.natCast_zero, Int.natCast_one, decide_true, decide_false, eq_self, not_true, not_false_eq_true, Bool.not_eq_true, DL.e_len_t, DL.e_len_l, DL.e_eq_ii, DL.e_ne_ii, DL.e_lt_ii, DL.e_le_ii, DL.e_gt_ii, DL.e_ge_ii, DL.e_ix_t0, DL.e_ix_t1, DL.e_ix_t2, DL.e_ix_t3, DL.e_ix_t4, DL.e_gcd, DL.p_none, DL.p_bool, DL.p_int, DL.p_str, DL.p_list, DL.p_tuple, DL.i_int_none, DL.i_int_bool, DL.i_int_int, DL.i_int_str, DL.i_int_list, DL.i_int_tuple, DL.i_bool_none, DL.i_bool_bool, DL.i_bool_int, DL.i_bool_str, DL.i_bool_list, DL.i_bool_tuple, DL.i_str_none, DL.i_str_bool, DL.i_str_int, DL.i_str_str, DL.i_str_list, DL.i_str_tuple, DL.i_tuple_none, DL.i_tuple_bool, DL.i_tuple_int, DL.i_tuple_str, DL.i_tuple_list, DL.i_tuple_tuple, DL.i_list_none, DL.i_list_bool, DL.i_list_int, DL.i_list_str, DL.i_list_list, DL.i_list_tuple, DL.e_v0, DL.e_t0, DL.e_s0_0, DL.e_s0_1, DL.e_s0_2, DL.e_v1, DL.e_t1, DL.e_s1_0, DL.e_s1_1, DL.e_s1_2, DL.e_s1_3, DL.e_v2, DL.e_t2, DL.e_s2_0, DL.e_s2_1, DL.e_s2_2, DL.e_s2_3, DL.e_v3, DL.e_t3, DL.e_s3_0, DL.e_s3_1, DL.e_s3_2, DL.e_s3_3, DL.e_v4, DL.e_t4, DL.e_s4_0, DL.e_s4_1, DL.e_s4_2, DL.e_s4_3, DL.e_v5, DL.e_t5, DL.e_s5_0, DL.e_s5_1, DL.e_s5_2, DL.e_s5_3, DL.e_v6, DL.e_t6, DL.e_s6_0, DL.e_s6_1, DL.e_s6_2, DL.e_s6_3, DL.e_v7, DL.e_t7, DL.e_s7_0, DL.e_s7_1, DL.e_s7_2, DL.e_s7_3]
theorem lowB_at (t b x y : Int) (h : 0 < y) : lowB (lowS t b x y) = .ok (.nx, lowS t b y (x % y)) := by
  have f := e_mod (i := x) (j := y) h
  unfold lowB lowS
  simp only [vPar, f, DL.runP, DL.runN, DL.startD, List.map, List.length, List.replicate, List.append_nil, List.cons_append, List.nil_append, DL.e_bo, DL.e_be, DL.e_bb, DL.e_ao, DL.e_ae, DL.e_no, DL.e_nb, DL.e_cd, DL.e_cn, DL.e_ct, DL.e_co, DL.e_ce, DL.e_op, DL.e_if, DL.e_seq, DL.vOr, DL.vAnd, DL.vNot, DL.vTest, DL.vIsi, DL.vCall, DL.vCons, DL.vNil, DL.vConst, DL.vRet, DL.vNext, DL.vApp, DL.vNeg, DL.vChain, DL.vAndV, DL.vOrV, DL.vNotV, DL.vIf, ite_true, ite_false, if_true, if_false, Nat.reduceAdd, Nat.reduceSub, Nat.reduceEqDiff, reduceIte, Bool.true_and, Bool.and_true, Bool.not_true, Bool.not_false, Bool.false_eq_true, DL.endP, DL.endN, DL.cz2, DL.cz3, DL.cz4, DL.cz5, DL.cz6, DL.cz7, DL.cz8, DL.cz9, Int.natCast_add, Int.natCast_zero, Int.natCast_one, decide_true, decide_false, eq_self, not_true, not_false_eq_true, Bool.not_eq_true, DL.e_len_t, DL.e_len_l, DL.e_eq_ii, DL.e_ne_ii, DL.e_lt_ii, DL.e_le_ii, DL.e_gt_ii, DL.e_ge_ii, DL.e_ix_t0, DL.e_ix_t1, DL.e_ix_t2, DL.e_ix_t3, DL.e_ix_t4, DL.e_gcd, DL.p_none, DL.p_bool, DL.p_int, DL.p_str, DL.p_list, DL.p_tuple, DL.i_int_none, DL.i_int_bool, DL.i_int_int, DL.i_int_str, DL.i_int_list, DL.i_int_tuple, DL.i_bool_none, DL.i_bool_bool, DL.i_bool_int, DL.i_bool_str, DL.i_bool_list, DL.i_bool_tuple, DL.i_str_none, DL.i_str_bool, DL.i_str_int, DL.i_str_str, DL.i_str_list, DL.i_str_tuple, DL.i_tuple_none, DL.i_tuple_bool, DL.i_tuple_int, DL.i_tuple_str, DL.i_tuple_list, DL.i_tuple_tuple, DL.i_list_none, DL.i_list_bool, DL.i_list_int, DL.i_list_str, DL.i_list_list, DL.i_list_tuple, DL.e_v0, DL.e_t0, DL.e_s0_0, DL.e_s0_1, DL.e_s0_2, DL.e_v1, DL.e_t1, DL.e_s1_0, DL.e_s1_1, DL.e_s1_2, DL.e_s1_3, DL.e_v2, DL.e_t2, DL.e_s2_0, DL.e_s2_1, DL.e_s2_2, DL.e_s2_3, DL.e_v3, DL.e_t3, DL.e_s3_0, DL.e_s3_1, DL.e_s3_2, DL.e_s3_3, DL.e_v4, DL.e_t4, DL.e_s4_0, DL.e_s4_1, DL.e_s4_2, DL.e_s4_3, DL.e_v5, DL.e_t5, DL.e_s5_0, DL.e_s5_1, DL.e_s5_2, DL.e_s5_3, DL.e_v6, DL.e_t6, DL.e_s6_0, DL.e_s6_1, DL.e_s6_2, DL.e_s6_3, DL.e_v7, DL.e_t7, DL.e_s7_0, DL.e_s7_1, DL.e_s7_2, DL.e_s7_3]
theorem half {x y : Int} (hy : 0 < y) (hx : 0 ≤ x) (hr : 0 < x % y) : 2 * (y % (x % y)) ≤ y ∧ 0 ≤ y % (x % y) ∧ y % (x % y) < x % y := by
  have h1 : x % y < y := Int.emod_lt_of_pos x hy
  have h2 : 0 ≤ y % (x % y) := Int.emod_nonneg _ (by omega)
  have h3 : y % (x % y) < x % y := Int.emod_lt_of_pos _ hr
  refine ⟨?_, h2, h3⟩
  by_cases c : 2 * (x % y) ≤ y
  · omega
  · have : y % (x % y) = y - (x % y) := by
      have e := Int.emod_add_mul_ediv y (x % y)
      have q1 : y / (x % y) = 1 := by
        apply Int.le_antisymm
        · have : y / (x % y) < 2 := Int.ediv_lt_of_lt_mul hr (by omega)
          omega
        · exact Int.le_ediv_of_mul_le hr (by omega)
      rw [q1] at e
      omega
    omega
theorem gcd_step {x y : Int} (hx : 0 ≤ x) (hy : 0 < y) : Nat.gcd y.toNat (x % y).toNat = Nat.gcd x.toNat y.toNat := by
  have e : (x % y).toNat = x.toNat % y.toNat := by
    have := Int.toNat_emod hx (Int.le_of_lt hy)
    exact this
  rw [e, Nat.gcd_comm y.toNat, ← Nat.gcd_rec, Nat.gcd_comm]
theorem low_loop (t b : Int) : ∀ (n : Nat) (x y : Int) (N : Nat), 0 ≤ x → 0 ≤ y → y < 2 ^ n → 2 * n + 1 ≤ N → ∃ y', vWhile lowT lowB N (lowS t b x y) = .ok (.nx, lowS t b (Nat.gcd x.toNat y.toNat : Nat) y') := by
  intro n
  have stop : ∀ (x : Int) (N : Nat), 0 ≤ x → 1 ≤ N → vWhile lowT lowB N (lowS t b x 0) = .ok (.nx, lowS t b (Nat.gcd x.toNat (0 : Int).toNat : Nat) 0) := fun x N hx hN => by
    obtain ⟨M, rfl⟩ : ∃ M, N = M + 1 := ⟨N - 1, by omega⟩
    have e : ((Nat.gcd x.toNat (0 : Int).toNat : Nat) : Int) = x := by
      rw [show (0 : Int).toNat = 0 from rfl, Nat.gcd_zero_right]
      omega
    rw [e, vWhile, lowT_at]
    rfl
  have go : ∀ (x y : Int) (N : Nat), 0 < y → vWhile lowT lowB (N + 1) (lowS t b x y) = vWhile lowT lowB N (lowS t b y (x % y)) := fun x y N hy => by
    have c : (!decide (y = 0)) = true := by simp; omega
    rw [vWhile, lowT_at, c, show chk0 (lowS t b x y) (Res.ok (true, lowS t b x y)) = .ok (true, lowS t b x y) from rfl, Res.bind_ok, if_pos rfl, lowB_at t b x y hy]
    rfl
  induction n with
  | zero =>
    intro x y N hx hy h1 hN
    have : y = 0 := by simp at h1; omega
    subst this
    exact ⟨0, stop x N hx (by omega)⟩
  | succ n ih =>
    intro x y N hx hy h1 hN
    by_cases c : y = 0
    · subst c; exact ⟨0, stop x N hx (by omega)⟩
    · have hy0 : 0 < y := by omega
      obtain ⟨M, rfl⟩ : ∃ M, N = M + 1 + 1 := ⟨N - 2, by omega⟩
      rw [go x y (M + 1) hy0, ← gcd_step hx hy0]
      have hr0 : 0 ≤ x % y := Int.emod_nonneg _ (by omega)
      by_cases c2 : x % y = 0
      · rw [c2]; exact ⟨0, stop y (M + 1) hy (by omega)⟩
      · have hr : 0 < x % y := by omega
        obtain ⟨q1, q2, q3⟩ := half hy0 hx hr
        rw [go y (x % y) M hr, ← gcd_step hy hr]
        refine ih (x % y) (y % (x % y)) M hr0 q2 ?_ (by omega)
        rw [Int.pow_succ] at h1
        omega
theorem m_low (t b : Int) (hb : 0 < b) (h2 : b < 2 ^ 190) : ph__law_low [.int t, .int b] = .ok (.tuple [.int (t / (Nat.gcd t.natAbs b.natAbs : Nat)), .int (b / (Nat.gcd t.natAbs b.natAbs : Nat))]) := by
  have ab : (if t < 0 then -t else t) = (t.natAbs : Int) := by split <;> omega
  obtain ⟨y', hw⟩ := low_loop t b 190 (t.natAbs : Int) b 400 (by omega) (by omega) h2 (by decide)
  have e1 : ((t.natAbs : Int)).toNat = t.natAbs := by omega
  have e2 : b.toNat = b.natAbs := by omega
  rw [e1, e2] at hw
  have gp : 0 < Nat.gcd t.natAbs b.natAbs := Nat.gcd_pos_of_pos_right _ (by omega)
  have gle : Nat.gcd t.natAbs b.natAbs ≤ b.natAbs := Nat.gcd_le_right _ (by omega)
  have gb : (((Nat.gcd t.natAbs b.natAbs : Nat) : Int)).natAbs < 2 ^ 250 := by
    have : b.natAbs < 2 ^ 190 := by omega
    omega
  generalize Nat.gcd t.natAbs b.natAbs = g at hw gp gb ⊢
  have f1 := e_fdiv (i := t) (j := (g : Int)) (by omega) gb
  have f2 := e_fdiv (i := b) (j := (g : Int)) (by omega) gb
  have ga : gAbs [.int t] = .ok (.int (t.natAbs : Int)) := by
    show Res.ok (PyData.int (if t < 0 then -t else t)) = _
    rw [ab]
  have s1 : (vPar 2 3 (vCons (vCall gAbs (vCons (vVar 0) vNil)) (vCons (vVar 1) vNil))) [.d (.int t), .d (.int b), .no, .no] = .ok (.nx, lowS t b (t.natAbs : Int) b) := by
    simp only [vPar, ga, DL.runP, DL.runN, DL.startD, List.map, List.length, List.replicate, List.append_nil, List.cons_append, List.nil_append, DL.e_bo, DL.e_be, DL.e_bb, DL.e_ao, DL.e_ae, DL.e_no, DL.e_nb, DL.e_cd, DL.e_cn, DL.e_ct, DL.e_co, DL.e_ce, DL.e_op, DL.e_if, DL.e_seq, DL.vOr, DL.vAnd, DL.vNot, DL.vTest, DL.vIsi, DL.vCall, DL.vCons, DL.vNil, DL.vConst, DL.vRet, DL.vNext, DL.vApp, DL.vNeg, DL.vChain, DL.vAndV, DL.vOrV, DL.vNotV, DL.vIf, ite_true, ite_false, if_true, if_false, Nat.reduceAdd, Nat.reduceSub, Nat.reduceEqDiff, reduceIte, Bool.true_and, Bool.and_true, Bool.not_true, Bool.not_false, Bool.false_eq_true, DL.endP, DL.endN, DL.cz2, DL.cz3, DL.cz4, DL.cz5, DL.cz6, DL.cz7, DL.cz8, DL.cz9, Int.natCast_add, Int.natCast_zero, Int.natCast_one, decide_true, decide_false, eq_self, not_true, not_false_eq_true, Bool.not_eq_true, DL.e_len_t, DL.e_len_l, DL.e_eq_ii, DL.e_ne_ii, DL.e_lt_ii, DL.e_le_ii, DL.e_gt_ii, DL.e_ge_ii, DL.e_ix_t0, DL.e_ix_t1, DL.e_ix_t2, DL.e_ix_t3, DL.e_ix_t4, DL.e_gcd, DL.p_none, DL.p_bool, DL.p_int, DL.p_str, DL.p_list, DL.p_tuple, DL.i_int_none, DL.i_int_bool, DL.i_int_int, DL.i_int_str, DL.i_int_list, DL.i_int_tuple, DL.i_bool_none, DL.i_bool_bool, DL.i_bool_int, DL.i_bool_str, DL.i_bool_list, DL.i_bool_tuple, DL.i_str_none, DL.i_str_bool, DL.i_str_int, DL.i_str_str, DL.i_str_list, DL.i_str_tuple, DL.i_tuple_none, DL.i_tuple_bool, DL.i_tuple_int, DL.i_tuple_str, DL.i_tuple_list, DL.i_tuple_tuple, DL.i_list_none, DL.i_list_bool, DL.i_list_int, DL.i_list_str, DL.i_list_list, DL.i_list_tuple, DL.e_v0, DL.e_t0, DL.e_s0_0, DL.e_s0_1, DL.e_s0_2, DL.e_v1, DL.e_t1, DL.e_s1_0, DL.e_s1_1, DL.e_s1_2, DL.e_s1_3, DL.e_v2, DL.e_t2, DL.e_s2_0, DL.e_s2_1, DL.e_s2_2, DL.e_s2_3, DL.e_v3, DL.e_t3, DL.e_s3_0, DL.e_s3_1, DL.e_s3_2, DL.e_s3_3, DL.e_v4, DL.e_t4, DL.e_s4_0, DL.e_s4_1, DL.e_s4_2, DL.e_s4_3, DL.e_v5, DL.e_t5, DL.e_s5_0, DL.e_s5_1, DL.e_s5_2, DL.e_s5_3, DL.e_v6, DL.e_t6, DL.e_s6_0, DL.e_s6_1, DL.e_s6_2, DL.e_s6_3, DL.e_v7, DL.e_t7, DL.e_s7_0, DL.e_s7_1, DL.e_s7_2, DL.e_s7_3]
  unfold ph__law_low b__law_low
  show runP 4 2 (vSeq _ (vSeq (vWhile lowT lowB 400) _)) [.int t, .int b] = _
  show endP ((vSeq _ (vSeq (vWhile lowT lowB 400) _)) [.d (.int t), .d (.int b), .no, .no]) = _
  rw [e_seq, s1, Res.bind_ok]
  show endP ((vSeq (vWhile lowT lowB 400) _) (lowS t b (t.natAbs : Int) b)) = _
  rw [e_seq, hw, Res.bind_ok]
  show endP ((vRet _) (lowS t b g y')) = _
  unfold lowS
  simp only [e_tup2, f1, f2, DL.runP, DL.runN, DL.startD, List.map, List.length, List.replicate, List.append_nil, List.cons_append, List.nil_append, DL.e_bo, DL.e_be, DL.e_bb, DL.e_ao, DL.e_ae, DL.e_no, DL.e_nb, DL.e_cd, DL.e_cn, DL.e_ct, DL.e_co, DL.e_ce, DL.e_op, DL.e_if, DL.e_seq, DL.vOr, DL.vAnd, DL.vNot, DL.vTest, DL.vIsi, DL.vCall, DL.vCons, DL.vNil, DL.vConst, DL.vRet, DL.vNext, DL.vApp, DL.vNeg, DL.vChain, DL.vAndV, DL.vOrV, DL.vNotV, DL.vIf, ite_true, ite_false, if_true, if_false, Nat.reduceAdd, Nat.reduceSub, Nat.reduceEqDiff, reduceIte, Bool.true_and, Bool.and_true, Bool.not_true, Bool.not_false, Bool.false_eq_true, DL.endP, DL.endN, DL.cz2, DL.cz3, DL.cz4, DL.cz5, DL.cz6, DL.cz7, DL.cz8, DL.cz9, Int.natCast_add, Int.natCast_zero, Int.natCast_one, decide_true, decide_false, eq_self, not_true, not_false_eq_true, Bool.not_eq_true, DL.e_len_t, DL.e_len_l, DL.e_eq_ii, DL.e_ne_ii, DL.e_lt_ii, DL.e_le_ii, DL.e_gt_ii, DL.e_ge_ii, DL.e_ix_t0, DL.e_ix_t1, DL.e_ix_t2, DL.e_ix_t3, DL.e_ix_t4, DL.e_gcd, DL.p_none, DL.p_bool, DL.p_int, DL.p_str, DL.p_list, DL.p_tuple, DL.i_int_none, DL.i_int_bool, DL.i_int_int, DL.i_int_str, DL.i_int_list, DL.i_int_tuple, DL.i_bool_none, DL.i_bool_bool, DL.i_bool_int, DL.i_bool_str, DL.i_bool_list, DL.i_bool_tuple, DL.i_str_none, DL.i_str_bool, DL.i_str_int, DL.i_str_str, DL.i_str_list, DL.i_str_tuple, DL.i_tuple_none, DL.i_tuple_bool, DL.i_tuple_int, DL.i_tuple_str, DL.i_tuple_list, DL.i_tuple_tuple, DL.i_list_none, DL.i_list_bool, DL.i_list_int, DL.i_list_str, DL.i_list_list, DL.i_list_tuple, DL.e_v0, DL.e_t0, DL.e_s0_0, DL.e_s0_1, DL.e_s0_2, DL.e_v1, DL.e_t1, DL.e_s1_0, DL.e_s1_1, DL.e_s1_2, DL.e_s1_3, DL.e_v2, DL.e_t2, DL.e_s2_0, DL.e_s2_1, DL.e_s2_2, DL.e_s2_3, DL.e_v3, DL.e_t3, DL.e_s3_0, DL.e_s3_1, DL.e_s3_2, DL.e_s3_3, DL.e_v4, DL.e_t4, DL.e_s4_0, DL.e_s4_1, DL.e_s4_2, DL.e_s4_3, DL.e_v5, DL.e_t5, DL.e_s5_0, DL.e_s5_1, DL.e_s5_2, DL.e_s5_3, DL.e_v6, DL.e_t6, DL.e_s6_0, DL.e_s6_1, DL.e_s6_2, DL.e_s6_3, DL.e_v7, DL.e_t7, DL.e_s7_0, DL.e_s7_1, DL.e_s7_2, DL.e_s7_3]
end Vw
set_option linter.all false
set_option maxRecDepth 100000
set_option maxHeartbeats 1000000
namespace DL
open PySem PySem.Spec L2
theorem seq_nx {f g : EvS} {δ δ1 : DSt} {r : Res (Flw × DSt)} (h : f δ = .ok (.nx, δ1)) (h2 : g δ1 = r) : vSeq f g δ = r := by rw [e_seq, h, e_bo]; exact h2
theorem seq_rt {f g : EvS} {δ δ1 : DSt} {d : PyData} (h : f δ = .ok (.rt d, δ1)) : vSeq f g δ = .ok (.rt d, δ1) := by rw [e_seq, h, e_bo]
theorem seq_err {f g : EvS} {δ : DSt} {c : Str} (h : f δ = .err c) : vSeq f g δ = .err c := by rw [e_seq, h, e_be]
theorem if_t {t : EvT} {f g : EvS} {δ δ1 : DSt} {r : Res (Flw × DSt)} (h : chk0 δ (t δ) = .ok (true, δ1)) (h2 : f δ1 = r) : vIfS t f g δ = r := by rw [e_if, h, e_bo, if_pos rfl]; exact h2
theorem if_f {t : EvT} {f g : EvS} {δ δ1 : DSt} {r : Res (Flw × DSt)} (h : chk0 δ (t δ) = .ok (false, δ1)) (h2 : g δ1 = r) : vIfS t f g δ = r := by rw [e_if, h, e_bo, if_neg Bool.false_ne_true]; exact h2
theorem runP_at {n m : Nat} {b : EvS} {ds : List PyData} {r : Res (Flw × DSt)} {x : Res PyData} (hl : ds.length = m) (h : b (startD n ds) = r) (hx : endP r = x) : runP n m b ds = x := by unfold runP; rw [if_pos hl, h, hx]
theorem runM_at {n m : Nat} {b : EvS} {ls ds : List PyData} {r : Res (Flw × DSt)} {x : Res (PyData × List PyData)} (hl : ds.length + 1 = m) (h : b (.own ls :: startD (n - 1) ds) = r) (hx : endM r = x) : runM n m b ls ds = x := by unfold runM; rw [if_pos hl, h, hx]
theorem sz {n : Nat} (h : n ≤ 1000) : n ≤ sizeLine := lit_le h
end DL
namespace Vw
open PySem PySem.Spec L2 DL
def wordK : List Str := ["ab", "abc", "bdx", "klmz"]
theorem kind_cases {k : PyData} (h : k ∈ sevenK) : k = .str "0" ∨ ∃ s ∈ wordK, k = .str s := by
  unfold sevenK at h
  simp only [List.mem_cons, List.not_mem_nil, or_false] at h
  rcases h with h | h | h | h | h | h | h
  · exact .inl h
  · exact .inl h
  · exact .inr ⟨"ab", by decide +kernel, h⟩
  · exact .inr ⟨"abc", by decide +kernel, h⟩
  · exact .inr ⟨"bdx", by decide +kernel, h⟩
  · exact .inl h
  · exact .inr ⟨"klmz", by decide +kernel, h⟩
theorem word_all {P : Str → Prop} (h1 : P "ab") (h2 : P "abc") (h3 : P "bdx") (h4 : P "klmz") : ∀ s ∈ wordK, P s := by
  intro s h
  unfold wordK at h
  simp only [List.mem_cons, List.not_mem_nil, or_false] at h
  rcases h with rfl | rfl | rfl | rfl
  · exact h1
  · exact h2
  · exact h3
  · exact h4
theorem ne_word : ∀ s ∈ wordK, gNe (.str s) (.str "0") = .ok (.bool true) := word_all (by kernel_rfl) (by kernel_rfl) (by kernel_rfl) (by kernel_rfl)
theorem eq_word : ∀ s ∈ wordK, gEq (.str s) (.str "0") = .ok (.bool false) := word_all (by kernel_rfl) (by kernel_rfl) (by kernel_rfl) (by kernel_rfl)
theorem ne_zero : gNe (.str "0") (.str "0") = .ok (.bool false) := by kernel_rfl
theorem eq_zero : gEq (.str "0") (.str "0") = .ok (.bool true) := by kernel_rfl
/-- a fraction within bounds -/
def Frac (T B : Int) (d : PyData) : Prop := ∃ x y : Int, d = .tuple [.int x, .int y] ∧ -T ≤ x ∧ x ≤ T ∧ 1 ≤ y ∧ y ≤ B ∧ Nat.gcd x.natAbs y.natAbs = 1
theorem low_frac {t b T B : Int} (h1 : -T ≤ t ∧ t ≤ T) (h2 : 1 ≤ b ∧ b ≤ B) (hB : B ≤ 1000) : ∃ d, ph__law_low [.int t, .int b] = .ok d ∧ Frac T B d := by
  have hm := m_low t b (by omega) (by omega)
  refine ⟨_, hm, _, _, rfl, ?_⟩
  have gp : 0 < Nat.gcd t.natAbs b.natAbs := Nat.gcd_pos_of_pos_right _ (by omega)
  have d1 : ((Nat.gcd t.natAbs b.natAbs : Nat) : Int) ∣ t := Int.ofNat_dvd_left.mpr (Nat.gcd_dvd_left _ _)
  have d2 : ((Nat.gcd t.natAbs b.natAbs : Nat) : Int) ∣ b := Int.ofNat_dvd_left.mpr (Nat.gcd_dvd_right _ _)
  have n1 : (t / ((Nat.gcd t.natAbs b.natAbs : Nat) : Int)).natAbs = t.natAbs / Nat.gcd t.natAbs b.natAbs := by rw [Int.natAbs_ediv_of_dvd d1]; rfl
  have n2 : (b / ((Nat.gcd t.natAbs b.natAbs : Nat) : Int)).natAbs = b.natAbs / Nat.gcd t.natAbs b.natAbs := by rw [Int.natAbs_ediv_of_dvd d2]; rfl
  have g1 : Nat.gcd (t.natAbs / Nat.gcd t.natAbs b.natAbs) (b.natAbs / Nat.gcd t.natAbs b.natAbs) = 1 := Nat.gcd_div_gcd_div_gcd_of_pos_right (by omega)
  rw [← n1, ← n2] at g1
  have l1 : (t / ((Nat.gcd t.natAbs b.natAbs : Nat) : Int)).natAbs ≤ t.natAbs := by rw [n1]; exact Nat.div_le_self _ _
  have l2 : (b / ((Nat.gcd t.natAbs b.natAbs : Nat) : Int)).natAbs ≤ b.natAbs := by rw [n2]; exact Nat.div_le_self _ _
  have p2 : 1 ≤ b / ((Nat.gcd t.natAbs b.natAbs : Nat) : Int) := Int.le_ediv_of_mul_le (by omega) (by
    have := Int.le_of_dvd (by omega) d2
    omega)
  refine ⟨by omega, by omega, p2, by omega, g1⟩
theorem m_place {ls : List PyData} (h : Dice ls) : ∃ p ls', ph__law_place ls [] = .ok (p, ls') ∧ Dice ls' ∧ Frac 99 4 p := by
  obtain ⟨r, ls1, h1, h2, h3, h4⟩ := roll' h 17 (by decide)
  obtain ⟨q, ls2, k1, k2, k3, k4⟩ := roll' h2 4 (by decide)
  have hq : ∃ s : Int, gIx (.list [.int 1, .int 1, .int 2, .int 4]) (.int q) = .ok (.int s) ∧ 1 ≤ s ∧ s ≤ 4 := by
    have : q = 0 ∨ q = 1 ∨ q = 2 ∨ q = 3 := by omega
    rcases this with rfl | rfl | rfl | rfl
    · exact ⟨1, by kernel_rfl, by decide, by decide⟩
    · exact ⟨1, by kernel_rfl, by decide, by decide⟩
    · exact ⟨2, by kernel_rfl, by decide, by decide⟩
    · exact ⟨4, by kernel_rfl, by decide, by decide⟩
  obtain ⟨s, s1, s2, s3⟩ := hq
  obtain ⟨p, e1, e2⟩ := low_frac (t := r - 8) (b := s) (T := 99) (B := 4) (by omega) ⟨s2, s3⟩ (by decide)
  refine ⟨p, ls2, ?_, k2, e2⟩
  have h4' : 4 ≤ sizeLine := sz (by decide)
  unfold ph__law_place b__law_place
  refine runM_at (n := 1) (m := 1) rfl (r := .ok (.rt p, [.own ls2])) ?_ rfl
  show vRet _ [.own ls] = _
  simp only [vLst, vAppM, h1, k1, e_sub, s1, e1, h4', List.getElem?_cons_zero, List.set_cons_zero, DL.runP, DL.runN, DL.startD, List.map, List.length, List.replicate, List.append_nil, List.cons_append, List.nil_append, DL.e_bo, DL.e_be, DL.e_bb, DL.e_ao, DL.e_ae, DL.e_no, DL.e_nb, DL.e_cd, DL.e_cn, DL.e_ct, DL.e_co, DL.e_ce, DL.e_op, DL.e_if, DL.e_seq, DL.vOr, DL.vAnd, DL.vNot, DL.vTest, DL.vIsi, DL.vCall, DL.vCons, DL.vNil, DL.vConst, DL.vRet, DL.vNext, DL.vApp, DL.vNeg, DL.vChain, DL.vAndV, DL.vOrV, DL.vNotV, DL.vIf, ite_true, ite_false, if_true, if_false, Nat.reduceAdd, Nat.reduceSub, Nat.reduceEqDiff, reduceIte, Bool.true_and, Bool.and_true, Bool.not_true, Bool.not_false, Bool.false_eq_true, DL.endP, DL.endN, DL.cz2, DL.cz3, DL.cz4, DL.cz5, DL.cz6, DL.cz7, DL.cz8, DL.cz9, Int.natCast_add, Int.natCast_zero, Int.natCast_one, decide_true, decide_false, eq_self, not_true, not_false_eq_true, Bool.not_eq_true, DL.e_len_t, DL.e_len_l, DL.e_eq_ii, DL.e_ne_ii, DL.e_lt_ii, DL.e_le_ii, DL.e_gt_ii, DL.e_ge_ii, DL.e_ix_t0, DL.e_ix_t1, DL.e_ix_t2, DL.e_ix_t3, DL.e_ix_t4, DL.e_gcd, DL.p_none, DL.p_bool, DL.p_int, DL.p_str, DL.p_list, DL.p_tuple, DL.i_int_none, DL.i_int_bool, DL.i_int_int, DL.i_int_str, DL.i_int_list, DL.i_int_tuple, DL.i_bool_none, DL.i_bool_bool, DL.i_bool_int, DL.i_bool_str, DL.i_bool_list, DL.i_bool_tuple, DL.i_str_none, DL.i_str_bool, DL.i_str_int, DL.i_str_str, DL.i_str_list, DL.i_str_tuple, DL.i_tuple_none, DL.i_tuple_bool, DL.i_tuple_int, DL.i_tuple_str, DL.i_tuple_list, DL.i_tuple_tuple, DL.i_list_none, DL.i_list_bool, DL.i_list_int, DL.i_list_str, DL.i_list_list, DL.i_list_tuple, DL.e_v0, DL.e_t0, DL.e_s0_0, DL.e_s0_1, DL.e_s0_2, DL.e_v1, DL.e_t1, DL.e_s1_0, DL.e_s1_1, DL.e_s1_2, DL.e_s1_3, DL.e_v2, DL.e_t2, DL.e_s2_0, DL.e_s2_1, DL.e_s2_2, DL.e_s2_3, DL.e_v3, DL.e_t3, DL.e_s3_0, DL.e_s3_1, DL.e_s3_2, DL.e_s3_3, DL.e_v4, DL.e_t4, DL.e_s4_0, DL.e_s4_1, DL.e_s4_2, DL.e_s4_3, DL.e_v5, DL.e_t5, DL.e_s5_0, DL.e_s5_1, DL.e_s5_2, DL.e_s5_3, DL.e_v6, DL.e_t6, DL.e_s6_0, DL.e_s6_1, DL.e_s6_2, DL.e_s6_3, DL.e_v7, DL.e_t7, DL.e_s7_0, DL.e_s7_1, DL.e_s7_2, DL.e_s7_3]
end Vw
set_option linter.all false
set_option maxRecDepth 100000
set_option maxHeartbeats 1000000
namespace DL
open PySem PySem.Spec L2
theorem comp_I {wi : EvA} {g : PyData → DSt → Res DSt} {t : EvT} {f : EvE} {vs : List Nat} {δ δ1 : DSt} {ds : List PyData} (I : DSt → Prop) (O : PyData → Option PyData → Prop) (hf : freeOf δ vs = true) (hi : wi δ = .ok (ds, δ1)) (hf1 : freeOf δ1 vs = true) (hl : ds.length ≤ sizeLine) (hI : I (wipeD δ1 vs))
    (h : ∀ d ∈ ds, TurnI g t f vs I O d) : ∃ (os : List (Option PyData)) (δ' : DSt), vComp wi g t f vs δ = .ok (.list (os.filterMap id), backD δ1 δ' vs) ∧ os.length = ds.length ∧ (∀ (i : Nat) (d : PyData) (o : Option PyData), ds[i]? = some d → os[i]? = some o → O d o) ∧ I δ' := by
  obtain ⟨os, δ', k1, k2, k3, k4, _⟩ := lcL_inv ds δ1 hl hI h
  refine ⟨os, δ', ?_, k2, k3, k4⟩
  unfold vComp vLcA
  rw [if_pos hf, hi, e_bo, if_pos hf1, k1]
  rfl
def subs {α : Type} : List α → List (List α)
  | [] => [[]]
  | a :: r => subs r ++ (subs r).map (a :: ·)
theorem subs_of {α : Type} : ∀ (ds : List α) (os : List (Option α)), os.length = ds.length → (∀ (i : Nat) (d : α) (o : Option α), ds[i]? = some d → os[i]? = some o → o = none ∨ o = some d) → os.filterMap id ∈ subs ds
  | [], [], _, _ => by simp [subs]
  | [], _ :: _, h, _ => by simp at h
  | _ :: _, [], h, _ => by simp at h
  | d :: ds, o :: os, hl, h => by
    have ih := subs_of ds os (by simpa using hl) fun i d' o' h1 h2 => h (i + 1) d' o' (by simpa using h1) (by simpa using h2)
    unfold subs
    rcases h 0 d o rfl rfl with rfl | rfl
    · exact List.mem_append.mpr (.inl ih)
    · exact List.mem_append.mpr (.inr (List.mem_map.mpr ⟨_, ih, rfl⟩))
end DL
namespace Vw
open PySem PySem.Spec L2 DL
def okB : Res PyData → Bool
  | .ok (.bool true) => true
  | _ => false
theorem okB_eq {r : Res PyData} (h : okB r = true) : r = .ok (.bool true) := by
  unfold okB at h
  split at h
  · rfl
  · cases h
def chkM (k : Str) (S : List PyData) : Bool := match gJoin "" [.list S] with
  | .ok (.str m) => (match gNe (.str m) (.str "") with
    | .ok (.bool b) => (!b) || okB (ph_is_marks [.str m, .str k])
    | _ => false)
  | _ => false
def chkK (k : Str) : Bool := (subs (signs k)).all (chkM k) && (signs k).all (fun d => okB (ph_is_marks [d, .str k])) && decide (k.length ≤ 10)
theorem marks_all : wordK.all chkK = true := by kernel_rfl
/-- marks of a kind, told well -/
def Mk (k : Str) (d : PyData) : Prop := ∃ m, d = .str m ∧ ph_is_marks [.str m, .str k] = .ok (.bool true)
theorem m_some_marks {ls : List PyData} (h : Dice ls) {k : Str} (hk : k ∈ wordK) : ∃ d ls', ph__law_some_marks ls [.str k] = .ok (d, ls') ∧ Dice ls' ∧ Mk k d := by
  have hc := List.all_eq_true.mp marks_all k hk
  unfold chkK at hc
  rw [Bool.and_eq_true, Bool.and_eq_true, decide_eq_true_eq] at hc
  obtain ⟨⟨c1, c2⟩, c3⟩ := hc
  have hlen : (signs k).length = k.length := by unfold signs Str.length; rw [List.length_map, Array.length_toList]
  have hcp := comp_I (wi := vItems (vVar 1)) (g := wName 3) (t := vTest (vOp gEq (vAppM 0 ph__law_roll (vCons (vConst (.int 2)) vNil)) (vConst (.int 0)))) (f := vVar 3) (vs := [3])
    (δ := [.own ls, .d (.str k), .no, .no]) (δ1 := [.own ls, .d (.str k), .no, .no]) (ds := signs k)
    (fun δ => ∃ l, Dice l ∧ δ = [.own l, .d (.str k), .no, .no]) (fun d o => o = none ∨ o = some d) rfl rfl rfl (by rw [hlen, sizeLine_eq]; omega) ⟨ls, h, rfl⟩ (fun d _ δ ⟨l, hl, e⟩ => by
      rw [e]
      obtain ⟨q, l', k1, k2, k3, k4⟩ := roll' hl 2 (by decide)
      refine ⟨[.own l, .d (.str k), .no, .d d], rfl, decide (q = 0), [.own l', .d (.str k), .no, .d d], ?_, ?_⟩
      · simp only [vAppM, k1, List.getElem?_cons_zero, List.set_cons_zero, DL.runP, DL.runN, DL.startD, List.map, List.length, List.replicate, List.append_nil, List.cons_append, List.nil_append, DL.e_bo, DL.e_be, DL.e_bb, DL.e_ao, DL.e_ae, DL.e_no, DL.e_nb, DL.e_cd, DL.e_cn, DL.e_ct, DL.e_co, DL.e_ce, DL.e_op, DL.e_if, DL.e_seq, DL.vOr, DL.vAnd, DL.vNot, DL.vTest, DL.vIsi, DL.vCall, DL.vCons, DL.vNil, DL.vConst, DL.vRet, DL.vNext, DL.vApp, DL.vNeg, DL.vChain, DL.vAndV, DL.vOrV, DL.vNotV, DL.vIf, ite_true, ite_false, if_true, if_false, Nat.reduceAdd, Nat.reduceSub, Nat.reduceEqDiff, reduceIte, Bool.true_and, Bool.and_true, Bool.not_true, Bool.not_false, Bool.false_eq_true, DL.endP, DL.endN, DL.cz2, DL.cz3, DL.cz4, DL.cz5, DL.cz6, DL.cz7, DL.cz8, DL.cz9, Int.natCast_add, Int.natCast_zero, Int.natCast_one, decide_true, decide_false, eq_self, not_true, not_false_eq_true, Bool.not_eq_true, DL.e_len_t, DL.e_len_l, DL.e_eq_ii, DL.e_ne_ii, DL.e_lt_ii, DL.e_le_ii, DL.e_gt_ii, DL.e_ge_ii, DL.e_ix_t0, DL.e_ix_t1, DL.e_ix_t2, DL.e_ix_t3, DL.e_ix_t4, DL.e_gcd, DL.p_none, DL.p_bool, DL.p_int, DL.p_str, DL.p_list, DL.p_tuple, DL.i_int_none, DL.i_int_bool, DL.i_int_int, DL.i_int_str, DL.i_int_list, DL.i_int_tuple, DL.i_bool_none, DL.i_bool_bool, DL.i_bool_int, DL.i_bool_str, DL.i_bool_list, DL.i_bool_tuple, DL.i_str_none, DL.i_str_bool, DL.i_str_int, DL.i_str_str, DL.i_str_list, DL.i_str_tuple, DL.i_tuple_none, DL.i_tuple_bool, DL.i_tuple_int, DL.i_tuple_str, DL.i_tuple_list, DL.i_tuple_tuple, DL.i_list_none, DL.i_list_bool, DL.i_list_int, DL.i_list_str, DL.i_list_list, DL.i_list_tuple, DL.e_v0, DL.e_t0, DL.e_s0_0, DL.e_s0_1, DL.e_s0_2, DL.e_v1, DL.e_t1, DL.e_s1_0, DL.e_s1_1, DL.e_s1_2, DL.e_s1_3, DL.e_v2, DL.e_t2, DL.e_s2_0, DL.e_s2_1, DL.e_s2_2, DL.e_s2_3, DL.e_v3, DL.e_t3, DL.e_s3_0, DL.e_s3_1, DL.e_s3_2, DL.e_s3_3, DL.e_v4, DL.e_t4, DL.e_s4_0, DL.e_s4_1, DL.e_s4_2, DL.e_s4_3, DL.e_v5, DL.e_t5, DL.e_s5_0, DL.e_s5_1, DL.e_s5_2, DL.e_s5_3, DL.e_v6, DL.e_t6, DL.e_s6_0, DL.e_s6_1, DL.e_s6_2, DL.e_s6_3, DL.e_v7, DL.e_t7, DL.e_s7_0, DL.e_s7_1, DL.e_s7_2, DL.e_s7_3]
      · by_cases hq : q = 0
        · exact .inl ⟨by rw [hq]; rfl, d, [.own l', .d (.str k), .no, .d d], rfl, .inr rfl, l', k2, rfl⟩
        · exact .inr ⟨by rw [decide_eq_false hq], .inl rfl, l', k2, rfl⟩)
  obtain ⟨os, δ', e1, e2, e3, l', hl', rfl⟩ := hcp
  have e1' : _ = Res.ok (PyData.list (os.filterMap id), [Sl.own l', .d (.str k), .no, .no]) := e1
  have hS := List.all_eq_true.mp c1 _ (subs_of _ _ e2 e3)
  unfold chkM at hS
  split at hS
  · rename_i m hj
    split at hS
    · rename_i b hb
      have st : ph__law_some_marks ls [.str k] = endM (vRet (vIf (vTest (vOp gNe (vVar 2) (vConst (.str ("" : Str))))) (vVar 2) (vOp gIx (vVar 1) (vAppM 0 ph__law_roll (vCons (vCall gLen (vCons (vVar 1) vNil)) vNil)))) [Sl.own l', .d (.str k), .d (.str m), .no]) := by
        unfold ph__law_some_marks b__law_some_marks
        simp only [runM, vSet, vM1, e1', hj, DL.runP, DL.runN, DL.startD, List.map, List.length, List.replicate, List.append_nil, List.cons_append, List.nil_append, DL.e_bo, DL.e_be, DL.e_bb, DL.e_ao, DL.e_ae, DL.e_no, DL.e_nb, DL.e_cd, DL.e_cn, DL.e_ct, DL.e_co, DL.e_ce, DL.e_op, DL.e_if, DL.e_seq, DL.vOr, DL.vAnd, DL.vNot, DL.vTest, DL.vIsi, DL.vCall, DL.vCons, DL.vNil, DL.vConst, DL.vRet, DL.vNext, DL.vApp, DL.vNeg, DL.vChain, DL.vAndV, DL.vOrV, DL.vNotV, DL.vIf, ite_true, ite_false, if_true, if_false, Nat.reduceAdd, Nat.reduceSub, Nat.reduceEqDiff, reduceIte, Bool.true_and, Bool.and_true, Bool.not_true, Bool.not_false, Bool.false_eq_true, DL.endP, DL.endN, DL.cz2, DL.cz3, DL.cz4, DL.cz5, DL.cz6, DL.cz7, DL.cz8, DL.cz9, Int.natCast_add, Int.natCast_zero, Int.natCast_one, decide_true, decide_false, eq_self, not_true, not_false_eq_true, Bool.not_eq_true, DL.e_len_t, DL.e_len_l, DL.e_eq_ii, DL.e_ne_ii, DL.e_lt_ii, DL.e_le_ii, DL.e_gt_ii, DL.e_ge_ii, DL.e_ix_t0, DL.e_ix_t1, DL.e_ix_t2, DL.e_ix_t3, DL.e_ix_t4, DL.e_gcd, DL.p_none, DL.p_bool, DL.p_int, DL.p_str, DL.p_list, DL.p_tuple, DL.i_int_none, DL.i_int_bool, DL.i_int_int, DL.i_int_str, DL.i_int_list, DL.i_int_tuple, DL.i_bool_none, DL.i_bool_bool, DL.i_bool_int, DL.i_bool_str, DL.i_bool_list, DL.i_bool_tuple, DL.i_str_none, DL.i_str_bool, DL.i_str_int, DL.i_str_str, DL.i_str_list, DL.i_str_tuple, DL.i_tuple_none, DL.i_tuple_bool, DL.i_tuple_int, DL.i_tuple_str, DL.i_tuple_list, DL.i_tuple_tuple, DL.i_list_none, DL.i_list_bool, DL.i_list_int, DL.i_list_str, DL.i_list_list, DL.i_list_tuple, DL.e_v0, DL.e_t0, DL.e_s0_0, DL.e_s0_1, DL.e_s0_2, DL.e_v1, DL.e_t1, DL.e_s1_0, DL.e_s1_1, DL.e_s1_2, DL.e_s1_3, DL.e_v2, DL.e_t2, DL.e_s2_0, DL.e_s2_1, DL.e_s2_2, DL.e_s2_3, DL.e_v3, DL.e_t3, DL.e_s3_0, DL.e_s3_1, DL.e_s3_2, DL.e_s3_3, DL.e_v4, DL.e_t4, DL.e_s4_0, DL.e_s4_1, DL.e_s4_2, DL.e_s4_3, DL.e_v5, DL.e_t5, DL.e_s5_0, DL.e_s5_1, DL.e_s5_2, DL.e_s5_3, DL.e_v6, DL.e_t6, DL.e_s6_0, DL.e_s6_1, DL.e_s6_2, DL.e_s6_3, DL.e_v7, DL.e_t7, DL.e_s7_0, DL.e_s7_1, DL.e_s7_2, DL.e_s7_3]
      rw [st]
      cases b with
      | true =>
        refine ⟨.str m, l', ?_, hl', m, rfl, okB_eq (by simpa using hS)⟩
        simp only [hb, endM, List.getElem?_cons_zero, DL.runP, DL.runN, DL.startD, List.map, List.length, List.replicate, List.append_nil, List.cons_append, List.nil_append, DL.e_bo, DL.e_be, DL.e_bb, DL.e_ao, DL.e_ae, DL.e_no, DL.e_nb, DL.e_cd, DL.e_cn, DL.e_ct, DL.e_co, DL.e_ce, DL.e_op, DL.e_if, DL.e_seq, DL.vOr, DL.vAnd, DL.vNot, DL.vTest, DL.vIsi, DL.vCall, DL.vCons, DL.vNil, DL.vConst, DL.vRet, DL.vNext, DL.vApp, DL.vNeg, DL.vChain, DL.vAndV, DL.vOrV, DL.vNotV, DL.vIf, ite_true, ite_false, if_true, if_false, Nat.reduceAdd, Nat.reduceSub, Nat.reduceEqDiff, reduceIte, Bool.true_and, Bool.and_true, Bool.not_true, Bool.not_false, Bool.false_eq_true, DL.endP, DL.endN, DL.cz2, DL.cz3, DL.cz4, DL.cz5, DL.cz6, DL.cz7, DL.cz8, DL.cz9, Int.natCast_add, Int.natCast_zero, Int.natCast_one, decide_true, decide_false, eq_self, not_true, not_false_eq_true, Bool.not_eq_true, DL.e_len_t, DL.e_len_l, DL.e_eq_ii, DL.e_ne_ii, DL.e_lt_ii, DL.e_le_ii, DL.e_gt_ii, DL.e_ge_ii, DL.e_ix_t0, DL.e_ix_t1, DL.e_ix_t2, DL.e_ix_t3, DL.e_ix_t4, DL.e_gcd, DL.p_none, DL.p_bool, DL.p_int, DL.p_str, DL.p_list, DL.p_tuple, DL.i_int_none, DL.i_int_bool, DL.i_int_int, DL.i_int_str, DL.i_int_list, DL.i_int_tuple, DL.i_bool_none, DL.i_bool_bool, DL.i_bool_int, DL.i_bool_str, DL.i_bool_list, DL.i_bool_tuple, DL.i_str_none, DL.i_str_bool, DL.i_str_int, DL.i_str_str, DL.i_str_list, DL.i_str_tuple, DL.i_tuple_none, DL.i_tuple_bool, DL.i_tuple_int, DL.i_tuple_str, DL.i_tuple_list, DL.i_tuple_tuple, DL.i_list_none, DL.i_list_bool, DL.i_list_int, DL.i_list_str, DL.i_list_list, DL.i_list_tuple, DL.e_v0, DL.e_t0, DL.e_s0_0, DL.e_s0_1, DL.e_s0_2, DL.e_v1, DL.e_t1, DL.e_s1_0, DL.e_s1_1, DL.e_s1_2, DL.e_s1_3, DL.e_v2, DL.e_t2, DL.e_s2_0, DL.e_s2_1, DL.e_s2_2, DL.e_s2_3, DL.e_v3, DL.e_t3, DL.e_s3_0, DL.e_s3_1, DL.e_s3_2, DL.e_s3_3, DL.e_v4, DL.e_t4, DL.e_s4_0, DL.e_s4_1, DL.e_s4_2, DL.e_s4_3, DL.e_v5, DL.e_t5, DL.e_s5_0, DL.e_s5_1, DL.e_s5_2, DL.e_s5_3, DL.e_v6, DL.e_t6, DL.e_s6_0, DL.e_s6_1, DL.e_s6_2, DL.e_s6_3, DL.e_v7, DL.e_t7, DL.e_s7_0, DL.e_s7_1, DL.e_s7_2, DL.e_s7_3]
      | false =>
        have hpos : 0 < k.length := by
          have := List.all_eq_true.mp (show (wordK.all fun k => decide (0 < k.length)) = true by decide +kernel) k hk
          simpa using this
        obtain ⟨q, l2, k1, k2, k3, k4⟩ := roll' hl' (k.length : Int) (by omega)
        obtain ⟨n, rfl⟩ : ∃ n : Nat, q = n := ⟨q.toNat, by omega⟩
        have hn : n < k.cps.toList.length := by rw [Array.length_toList]; have : k.cps.size = k.length := rfl; omega
        have ix : gIx (.str k) (.int (n : Int)) = .ok (.str ⟨#[k.cps.toList[n]]⟩) := by
          show (if k.length ≤ sizeLine then (match atI k.cps.toList (n : Int) with | some c => Res.ok (PyData.str ⟨#[c]⟩) | none => .bad) else .bad) = _
          rw [if_pos (by rw [sizeLine_eq]; omega), DL.atI_nat, List.getElem?_eq_getElem hn]
        have hm : (PyData.str ⟨#[k.cps.toList[n]]⟩) ∈ signs k := List.mem_map.mpr ⟨_, List.getElem_mem hn, rfl⟩
        have lk : gLen [.str k] = .ok (.int k.length) := if_pos (by rw [sizeLine_eq]; omega)
        refine ⟨.str ⟨#[k.cps.toList[n]]⟩, l2, ?_, k2, _, rfl, okB_eq (List.all_eq_true.mp c2 _ hm)⟩
        simp only [hb, endM, List.getElem?_cons_zero, vAppM, lk, k1, ix, List.set_cons_zero, DL.runP, DL.runN, DL.startD, List.map, List.length, List.replicate, List.append_nil, List.cons_append, List.nil_append, DL.e_bo, DL.e_be, DL.e_bb, DL.e_ao, DL.e_ae, DL.e_no, DL.e_nb, DL.e_cd, DL.e_cn, DL.e_ct, DL.e_co, DL.e_ce, DL.e_op, DL.e_if, DL.e_seq, DL.vOr, DL.vAnd, DL.vNot, DL.vTest, DL.vIsi, DL.vCall, DL.vCons, DL.vNil, DL.vConst, DL.vRet, DL.vNext, DL.vApp, DL.vNeg, DL.vChain, DL.vAndV, DL.vOrV, DL.vNotV, DL.vIf, ite_true, ite_false, if_true, if_false, Nat.reduceAdd, Nat.reduceSub, Nat.reduceEqDiff, reduceIte, Bool.true_and, Bool.and_true, Bool.not_true, Bool.not_false, Bool.false_eq_true, DL.endP, DL.endN, DL.cz2, DL.cz3, DL.cz4, DL.cz5, DL.cz6, DL.cz7, DL.cz8, DL.cz9, Int.natCast_add, Int.natCast_zero, Int.natCast_one, decide_true, decide_false, eq_self, not_true, not_false_eq_true, Bool.not_eq_true, DL.e_len_t, DL.e_len_l, DL.e_eq_ii, DL.e_ne_ii, DL.e_lt_ii, DL.e_le_ii, DL.e_gt_ii, DL.e_ge_ii, DL.e_ix_t0, DL.e_ix_t1, DL.e_ix_t2, DL.e_ix_t3, DL.e_ix_t4, DL.e_gcd, DL.p_none, DL.p_bool, DL.p_int, DL.p_str, DL.p_list, DL.p_tuple, DL.i_int_none, DL.i_int_bool, DL.i_int_int, DL.i_int_str, DL.i_int_list, DL.i_int_tuple, DL.i_bool_none, DL.i_bool_bool, DL.i_bool_int, DL.i_bool_str, DL.i_bool_list, DL.i_bool_tuple, DL.i_str_none, DL.i_str_bool, DL.i_str_int, DL.i_str_str, DL.i_str_list, DL.i_str_tuple, DL.i_tuple_none, DL.i_tuple_bool, DL.i_tuple_int, DL.i_tuple_str, DL.i_tuple_list, DL.i_tuple_tuple, DL.i_list_none, DL.i_list_bool, DL.i_list_int, DL.i_list_str, DL.i_list_list, DL.i_list_tuple, DL.e_v0, DL.e_t0, DL.e_s0_0, DL.e_s0_1, DL.e_s0_2, DL.e_v1, DL.e_t1, DL.e_s1_0, DL.e_s1_1, DL.e_s1_2, DL.e_s1_3, DL.e_v2, DL.e_t2, DL.e_s2_0, DL.e_s2_1, DL.e_s2_2, DL.e_s2_3, DL.e_v3, DL.e_t3, DL.e_s3_0, DL.e_s3_1, DL.e_s3_2, DL.e_s3_3, DL.e_v4, DL.e_t4, DL.e_s4_0, DL.e_s4_1, DL.e_s4_2, DL.e_s4_3, DL.e_v5, DL.e_t5, DL.e_s5_0, DL.e_s5_1, DL.e_s5_2, DL.e_s5_3, DL.e_v6, DL.e_t6, DL.e_s6_0, DL.e_s6_1, DL.e_s6_2, DL.e_s6_3, DL.e_v7, DL.e_t7, DL.e_s7_0, DL.e_s7_1, DL.e_s7_2, DL.e_s7_3]
    · cases hS
  · cases hS
end Vw
set_option linter.all false
set_option maxRecDepth 100000
set_option maxHeartbeats 1000000
namespace Vw
open PySem PySem.Spec L2 DL
/-- a leaf's votes -/
def LeafV (ans : Int) (vs : List PyData) : Prop := ∃ ns : List Int, vs = ns.map .int ∧ (ns.length : Int) = ans ∧ ∀ i ∈ ns, -9 ≤ i ∧ i ≤ 9
/-- a bound beside its word and its kind -/
def Bd (k w b : PyData) : Prop := (k = .str "0" ∧ w = .str "below" ∧ Frac 99 4 b) ∨ (∃ s ∈ wordK, k = .str s ∧ w = .str "among" ∧ Mk s b)
inductive TreeV (ks : List PyData) (ans : Int) : Nat → PyData → Prop
  | leafC (vs : List PyData) (h : LeafV ans vs) : TreeV ks ans 1 (.tuple [.str "leaf", .tuple vs])
  | testC (w k b x y : PyData) (p : Int) (c d : Nat) (h0 : 0 ≤ p) (h1 : p < ks.length) (hk : gIx (.tuple ks) (.int p) = .ok k) (hb : Bd k w b) (hx : TreeV ks ans c x) (hy : TreeV ks ans d y) : TreeV ks ans (c + d) (.tuple [w, .int p, b, x, y])
theorem ints_of : ∀ (ys : List PyData), (∀ y ∈ ys, ∃ i : Int, y = .int i ∧ -9 ≤ i ∧ i ≤ 9) → ∃ ns : List Int, ys = ns.map .int ∧ ∀ i ∈ ns, -9 ≤ i ∧ i ≤ 9
  | [], _ => ⟨[], rfl, fun i h => by simp at h⟩
  | y :: ys, h => by
    obtain ⟨i, rfl, h1⟩ := h y List.mem_cons_self
    obtain ⟨ns, rfl, h2⟩ := ints_of ys fun z hz => h z (List.mem_cons_of_mem _ hz)
    refine ⟨i :: ns, rfl, fun j hj => ?_⟩
    rcases List.mem_cons.mp hj with rfl | hj
    · exact h1
    · exact h2 j hj
theorem rng {δ δ' : DSt} {f : EvE} {j : Int} (h : f δ = .ok (.int j, δ')) (h1 : 0 ≤ j) (h2 : j ≤ 1000) : vRange f δ = .ok (rangeD j.toNat, δ') := by
  unfold vRange
  rw [h, e_bo]
  exact if_pos (by omega)
abbrev tS (l : List PyData) (ks : List PyData) (ans most : Int) (a b c d : Sl) : DSt := [.own l, .d (.tuple ks), .d (.int ans), .d (.int most), a, b, c, d, .no]
theorem leaf_at {ks l : List PyData} {ans most : Int} (h : Dice l) (ha : ans = 2 ∨ ans = 3) : ∃ vs l', (vRet (vTup (vCons (vConst (.str ("leaf" : Str))) (vCons (vCall gTuple (vCons (vComp (vRange (vVar 2)) (wName 8) vTrue (vOp gSub (vAppM 0 ph__law_roll (vCons (vConst (.int 7)) vNil)) (vConst (.int 2))) [8]) vNil)) vNil)))) (tS l ks ans most .no .no .no .no) = .ok (.rt (.tuple [.str "leaf", .tuple vs]), tS l' ks ans most .no .no .no .no) ∧ Dice l' ∧ LeafV ans vs := by
  obtain ⟨ys, δ', c1, c2, c3, l', hl', rfl⟩ := comp_T (wi := vRange (vVar 2)) (g := wName 8) (f := vOp gSub (vAppM 0 ph__law_roll (vCons (vConst (.int 7)) vNil)) (vConst (.int 2))) (vs := [8])
    (δ := tS l ks ans most .no .no .no .no) (δ1 := tS l ks ans most .no .no .no .no) (ds := rangeD ans.toNat)
    (fun δ => ∃ l', Dice l' ∧ δ = tS l' ks ans most .no .no .no .no) (fun _ y => ∃ i : Int, y = .int i ∧ -9 ≤ i ∧ i ≤ 9) rfl
    (rng rfl (by omega) (by omega)) rfl (range_le (by omega)) ⟨l, h, rfl⟩ (fun d _ δ ⟨l1, hl, e⟩ => by
      subst e
      obtain ⟨q, l', k1, k2, k3, k4⟩ := roll' hl 7 (by decide)
      refine ⟨[.own l1, .d (.tuple ks), .d (.int ans), .d (.int most), .no, .no, .no, .no, .d d], rfl, .int (q - 2), [.own l', .d (.tuple ks), .d (.int ans), .d (.int most), .no, .no, .no, .no, .d d], ?_, ⟨q - 2, rfl, by omega, by omega⟩, l', k2, rfl⟩
      simp only [vAppM, k1, e_sub, List.getElem?_cons_zero, List.set_cons_zero, DL.runP, DL.runN, DL.startD, List.map, List.length, List.replicate, List.append_nil, List.cons_append, List.nil_append, DL.e_bo, DL.e_be, DL.e_bb, DL.e_ao, DL.e_ae, DL.e_no, DL.e_nb, DL.e_cd, DL.e_cn, DL.e_ct, DL.e_co, DL.e_ce, DL.e_op, DL.e_if, DL.e_seq, DL.vOr, DL.vAnd, DL.vNot, DL.vTest, DL.vIsi, DL.vCall, DL.vCons, DL.vNil, DL.vConst, DL.vRet, DL.vNext, DL.vApp, DL.vNeg, DL.vChain, DL.vAndV, DL.vOrV, DL.vNotV, DL.vIf, ite_true, ite_false, if_true, if_false, Nat.reduceAdd, Nat.reduceSub, Nat.reduceEqDiff, reduceIte, Bool.true_and, Bool.and_true, Bool.not_true, Bool.not_false, Bool.false_eq_true, DL.endP, DL.endN, DL.cz2, DL.cz3, DL.cz4, DL.cz5, DL.cz6, DL.cz7, DL.cz8, DL.cz9, Int.natCast_add, Int.natCast_zero, Int.natCast_one, decide_true, decide_false, eq_self, not_true, not_false_eq_true, Bool.not_eq_true, DL.e_len_t, DL.e_len_l, DL.e_eq_ii, DL.e_ne_ii, DL.e_lt_ii, DL.e_le_ii, DL.e_gt_ii, DL.e_ge_ii, DL.e_ix_t0, DL.e_ix_t1, DL.e_ix_t2, DL.e_ix_t3, DL.e_ix_t4, DL.e_gcd, DL.p_none, DL.p_bool, DL.p_int, DL.p_str, DL.p_list, DL.p_tuple, DL.i_int_none, DL.i_int_bool, DL.i_int_int, DL.i_int_str, DL.i_int_list, DL.i_int_tuple, DL.i_bool_none, DL.i_bool_bool, DL.i_bool_int, DL.i_bool_str, DL.i_bool_list, DL.i_bool_tuple, DL.i_str_none, DL.i_str_bool, DL.i_str_int, DL.i_str_str, DL.i_str_list, DL.i_str_tuple, DL.i_tuple_none, DL.i_tuple_bool, DL.i_tuple_int, DL.i_tuple_str, DL.i_tuple_list, DL.i_tuple_tuple, DL.i_list_none, DL.i_list_bool, DL.i_list_int, DL.i_list_str, DL.i_list_list, DL.i_list_tuple, DL.e_v0, DL.e_t0, DL.e_s0_0, DL.e_s0_1, DL.e_s0_2, DL.e_v1, DL.e_t1, DL.e_s1_0, DL.e_s1_1, DL.e_s1_2, DL.e_s1_3, DL.e_v2, DL.e_t2, DL.e_s2_0, DL.e_s2_1, DL.e_s2_2, DL.e_s2_3, DL.e_v3, DL.e_t3, DL.e_s3_0, DL.e_s3_1, DL.e_s3_2, DL.e_s3_3, DL.e_v4, DL.e_t4, DL.e_s4_0, DL.e_s4_1, DL.e_s4_2, DL.e_s4_3, DL.e_v5, DL.e_t5, DL.e_s5_0, DL.e_s5_1, DL.e_s5_2, DL.e_s5_3, DL.e_v6, DL.e_t6, DL.e_s6_0, DL.e_s6_1, DL.e_s6_2, DL.e_s6_3, DL.e_v7, DL.e_t7, DL.e_s7_0, DL.e_s7_1, DL.e_s7_2, DL.e_s7_3])
  obtain ⟨ns, rfl, hns⟩ := ints_of ys fun v hv => (at_mem c2 c3 v hv).elim fun _ z => z.2
  refine ⟨_, l', ?_, hl', ns, rfl, ?_, hns⟩
  · have c1' : _ = Res.ok (PyData.list (ns.map .int), tS l' ks ans most .no .no .no .no) := c1
    have g1 : gTuple [.list (ns.map .int)] = .ok (.tuple (ns.map .int)) := rfl
    generalize ns.map PyData.int = vs at c1' g1
    unfold tS at c1' ⊢
    have s2 : 2 ≤ sizeLine := sz (by decide)
    simp only [vTup, c1', g1, s2, DL.runP, DL.runN, DL.startD, List.map, List.length, List.replicate, List.append_nil, List.cons_append, List.nil_append, DL.e_bo, DL.e_be, DL.e_bb, DL.e_ao, DL.e_ae, DL.e_no, DL.e_nb, DL.e_cd, DL.e_cn, DL.e_ct, DL.e_co, DL.e_ce, DL.e_op, DL.e_if, DL.e_seq, DL.vOr, DL.vAnd, DL.vNot, DL.vTest, DL.vIsi, DL.vCall, DL.vCons, DL.vNil, DL.vConst, DL.vRet, DL.vNext, DL.vApp, DL.vNeg, DL.vChain, DL.vAndV, DL.vOrV, DL.vNotV, DL.vIf, ite_true, ite_false, if_true, if_false, Nat.reduceAdd, Nat.reduceSub, Nat.reduceEqDiff, reduceIte, Bool.true_and, Bool.and_true, Bool.not_true, Bool.not_false, Bool.false_eq_true, DL.endP, DL.endN, DL.cz2, DL.cz3, DL.cz4, DL.cz5, DL.cz6, DL.cz7, DL.cz8, DL.cz9, Int.natCast_add, Int.natCast_zero, Int.natCast_one, decide_true, decide_false, eq_self, not_true, not_false_eq_true, Bool.not_eq_true, DL.e_len_t, DL.e_len_l, DL.e_eq_ii, DL.e_ne_ii, DL.e_lt_ii, DL.e_le_ii, DL.e_gt_ii, DL.e_ge_ii, DL.e_ix_t0, DL.e_ix_t1, DL.e_ix_t2, DL.e_ix_t3, DL.e_ix_t4, DL.e_gcd, DL.p_none, DL.p_bool, DL.p_int, DL.p_str, DL.p_list, DL.p_tuple, DL.i_int_none, DL.i_int_bool, DL.i_int_int, DL.i_int_str, DL.i_int_list, DL.i_int_tuple, DL.i_bool_none, DL.i_bool_bool, DL.i_bool_int, DL.i_bool_str, DL.i_bool_list, DL.i_bool_tuple, DL.i_str_none, DL.i_str_bool, DL.i_str_int, DL.i_str_str, DL.i_str_list, DL.i_str_tuple, DL.i_tuple_none, DL.i_tuple_bool, DL.i_tuple_int, DL.i_tuple_str, DL.i_tuple_list, DL.i_tuple_tuple, DL.i_list_none, DL.i_list_bool, DL.i_list_int, DL.i_list_str, DL.i_list_list, DL.i_list_tuple, DL.e_v0, DL.e_t0, DL.e_s0_0, DL.e_s0_1, DL.e_s0_2, DL.e_v1, DL.e_t1, DL.e_s1_0, DL.e_s1_1, DL.e_s1_2, DL.e_s1_3, DL.e_v2, DL.e_t2, DL.e_s2_0, DL.e_s2_1, DL.e_s2_2, DL.e_s2_3, DL.e_v3, DL.e_t3, DL.e_s3_0, DL.e_s3_1, DL.e_s3_2, DL.e_s3_3, DL.e_v4, DL.e_t4, DL.e_s4_0, DL.e_s4_1, DL.e_s4_2, DL.e_s4_3, DL.e_v5, DL.e_t5, DL.e_s5_0, DL.e_s5_1, DL.e_s5_2, DL.e_s5_3, DL.e_v6, DL.e_t6, DL.e_s6_0, DL.e_s6_1, DL.e_s6_2, DL.e_s6_3, DL.e_v7, DL.e_t7, DL.e_s7_0, DL.e_s7_1, DL.e_s7_2, DL.e_s7_3]
  · rw [rangeD_len, List.length_map] at c2
    omega
theorem kind_at {ks : List PyData} (hks : ∀ k ∈ ks, k ∈ sevenK) {p : Int} (h0 : 0 ≤ p) (h1 : p < ks.length) : ∃ k, gIx (.tuple ks) (.int p) = .ok k ∧ (k = .str "0" ∨ ∃ s ∈ wordK, k = .str s) := by
  obtain ⟨n, rfl⟩ : ∃ n : Nat, p = n := ⟨p.toNat, by omega⟩
  have hn : n < ks.length := by omega
  exact ⟨ks[n], e_ix_t (List.getElem?_eq_getElem hn), kind_cases (hks _ (List.getElem_mem hn))⟩
theorem tree_succ (n : Nat) : ph__law_tree (n + 1) = runM 9 4 (b__law_tree (ph__law_tree n)) := rfl
theorem tree_leaf {n : Nat} {ls ks vs l' : List PyData} {ans most : Int} (h : b__law_tree (ph__law_tree n) (tS ls ks ans most .no .no .no .no) = .ok (.rt (.tuple [.str "leaf", .tuple vs]), tS l' ks ans most .no .no .no .no)) : ph__law_tree (n + 1) ls [.tuple ks, .int ans, .int most] = .ok (.tuple [.str "leaf", .tuple vs], l') := by
  rw [tree_succ]
  exact runM_at rfl h rfl
theorem m_tree {ks : List PyData} {ans : Int} (hks : ∀ k ∈ ks, k ∈ sevenK) (hk1 : 1 ≤ ks.length) (hk3 : ks.length ≤ 3) (ha : ans = 2 ∨ ans = 3) : ∀ (n : Nat) (most : Int) (ls : List PyData), 1 ≤ most → most ≤ n → n ≤ 9 → Dice ls →
    ∃ t ls' c, ph__law_tree n ls [.tuple ks, .int ans, .int most] = .ok (t, ls') ∧ Dice ls' ∧ TreeV ks ans c t ∧ 1 ≤ c ∧ (c : Int) ≤ most
  | 0, most, ls, h1, h2, _, _ => by omega
  | n + 1, most, ls, h1, h2, h9, hd => by
    by_cases c1 : most < 2
    · obtain ⟨vs, l', e1, e2, e3⟩ := leaf_at (ks := ks) (most := most) hd ha
      refine ⟨_, l', 1, tree_leaf (n := n) ?_, e2, .leafC vs e3, by omega, by omega⟩
      refine seq_rt (if_t (δ1 := tS ls ks ans most .no .no .no .no) ?_ e1)
      have t1 : decide (most < 2) = true := decide_eq_true c1
      unfold tS
      simp only [t1, DL.runP, DL.runN, DL.startD, List.map, List.length, List.replicate, List.append_nil, List.cons_append, List.nil_append, DL.e_bo, DL.e_be, DL.e_bb, DL.e_ao, DL.e_ae, DL.e_no, DL.e_nb, DL.e_cd, DL.e_cn, DL.e_ct, DL.e_co, DL.e_ce, DL.e_op, DL.e_if, DL.e_seq, DL.vOr, DL.vAnd, DL.vNot, DL.vTest, DL.vIsi, DL.vCall, DL.vCons, DL.vNil, DL.vConst, DL.vRet, DL.vNext, DL.vApp, DL.vNeg, DL.vChain, DL.vAndV, DL.vOrV, DL.vNotV, DL.vIf, ite_true, ite_false, if_true, if_false, Nat.reduceAdd, Nat.reduceSub, Nat.reduceEqDiff, reduceIte, Bool.true_and, Bool.and_true, Bool.not_true, Bool.not_false, Bool.false_eq_true, DL.endP, DL.endN, DL.cz2, DL.cz3, DL.cz4, DL.cz5, DL.cz6, DL.cz7, DL.cz8, DL.cz9, Int.natCast_add, Int.natCast_zero, Int.natCast_one, decide_true, decide_false, eq_self, not_true, not_false_eq_true, Bool.not_eq_true, DL.e_len_t, DL.e_len_l, DL.e_eq_ii, DL.e_ne_ii, DL.e_lt_ii, DL.e_le_ii, DL.e_gt_ii, DL.e_ge_ii, DL.e_ix_t0, DL.e_ix_t1, DL.e_ix_t2, DL.e_ix_t3, DL.e_ix_t4, DL.e_gcd, DL.p_none, DL.p_bool, DL.p_int, DL.p_str, DL.p_list, DL.p_tuple, DL.i_int_none, DL.i_int_bool, DL.i_int_int, DL.i_int_str, DL.i_int_list, DL.i_int_tuple, DL.i_bool_none, DL.i_bool_bool, DL.i_bool_int, DL.i_bool_str, DL.i_bool_list, DL.i_bool_tuple, DL.i_str_none, DL.i_str_bool, DL.i_str_int, DL.i_str_str, DL.i_str_list, DL.i_str_tuple, DL.i_tuple_none, DL.i_tuple_bool, DL.i_tuple_int, DL.i_tuple_str, DL.i_tuple_list, DL.i_tuple_tuple, DL.i_list_none, DL.i_list_bool, DL.i_list_int, DL.i_list_str, DL.i_list_list, DL.i_list_tuple, DL.e_v0, DL.e_t0, DL.e_s0_0, DL.e_s0_1, DL.e_s0_2, DL.e_v1, DL.e_t1, DL.e_s1_0, DL.e_s1_1, DL.e_s1_2, DL.e_s1_3, DL.e_v2, DL.e_t2, DL.e_s2_0, DL.e_s2_1, DL.e_s2_2, DL.e_s2_3, DL.e_v3, DL.e_t3, DL.e_s3_0, DL.e_s3_1, DL.e_s3_2, DL.e_s3_3, DL.e_v4, DL.e_t4, DL.e_s4_0, DL.e_s4_1, DL.e_s4_2, DL.e_s4_3, DL.e_v5, DL.e_t5, DL.e_s5_0, DL.e_s5_1, DL.e_s5_2, DL.e_s5_3, DL.e_v6, DL.e_t6, DL.e_s6_0, DL.e_s6_1, DL.e_s6_2, DL.e_s6_3, DL.e_v7, DL.e_t7, DL.e_s7_0, DL.e_s7_1, DL.e_s7_2, DL.e_s7_3]
    · have t1 : decide (most < 2) = false := decide_eq_false c1
      obtain ⟨q, l1, k1, k2, k3, k4⟩ := roll' hd 5 (by decide)
      by_cases c2 : q = 0
      · obtain ⟨vs, l', e1, e2, e3⟩ := leaf_at (ks := ks) (most := most) k2 ha
        refine ⟨_, l', 1, tree_leaf (n := n) ?_, e2, .leafC vs e3, by omega, by omega⟩
        refine seq_rt (if_t (δ1 := tS l1 ks ans most .no .no .no .no) ?_ e1)
        have t2 : decide (q = 0) = true := decide_eq_true c2
        unfold tS
        simp only [t1, vAppM, k1, t2, List.getElem?_cons_zero, List.set_cons_zero, DL.runP, DL.runN, DL.startD, List.map, List.length, List.replicate, List.append_nil, List.cons_append, List.nil_append, DL.e_bo, DL.e_be, DL.e_bb, DL.e_ao, DL.e_ae, DL.e_no, DL.e_nb, DL.e_cd, DL.e_cn, DL.e_ct, DL.e_co, DL.e_ce, DL.e_op, DL.e_if, DL.e_seq, DL.vOr, DL.vAnd, DL.vNot, DL.vTest, DL.vIsi, DL.vCall, DL.vCons, DL.vNil, DL.vConst, DL.vRet, DL.vNext, DL.vApp, DL.vNeg, DL.vChain, DL.vAndV, DL.vOrV, DL.vNotV, DL.vIf, ite_true, ite_false, if_true, if_false, Nat.reduceAdd, Nat.reduceSub, Nat.reduceEqDiff, reduceIte, Bool.true_and, Bool.and_true, Bool.not_true, Bool.not_false, Bool.false_eq_true, DL.endP, DL.endN, DL.cz2, DL.cz3, DL.cz4, DL.cz5, DL.cz6, DL.cz7, DL.cz8, DL.cz9, Int.natCast_add, Int.natCast_zero, Int.natCast_one, decide_true, decide_false, eq_self, not_true, not_false_eq_true, Bool.not_eq_true, DL.e_len_t, DL.e_len_l, DL.e_eq_ii, DL.e_ne_ii, DL.e_lt_ii, DL.e_le_ii, DL.e_gt_ii, DL.e_ge_ii, DL.e_ix_t0, DL.e_ix_t1, DL.e_ix_t2, DL.e_ix_t3, DL.e_ix_t4, DL.e_gcd, DL.p_none, DL.p_bool, DL.p_int, DL.p_str, DL.p_list, DL.p_tuple, DL.i_int_none, DL.i_int_bool, DL.i_int_int, DL.i_int_str, DL.i_int_list, DL.i_int_tuple, DL.i_bool_none, DL.i_bool_bool, DL.i_bool_int, DL.i_bool_str, DL.i_bool_list, DL.i_bool_tuple, DL.i_str_none, DL.i_str_bool, DL.i_str_int, DL.i_str_str, DL.i_str_list, DL.i_str_tuple, DL.i_tuple_none, DL.i_tuple_bool, DL.i_tuple_int, DL.i_tuple_str, DL.i_tuple_list, DL.i_tuple_tuple, DL.i_list_none, DL.i_list_bool, DL.i_list_int, DL.i_list_str, DL.i_list_list, DL.i_list_tuple, DL.e_v0, DL.e_t0, DL.e_s0_0, DL.e_s0_1, DL.e_s0_2, DL.e_v1, DL.e_t1, DL.e_s1_0, DL.e_s1_1, DL.e_s1_2, DL.e_s1_3, DL.e_v2, DL.e_t2, DL.e_s2_0, DL.e_s2_1, DL.e_s2_2, DL.e_s2_3, DL.e_v3, DL.e_t3, DL.e_s3_0, DL.e_s3_1, DL.e_s3_2, DL.e_s3_3, DL.e_v4, DL.e_t4, DL.e_s4_0, DL.e_s4_1, DL.e_s4_2, DL.e_s4_3, DL.e_v5, DL.e_t5, DL.e_s5_0, DL.e_s5_1, DL.e_s5_2, DL.e_s5_3, DL.e_v6, DL.e_t6, DL.e_s6_0, DL.e_s6_1, DL.e_s6_2, DL.e_s6_3, DL.e_v7, DL.e_t7, DL.e_s7_0, DL.e_s7_1, DL.e_s7_2, DL.e_s7_3]
      · have t2 : decide (q = 0) = false := decide_eq_false c2
        obtain ⟨p, l2, p1, p2, p3, p4⟩ := roll' k2 (ks.length : Int) (by omega)
        obtain ⟨f, l3, f1, f2, f3, f4⟩ := roll' p2 (most - 1) (by omega)
        obtain ⟨b, l4, b1, b2, b3⟩ := m_place f2
        obtain ⟨k, hk, hc⟩ := kind_at hks p3 p4
        have s3 : 3 ≤ sizeLine := sz (by decide)
        have s5 : 3 + 2 ≤ sizeLine := sz (by decide)
        have s2 : 2 ≤ sizeLine := sz (by decide)
        have mid : ∃ w b' l5, Bd k w b' ∧ Dice l5 ∧ (vIfS (vTest (vOp gNe (vOp gIx (vVar 1) (vVar 4)) (vConst (.str ("0" : Str))))) (vSet 6 (vTup (vCons (vConst (.str ("among" : Str))) (vCons (vVar 4) (vCons (vAppM 0 ph__law_some_marks (vCons (vOp gIx (vVar 1) (vVar 4)) vNil)) vNil))))) vNext) (tS l4 ks ans most (.d (.int p)) (.d (.int (1 + f))) (.d (.tuple [.str "below", .int p, b])) .no) = .ok (.nx, tS l5 ks ans most (.d (.int p)) (.d (.int (1 + f))) (.d (.tuple [w, .int p, b'])) .no) := by
          rcases hc with rfl | ⟨s, hs, rfl⟩
          · refine ⟨.str "below", b, l4, .inl ⟨rfl, rfl, b3⟩, b2, ?_⟩
            have g := ne_zero
            unfold tS
            simp only [hk, g, DL.runP, DL.runN, DL.startD, List.map, List.length, List.replicate, List.append_nil, List.cons_append, List.nil_append, DL.e_bo, DL.e_be, DL.e_bb, DL.e_ao, DL.e_ae, DL.e_no, DL.e_nb, DL.e_cd, DL.e_cn, DL.e_ct, DL.e_co, DL.e_ce, DL.e_op, DL.e_if, DL.e_seq, DL.vOr, DL.vAnd, DL.vNot, DL.vTest, DL.vIsi, DL.vCall, DL.vCons, DL.vNil, DL.vConst, DL.vRet, DL.vNext, DL.vApp, DL.vNeg, DL.vChain, DL.vAndV, DL.vOrV, DL.vNotV, DL.vIf, ite_true, ite_false, if_true, if_false, Nat.reduceAdd, Nat.reduceSub, Nat.reduceEqDiff, reduceIte, Bool.true_and, Bool.and_true, Bool.not_true, Bool.not_false, Bool.false_eq_true, DL.endP, DL.endN, DL.cz2, DL.cz3, DL.cz4, DL.cz5, DL.cz6, DL.cz7, DL.cz8, DL.cz9, Int.natCast_add, Int.natCast_zero, Int.natCast_one, decide_true, decide_false, eq_self, not_true, not_false_eq_true, Bool.not_eq_true, DL.e_len_t, DL.e_len_l, DL.e_eq_ii, DL.e_ne_ii, DL.e_lt_ii, DL.e_le_ii, DL.e_gt_ii, DL.e_ge_ii, DL.e_ix_t0, DL.e_ix_t1, DL.e_ix_t2, DL.e_ix_t3, DL.e_ix_t4, DL.e_gcd, DL.p_none, DL.p_bool, DL.p_int, DL.p_str, DL.p_list, DL.p_tuple, DL.i_int_none, DL.i_int_bool, DL.i_int_int, DL.i_int_str, DL.i_int_list, DL.i_int_tuple, DL.i_bool_none, DL.i_bool_bool, DL.i_bool_int, DL.i_bool_str, DL.i_bool_list, DL.i_bool_tuple, DL.i_str_none, DL.i_str_bool, DL.i_str_int, DL.i_str_str, DL.i_str_list, DL.i_str_tuple, DL.i_tuple_none, DL.i_tuple_bool, DL.i_tuple_int, DL.i_tuple_str, DL.i_tuple_list, DL.i_tuple_tuple, DL.i_list_none, DL.i_list_bool, DL.i_list_int, DL.i_list_str, DL.i_list_list, DL.i_list_tuple, DL.e_v0, DL.e_t0, DL.e_s0_0, DL.e_s0_1, DL.e_s0_2, DL.e_v1, DL.e_t1, DL.e_s1_0, DL.e_s1_1, DL.e_s1_2, DL.e_s1_3, DL.e_v2, DL.e_t2, DL.e_s2_0, DL.e_s2_1, DL.e_s2_2, DL.e_s2_3, DL.e_v3, DL.e_t3, DL.e_s3_0, DL.e_s3_1, DL.e_s3_2, DL.e_s3_3, DL.e_v4, DL.e_t4, DL.e_s4_0, DL.e_s4_1, DL.e_s4_2, DL.e_s4_3, DL.e_v5, DL.e_t5, DL.e_s5_0, DL.e_s5_1, DL.e_s5_2, DL.e_s5_3, DL.e_v6, DL.e_t6, DL.e_s6_0, DL.e_s6_1, DL.e_s6_2, DL.e_s6_3, DL.e_v7, DL.e_t7, DL.e_s7_0, DL.e_s7_1, DL.e_s7_2, DL.e_s7_3]
          · obtain ⟨m, l5, m1, m2, m3⟩ := m_some_marks b2 hs
            refine ⟨.str "among", m, l5, .inr ⟨s, hs, rfl, rfl, m3⟩, m2, ?_⟩
            have g := ne_word s hs
            unfold tS
            simp only [hk, g, vSet, vTup, vAppM, m1, s3, List.getElem?_cons_zero, List.set_cons_zero, DL.runP, DL.runN, DL.startD, List.map, List.length, List.replicate, List.append_nil, List.cons_append, List.nil_append, DL.e_bo, DL.e_be, DL.e_bb, DL.e_ao, DL.e_ae, DL.e_no, DL.e_nb, DL.e_cd, DL.e_cn, DL.e_ct, DL.e_co, DL.e_ce, DL.e_op, DL.e_if, DL.e_seq, DL.vOr, DL.vAnd, DL.vNot, DL.vTest, DL.vIsi, DL.vCall, DL.vCons, DL.vNil, DL.vConst, DL.vRet, DL.vNext, DL.vApp, DL.vNeg, DL.vChain, DL.vAndV, DL.vOrV, DL.vNotV, DL.vIf, ite_true, ite_false, if_true, if_false, Nat.reduceAdd, Nat.reduceSub, Nat.reduceEqDiff, reduceIte, Bool.true_and, Bool.and_true, Bool.not_true, Bool.not_false, Bool.false_eq_true, DL.endP, DL.endN, DL.cz2, DL.cz3, DL.cz4, DL.cz5, DL.cz6, DL.cz7, DL.cz8, DL.cz9, Int.natCast_add, Int.natCast_zero, Int.natCast_one, decide_true, decide_false, eq_self, not_true, not_false_eq_true, Bool.not_eq_true, DL.e_len_t, DL.e_len_l, DL.e_eq_ii, DL.e_ne_ii, DL.e_lt_ii, DL.e_le_ii, DL.e_gt_ii, DL.e_ge_ii, DL.e_ix_t0, DL.e_ix_t1, DL.e_ix_t2, DL.e_ix_t3, DL.e_ix_t4, DL.e_gcd, DL.p_none, DL.p_bool, DL.p_int, DL.p_str, DL.p_list, DL.p_tuple, DL.i_int_none, DL.i_int_bool, DL.i_int_int, DL.i_int_str, DL.i_int_list, DL.i_int_tuple, DL.i_bool_none, DL.i_bool_bool, DL.i_bool_int, DL.i_bool_str, DL.i_bool_list, DL.i_bool_tuple, DL.i_str_none, DL.i_str_bool, DL.i_str_int, DL.i_str_str, DL.i_str_list, DL.i_str_tuple, DL.i_tuple_none, DL.i_tuple_bool, DL.i_tuple_int, DL.i_tuple_str, DL.i_tuple_list, DL.i_tuple_tuple, DL.i_list_none, DL.i_list_bool, DL.i_list_int, DL.i_list_str, DL.i_list_list, DL.i_list_tuple, DL.e_v0, DL.e_t0, DL.e_s0_0, DL.e_s0_1, DL.e_s0_2, DL.e_v1, DL.e_t1, DL.e_s1_0, DL.e_s1_1, DL.e_s1_2, DL.e_s1_3, DL.e_v2, DL.e_t2, DL.e_s2_0, DL.e_s2_1, DL.e_s2_2, DL.e_s2_3, DL.e_v3, DL.e_t3, DL.e_s3_0, DL.e_s3_1, DL.e_s3_2, DL.e_s3_3, DL.e_v4, DL.e_t4, DL.e_s4_0, DL.e_s4_1, DL.e_s4_2, DL.e_s4_3, DL.e_v5, DL.e_t5, DL.e_s5_0, DL.e_s5_1, DL.e_s5_2, DL.e_s5_3, DL.e_v6, DL.e_t6, DL.e_s6_0, DL.e_s6_1, DL.e_s6_2, DL.e_s6_3, DL.e_v7, DL.e_t7, DL.e_s7_0, DL.e_s7_1, DL.e_s7_2, DL.e_s7_3]
        obtain ⟨w, b', l5, hbd, d5, hmid⟩ := mid
        obtain ⟨x, l6, cx, x1, x2, x3, x4, x5⟩ := m_tree hks hk1 hk3 ha n (1 + f) l5 (by omega) (by omega) (by omega) d5
        obtain ⟨y, l7, cy, y1, y2, y3, y4, y5⟩ := m_tree hks hk1 hk3 ha n (most - (1 + f)) l6 (by omega) (by omega) (by omega) x2
        refine ⟨.tuple [w, .int p, b', x, y], l7, cx + cy, ?_, y2, .testC w k b' x y p cx cy p3 p4 hk hbd x3 y3, by omega, by omega⟩
        rw [tree_succ]
        refine runM_at (r := .ok (.rt (.tuple [w, .int p, b', x, y]), tS l7 ks ans most (.d (.int p)) (.d (.int (1 + f))) (.d (.tuple [w, .int p, b'])) (.d x))) rfl ?_ rfl
        refine seq_nx (δ1 := tS l1 ks ans most .no .no .no .no) (if_f (δ1 := tS l1 ks ans most .no .no .no .no) ?_ rfl) ?_
        · show chk0 (tS ls ks ans most .no .no .no .no) _ = _
          unfold tS
          simp only [t1, vAppM, k1, t2, List.getElem?_cons_zero, List.set_cons_zero, DL.runP, DL.runN, DL.startD, List.map, List.length, List.replicate, List.append_nil, List.cons_append, List.nil_append, DL.e_bo, DL.e_be, DL.e_bb, DL.e_ao, DL.e_ae, DL.e_no, DL.e_nb, DL.e_cd, DL.e_cn, DL.e_ct, DL.e_co, DL.e_ce, DL.e_op, DL.e_if, DL.e_seq, DL.vOr, DL.vAnd, DL.vNot, DL.vTest, DL.vIsi, DL.vCall, DL.vCons, DL.vNil, DL.vConst, DL.vRet, DL.vNext, DL.vApp, DL.vNeg, DL.vChain, DL.vAndV, DL.vOrV, DL.vNotV, DL.vIf, ite_true, ite_false, if_true, if_false, Nat.reduceAdd, Nat.reduceSub, Nat.reduceEqDiff, reduceIte, Bool.true_and, Bool.and_true, Bool.not_true, Bool.not_false, Bool.false_eq_true, DL.endP, DL.endN, DL.cz2, DL.cz3, DL.cz4, DL.cz5, DL.cz6, DL.cz7, DL.cz8, DL.cz9, Int.natCast_add, Int.natCast_zero, Int.natCast_one, decide_true, decide_false, eq_self, not_true, not_false_eq_true, Bool.not_eq_true, DL.e_len_t, DL.e_len_l, DL.e_eq_ii, DL.e_ne_ii, DL.e_lt_ii, DL.e_le_ii, DL.e_gt_ii, DL.e_ge_ii, DL.e_ix_t0, DL.e_ix_t1, DL.e_ix_t2, DL.e_ix_t3, DL.e_ix_t4, DL.e_gcd, DL.p_none, DL.p_bool, DL.p_int, DL.p_str, DL.p_list, DL.p_tuple, DL.i_int_none, DL.i_int_bool, DL.i_int_int, DL.i_int_str, DL.i_int_list, DL.i_int_tuple, DL.i_bool_none, DL.i_bool_bool, DL.i_bool_int, DL.i_bool_str, DL.i_bool_list, DL.i_bool_tuple, DL.i_str_none, DL.i_str_bool, DL.i_str_int, DL.i_str_str, DL.i_str_list, DL.i_str_tuple, DL.i_tuple_none, DL.i_tuple_bool, DL.i_tuple_int, DL.i_tuple_str, DL.i_tuple_list, DL.i_tuple_tuple, DL.i_list_none, DL.i_list_bool, DL.i_list_int, DL.i_list_str, DL.i_list_list, DL.i_list_tuple, DL.e_v0, DL.e_t0, DL.e_s0_0, DL.e_s0_1, DL.e_s0_2, DL.e_v1, DL.e_t1, DL.e_s1_0, DL.e_s1_1, DL.e_s1_2, DL.e_s1_3, DL.e_v2, DL.e_t2, DL.e_s2_0, DL.e_s2_1, DL.e_s2_2, DL.e_s2_3, DL.e_v3, DL.e_t3, DL.e_s3_0, DL.e_s3_1, DL.e_s3_2, DL.e_s3_3, DL.e_v4, DL.e_t4, DL.e_s4_0, DL.e_s4_1, DL.e_s4_2, DL.e_s4_3, DL.e_v5, DL.e_t5, DL.e_s5_0, DL.e_s5_1, DL.e_s5_2, DL.e_s5_3, DL.e_v6, DL.e_t6, DL.e_s6_0, DL.e_s6_1, DL.e_s6_2, DL.e_s6_3, DL.e_v7, DL.e_t7, DL.e_s7_0, DL.e_s7_1, DL.e_s7_2, DL.e_s7_3]
        refine seq_nx (δ1 := tS l3 ks ans most (.d (.int p)) (.d (.int (1 + f))) .no .no) ?_ ?_
        · unfold tS
          simp only [vPar, vAppM, p1, f1, e_sub, e_add, List.getElem?_cons_zero, List.set_cons_zero, DL.runP, DL.runN, DL.startD, List.map, List.length, List.replicate, List.append_nil, List.cons_append, List.nil_append, DL.e_bo, DL.e_be, DL.e_bb, DL.e_ao, DL.e_ae, DL.e_no, DL.e_nb, DL.e_cd, DL.e_cn, DL.e_ct, DL.e_co, DL.e_ce, DL.e_op, DL.e_if, DL.e_seq, DL.vOr, DL.vAnd, DL.vNot, DL.vTest, DL.vIsi, DL.vCall, DL.vCons, DL.vNil, DL.vConst, DL.vRet, DL.vNext, DL.vApp, DL.vNeg, DL.vChain, DL.vAndV, DL.vOrV, DL.vNotV, DL.vIf, ite_true, ite_false, if_true, if_false, Nat.reduceAdd, Nat.reduceSub, Nat.reduceEqDiff, reduceIte, Bool.true_and, Bool.and_true, Bool.not_true, Bool.not_false, Bool.false_eq_true, DL.endP, DL.endN, DL.cz2, DL.cz3, DL.cz4, DL.cz5, DL.cz6, DL.cz7, DL.cz8, DL.cz9, Int.natCast_add, Int.natCast_zero, Int.natCast_one, decide_true, decide_false, eq_self, not_true, not_false_eq_true, Bool.not_eq_true, DL.e_len_t, DL.e_len_l, DL.e_eq_ii, DL.e_ne_ii, DL.e_lt_ii, DL.e_le_ii, DL.e_gt_ii, DL.e_ge_ii, DL.e_ix_t0, DL.e_ix_t1, DL.e_ix_t2, DL.e_ix_t3, DL.e_ix_t4, DL.e_gcd, DL.p_none, DL.p_bool, DL.p_int, DL.p_str, DL.p_list, DL.p_tuple, DL.i_int_none, DL.i_int_bool, DL.i_int_int, DL.i_int_str, DL.i_int_list, DL.i_int_tuple, DL.i_bool_none, DL.i_bool_bool, DL.i_bool_int, DL.i_bool_str, DL.i_bool_list, DL.i_bool_tuple, DL.i_str_none, DL.i_str_bool, DL.i_str_int, DL.i_str_str, DL.i_str_list, DL.i_str_tuple, DL.i_tuple_none, DL.i_tuple_bool, DL.i_tuple_int, DL.i_tuple_str, DL.i_tuple_list, DL.i_tuple_tuple, DL.i_list_none, DL.i_list_bool, DL.i_list_int, DL.i_list_str, DL.i_list_list, DL.i_list_tuple, DL.e_v0, DL.e_t0, DL.e_s0_0, DL.e_s0_1, DL.e_s0_2, DL.e_v1, DL.e_t1, DL.e_s1_0, DL.e_s1_1, DL.e_s1_2, DL.e_s1_3, DL.e_v2, DL.e_t2, DL.e_s2_0, DL.e_s2_1, DL.e_s2_2, DL.e_s2_3, DL.e_v3, DL.e_t3, DL.e_s3_0, DL.e_s3_1, DL.e_s3_2, DL.e_s3_3, DL.e_v4, DL.e_t4, DL.e_s4_0, DL.e_s4_1, DL.e_s4_2, DL.e_s4_3, DL.e_v5, DL.e_t5, DL.e_s5_0, DL.e_s5_1, DL.e_s5_2, DL.e_s5_3, DL.e_v6, DL.e_t6, DL.e_s6_0, DL.e_s6_1, DL.e_s6_2, DL.e_s6_3, DL.e_v7, DL.e_t7, DL.e_s7_0, DL.e_s7_1, DL.e_s7_2, DL.e_s7_3]
        refine seq_nx (δ1 := tS l4 ks ans most (.d (.int p)) (.d (.int (1 + f))) (.d (.tuple [.str "below", .int p, b])) .no) ?_ ?_
        · unfold tS
          simp only [vSet, vTup, vAppM, b1, s3, List.getElem?_cons_zero, List.set_cons_zero, DL.runP, DL.runN, DL.startD, List.map, List.length, List.replicate, List.append_nil, List.cons_append, List.nil_append, DL.e_bo, DL.e_be, DL.e_bb, DL.e_ao, DL.e_ae, DL.e_no, DL.e_nb, DL.e_cd, DL.e_cn, DL.e_ct, DL.e_co, DL.e_ce, DL.e_op, DL.e_if, DL.e_seq, DL.vOr, DL.vAnd, DL.vNot, DL.vTest, DL.vIsi, DL.vCall, DL.vCons, DL.vNil, DL.vConst, DL.vRet, DL.vNext, DL.vApp, DL.vNeg, DL.vChain, DL.vAndV, DL.vOrV, DL.vNotV, DL.vIf, ite_true, ite_false, if_true, if_false, Nat.reduceAdd, Nat.reduceSub, Nat.reduceEqDiff, reduceIte, Bool.true_and, Bool.and_true, Bool.not_true, Bool.not_false, Bool.false_eq_true, DL.endP, DL.endN, DL.cz2, DL.cz3, DL.cz4, DL.cz5, DL.cz6, DL.cz7, DL.cz8, DL.cz9, Int.natCast_add, Int.natCast_zero, Int.natCast_one, decide_true, decide_false, eq_self, not_true, not_false_eq_true, Bool.not_eq_true, DL.e_len_t, DL.e_len_l, DL.e_eq_ii, DL.e_ne_ii, DL.e_lt_ii, DL.e_le_ii, DL.e_gt_ii, DL.e_ge_ii, DL.e_ix_t0, DL.e_ix_t1, DL.e_ix_t2, DL.e_ix_t3, DL.e_ix_t4, DL.e_gcd, DL.p_none, DL.p_bool, DL.p_int, DL.p_str, DL.p_list, DL.p_tuple, DL.i_int_none, DL.i_int_bool, DL.i_int_int, DL.i_int_str, DL.i_int_list, DL.i_int_tuple, DL.i_bool_none, DL.i_bool_bool, DL.i_bool_int, DL.i_bool_str, DL.i_bool_list, DL.i_bool_tuple, DL.i_str_none, DL.i_str_bool, DL.i_str_int, DL.i_str_str, DL.i_str_list, DL.i_str_tuple, DL.i_tuple_none, DL.i_tuple_bool, DL.i_tuple_int, DL.i_tuple_str, DL.i_tuple_list, DL.i_tuple_tuple, DL.i_list_none, DL.i_list_bool, DL.i_list_int, DL.i_list_str, DL.i_list_list, DL.i_list_tuple, DL.e_v0, DL.e_t0, DL.e_s0_0, DL.e_s0_1, DL.e_s0_2, DL.e_v1, DL.e_t1, DL.e_s1_0, DL.e_s1_1, DL.e_s1_2, DL.e_s1_3, DL.e_v2, DL.e_t2, DL.e_s2_0, DL.e_s2_1, DL.e_s2_2, DL.e_s2_3, DL.e_v3, DL.e_t3, DL.e_s3_0, DL.e_s3_1, DL.e_s3_2, DL.e_s3_3, DL.e_v4, DL.e_t4, DL.e_s4_0, DL.e_s4_1, DL.e_s4_2, DL.e_s4_3, DL.e_v5, DL.e_t5, DL.e_s5_0, DL.e_s5_1, DL.e_s5_2, DL.e_s5_3, DL.e_v6, DL.e_t6, DL.e_s6_0, DL.e_s6_1, DL.e_s6_2, DL.e_s6_3, DL.e_v7, DL.e_t7, DL.e_s7_0, DL.e_s7_1, DL.e_s7_2, DL.e_s7_3]
        refine seq_nx hmid ?_
        refine seq_nx (δ1 := tS l6 ks ans most (.d (.int p)) (.d (.int (1 + f))) (.d (.tuple [w, .int p, b'])) (.d x)) ?_ ?_
        · unfold tS
          simp only [vSet, vAppM, x1, List.getElem?_cons_zero, List.set_cons_zero, DL.runP, DL.runN, DL.startD, List.map, List.length, List.replicate, List.append_nil, List.cons_append, List.nil_append, DL.e_bo, DL.e_be, DL.e_bb, DL.e_ao, DL.e_ae, DL.e_no, DL.e_nb, DL.e_cd, DL.e_cn, DL.e_ct, DL.e_co, DL.e_ce, DL.e_op, DL.e_if, DL.e_seq, DL.vOr, DL.vAnd, DL.vNot, DL.vTest, DL.vIsi, DL.vCall, DL.vCons, DL.vNil, DL.vConst, DL.vRet, DL.vNext, DL.vApp, DL.vNeg, DL.vChain, DL.vAndV, DL.vOrV, DL.vNotV, DL.vIf, ite_true, ite_false, if_true, if_false, Nat.reduceAdd, Nat.reduceSub, Nat.reduceEqDiff, reduceIte, Bool.true_and, Bool.and_true, Bool.not_true, Bool.not_false, Bool.false_eq_true, DL.endP, DL.endN, DL.cz2, DL.cz3, DL.cz4, DL.cz5, DL.cz6, DL.cz7, DL.cz8, DL.cz9, Int.natCast_add, Int.natCast_zero, Int.natCast_one, decide_true, decide_false, eq_self, not_true, not_false_eq_true, Bool.not_eq_true, DL.e_len_t, DL.e_len_l, DL.e_eq_ii, DL.e_ne_ii, DL.e_lt_ii, DL.e_le_ii, DL.e_gt_ii, DL.e_ge_ii, DL.e_ix_t0, DL.e_ix_t1, DL.e_ix_t2, DL.e_ix_t3, DL.e_ix_t4, DL.e_gcd, DL.p_none, DL.p_bool, DL.p_int, DL.p_str, DL.p_list, DL.p_tuple, DL.i_int_none, DL.i_int_bool, DL.i_int_int, DL.i_int_str, DL.i_int_list, DL.i_int_tuple, DL.i_bool_none, DL.i_bool_bool, DL.i_bool_int, DL.i_bool_str, DL.i_bool_list, DL.i_bool_tuple, DL.i_str_none, DL.i_str_bool, DL.i_str_int, DL.i_str_str, DL.i_str_list, DL.i_str_tuple, DL.i_tuple_none, DL.i_tuple_bool, DL.i_tuple_int, DL.i_tuple_str, DL.i_tuple_list, DL.i_tuple_tuple, DL.i_list_none, DL.i_list_bool, DL.i_list_int, DL.i_list_str, DL.i_list_list, DL.i_list_tuple, DL.e_v0, DL.e_t0, DL.e_s0_0, DL.e_s0_1, DL.e_s0_2, DL.e_v1, DL.e_t1, DL.e_s1_0, DL.e_s1_1, DL.e_s1_2, DL.e_s1_3, DL.e_v2, DL.e_t2, DL.e_s2_0, DL.e_s2_1, DL.e_s2_2, DL.e_s2_3, DL.e_v3, DL.e_t3, DL.e_s3_0, DL.e_s3_1, DL.e_s3_2, DL.e_s3_3, DL.e_v4, DL.e_t4, DL.e_s4_0, DL.e_s4_1, DL.e_s4_2, DL.e_s4_3, DL.e_v5, DL.e_t5, DL.e_s5_0, DL.e_s5_1, DL.e_s5_2, DL.e_s5_3, DL.e_v6, DL.e_t6, DL.e_s6_0, DL.e_s6_1, DL.e_s6_2, DL.e_s6_3, DL.e_v7, DL.e_t7, DL.e_s7_0, DL.e_s7_1, DL.e_s7_2, DL.e_s7_3]
        · have ad : gAdd (.tuple [w, .int p, b']) (.tuple [x, y]) = .ok (.tuple [w, .int p, b', x, y]) := if_pos (e := Res.bad) s5
          unfold tS
          simp only [vTup, vAppM, y1, e_sub, s2, ad, List.getElem?_cons_zero, List.set_cons_zero, DL.runP, DL.runN, DL.startD, List.map, List.length, List.replicate, List.append_nil, List.cons_append, List.nil_append, DL.e_bo, DL.e_be, DL.e_bb, DL.e_ao, DL.e_ae, DL.e_no, DL.e_nb, DL.e_cd, DL.e_cn, DL.e_ct, DL.e_co, DL.e_ce, DL.e_op, DL.e_if, DL.e_seq, DL.vOr, DL.vAnd, DL.vNot, DL.vTest, DL.vIsi, DL.vCall, DL.vCons, DL.vNil, DL.vConst, DL.vRet, DL.vNext, DL.vApp, DL.vNeg, DL.vChain, DL.vAndV, DL.vOrV, DL.vNotV, DL.vIf, ite_true, ite_false, if_true, if_false, Nat.reduceAdd, Nat.reduceSub, Nat.reduceEqDiff, reduceIte, Bool.true_and, Bool.and_true, Bool.not_true, Bool.not_false, Bool.false_eq_true, DL.endP, DL.endN, DL.cz2, DL.cz3, DL.cz4, DL.cz5, DL.cz6, DL.cz7, DL.cz8, DL.cz9, Int.natCast_add, Int.natCast_zero, Int.natCast_one, decide_true, decide_false, eq_self, not_true, not_false_eq_true, Bool.not_eq_true, DL.e_len_t, DL.e_len_l, DL.e_eq_ii, DL.e_ne_ii, DL.e_lt_ii, DL.e_le_ii, DL.e_gt_ii, DL.e_ge_ii, DL.e_ix_t0, DL.e_ix_t1, DL.e_ix_t2, DL.e_ix_t3, DL.e_ix_t4, DL.e_gcd, DL.p_none, DL.p_bool, DL.p_int, DL.p_str, DL.p_list, DL.p_tuple, DL.i_int_none, DL.i_int_bool, DL.i_int_int, DL.i_int_str, DL.i_int_list, DL.i_int_tuple, DL.i_bool_none, DL.i_bool_bool, DL.i_bool_int, DL.i_bool_str, DL.i_bool_list, DL.i_bool_tuple, DL.i_str_none, DL.i_str_bool, DL.i_str_int, DL.i_str_str, DL.i_str_list, DL.i_str_tuple, DL.i_tuple_none, DL.i_tuple_bool, DL.i_tuple_int, DL.i_tuple_str, DL.i_tuple_list, DL.i_tuple_tuple, DL.i_list_none, DL.i_list_bool, DL.i_list_int, DL.i_list_str, DL.i_list_list, DL.i_list_tuple, DL.e_v0, DL.e_t0, DL.e_s0_0, DL.e_s0_1, DL.e_s0_2, DL.e_v1, DL.e_t1, DL.e_s1_0, DL.e_s1_1, DL.e_s1_2, DL.e_s1_3, DL.e_v2, DL.e_t2, DL.e_s2_0, DL.e_s2_1, DL.e_s2_2, DL.e_s2_3, DL.e_v3, DL.e_t3, DL.e_s3_0, DL.e_s3_1, DL.e_s3_2, DL.e_s3_3, DL.e_v4, DL.e_t4, DL.e_s4_0, DL.e_s4_1, DL.e_s4_2, DL.e_s4_3, DL.e_v5, DL.e_t5, DL.e_s5_0, DL.e_s5_1, DL.e_s5_2, DL.e_s5_3, DL.e_v6, DL.e_t6, DL.e_s6_0, DL.e_s6_1, DL.e_s6_2, DL.e_s6_3, DL.e_v7, DL.e_t7, DL.e_s7_0, DL.e_s7_1, DL.e_s7_2, DL.e_s7_3]
end Vw
set_option linter.all false
set_option maxRecDepth 100000
set_option maxHeartbeats 1000000
namespace DL
open PySem PySem.Spec L2
theorem e_g1 (x y : Sl) (x0 : Sl) (r : DSt) : setD 1 x (x0 :: y :: r) = .ok (x0 :: x :: r) := by cases y <;> rfl
theorem e_g2 (x y : Sl) (x0 x1 : Sl) (r : DSt) : setD 2 x (x0 :: x1 :: y :: r) = .ok (x0 :: x1 :: x :: r) := by cases y <;> rfl
theorem e_g3 (x y : Sl) (x0 x1 x2 : Sl) (r : DSt) : setD 3 x (x0 :: x1 :: x2 :: y :: r) = .ok (x0 :: x1 :: x2 :: x :: r) := by cases y <;> rfl
theorem e_g4 (x y : Sl) (x0 x1 x2 x3 : Sl) (r : DSt) : setD 4 x (x0 :: x1 :: x2 :: x3 :: y :: r) = .ok (x0 :: x1 :: x2 :: x3 :: x :: r) := by cases y <;> rfl
theorem e_g5 (x y : Sl) (x0 x1 x2 x3 x4 : Sl) (r : DSt) : setD 5 x (x0 :: x1 :: x2 :: x3 :: x4 :: y :: r) = .ok (x0 :: x1 :: x2 :: x3 :: x4 :: x :: r) := by cases y <;> rfl
theorem e_g6 (x y : Sl) (x0 x1 x2 x3 x4 x5 : Sl) (r : DSt) : setD 6 x (x0 :: x1 :: x2 :: x3 :: x4 :: x5 :: y :: r) = .ok (x0 :: x1 :: x2 :: x3 :: x4 :: x5 :: x :: r) := by cases y <;> rfl
theorem e_g7 (x y : Sl) (x0 x1 x2 x3 x4 x5 x6 : Sl) (r : DSt) : setD 7 x (x0 :: x1 :: x2 :: x3 :: x4 :: x5 :: x6 :: y :: r) = .ok (x0 :: x1 :: x2 :: x3 :: x4 :: x5 :: x6 :: x :: r) := by cases y <;> rfl
theorem e_g8 (x y : Sl) (x0 x1 x2 x3 x4 x5 x6 x7 : Sl) (r : DSt) : setD 8 x (x0 :: x1 :: x2 :: x3 :: x4 :: x5 :: x6 :: x7 :: y :: r) = .ok (x0 :: x1 :: x2 :: x3 :: x4 :: x5 :: x6 :: x7 :: x :: r) := by cases y <;> rfl
theorem e_w8 (q : PyData) (x0 x1 x2 x3 x4 x5 x6 x7 : Sl) (r : DSt) : vVar 8 (x0 :: x1 :: x2 :: x3 :: x4 :: x5 :: x6 :: x7 :: .d q :: r) = .ok (q, x0 :: x1 :: x2 :: x3 :: x4 :: x5 :: x6 :: x7 :: .d q :: r) := rfl
theorem e_g9 (x y : Sl) (x0 x1 x2 x3 x4 x5 x6 x7 x8 : Sl) (r : DSt) : setD 9 x (x0 :: x1 :: x2 :: x3 :: x4 :: x5 :: x6 :: x7 :: x8 :: y :: r) = .ok (x0 :: x1 :: x2 :: x3 :: x4 :: x5 :: x6 :: x7 :: x8 :: x :: r) := by cases y <;> rfl
theorem e_w9 (q : PyData) (x0 x1 x2 x3 x4 x5 x6 x7 x8 : Sl) (r : DSt) : vVar 9 (x0 :: x1 :: x2 :: x3 :: x4 :: x5 :: x6 :: x7 :: x8 :: .d q :: r) = .ok (q, x0 :: x1 :: x2 :: x3 :: x4 :: x5 :: x6 :: x7 :: x8 :: .d q :: r) := rfl
theorem e_g10 (x y : Sl) (x0 x1 x2 x3 x4 x5 x6 x7 x8 x9 : Sl) (r : DSt) : setD 10 x (x0 :: x1 :: x2 :: x3 :: x4 :: x5 :: x6 :: x7 :: x8 :: x9 :: y :: r) = .ok (x0 :: x1 :: x2 :: x3 :: x4 :: x5 :: x6 :: x7 :: x8 :: x9 :: x :: r) := by cases y <;> rfl
theorem e_w10 (q : PyData) (x0 x1 x2 x3 x4 x5 x6 x7 x8 x9 : Sl) (r : DSt) : vVar 10 (x0 :: x1 :: x2 :: x3 :: x4 :: x5 :: x6 :: x7 :: x8 :: x9 :: .d q :: r) = .ok (q, x0 :: x1 :: x2 :: x3 :: x4 :: x5 :: x6 :: x7 :: x8 :: x9 :: .d q :: r) := rfl
theorem e_g11 (x y : Sl) (x0 x1 x2 x3 x4 x5 x6 x7 x8 x9 x10 : Sl) (r : DSt) : setD 11 x (x0 :: x1 :: x2 :: x3 :: x4 :: x5 :: x6 :: x7 :: x8 :: x9 :: x10 :: y :: r) = .ok (x0 :: x1 :: x2 :: x3 :: x4 :: x5 :: x6 :: x7 :: x8 :: x9 :: x10 :: x :: r) := by cases y <;> rfl
theorem e_w11 (q : PyData) (x0 x1 x2 x3 x4 x5 x6 x7 x8 x9 x10 : Sl) (r : DSt) : vVar 11 (x0 :: x1 :: x2 :: x3 :: x4 :: x5 :: x6 :: x7 :: x8 :: x9 :: x10 :: .d q :: r) = .ok (q, x0 :: x1 :: x2 :: x3 :: x4 :: x5 :: x6 :: x7 :: x8 :: x9 :: x10 :: .d q :: r) := rfl
theorem e_g12 (x y : Sl) (x0 x1 x2 x3 x4 x5 x6 x7 x8 x9 x10 x11 : Sl) (r : DSt) : setD 12 x (x0 :: x1 :: x2 :: x3 :: x4 :: x5 :: x6 :: x7 :: x8 :: x9 :: x10 :: x11 :: y :: r) = .ok (x0 :: x1 :: x2 :: x3 :: x4 :: x5 :: x6 :: x7 :: x8 :: x9 :: x10 :: x11 :: x :: r) := by cases y <;> rfl
theorem e_w12 (q : PyData) (x0 x1 x2 x3 x4 x5 x6 x7 x8 x9 x10 x11 : Sl) (r : DSt) : vVar 12 (x0 :: x1 :: x2 :: x3 :: x4 :: x5 :: x6 :: x7 :: x8 :: x9 :: x10 :: x11 :: .d q :: r) = .ok (q, x0 :: x1 :: x2 :: x3 :: x4 :: x5 :: x6 :: x7 :: x8 :: x9 :: x10 :: x11 :: .d q :: r) := rfl
theorem e_o1 (x : Sl) (x0 : Sl) (r : DSt) : (x0 :: x :: r)[(1 : Nat)]? = some x := rfl
theorem e_u1 (x y : Sl) (x0 : Sl) (r : DSt) : (x0 :: x :: r).set 1 y = x0 :: y :: r := rfl
theorem e_o2 (x : Sl) (x0 x1 : Sl) (r : DSt) : (x0 :: x1 :: x :: r)[(2 : Nat)]? = some x := rfl
theorem e_u2 (x y : Sl) (x0 x1 : Sl) (r : DSt) : (x0 :: x1 :: x :: r).set 2 y = x0 :: x1 :: y :: r := rfl
theorem e_o3 (x : Sl) (x0 x1 x2 : Sl) (r : DSt) : (x0 :: x1 :: x2 :: x :: r)[(3 : Nat)]? = some x := rfl
theorem e_u3 (x y : Sl) (x0 x1 x2 : Sl) (r : DSt) : (x0 :: x1 :: x2 :: x :: r).set 3 y = x0 :: x1 :: x2 :: y :: r := rfl
theorem e_o4 (x : Sl) (x0 x1 x2 x3 : Sl) (r : DSt) : (x0 :: x1 :: x2 :: x3 :: x :: r)[(4 : Nat)]? = some x := rfl
theorem e_u4 (x y : Sl) (x0 x1 x2 x3 : Sl) (r : DSt) : (x0 :: x1 :: x2 :: x3 :: x :: r).set 4 y = x0 :: x1 :: x2 :: x3 :: y :: r := rfl
theorem e_o5 (x : Sl) (x0 x1 x2 x3 x4 : Sl) (r : DSt) : (x0 :: x1 :: x2 :: x3 :: x4 :: x :: r)[(5 : Nat)]? = some x := rfl
theorem e_u5 (x y : Sl) (x0 x1 x2 x3 x4 : Sl) (r : DSt) : (x0 :: x1 :: x2 :: x3 :: x4 :: x :: r).set 5 y = x0 :: x1 :: x2 :: x3 :: x4 :: y :: r := rfl
theorem e_o6 (x : Sl) (x0 x1 x2 x3 x4 x5 : Sl) (r : DSt) : (x0 :: x1 :: x2 :: x3 :: x4 :: x5 :: x :: r)[(6 : Nat)]? = some x := rfl
theorem e_u6 (x y : Sl) (x0 x1 x2 x3 x4 x5 : Sl) (r : DSt) : (x0 :: x1 :: x2 :: x3 :: x4 :: x5 :: x :: r).set 6 y = x0 :: x1 :: x2 :: x3 :: x4 :: x5 :: y :: r := rfl
theorem e_o7 (x : Sl) (x0 x1 x2 x3 x4 x5 x6 : Sl) (r : DSt) : (x0 :: x1 :: x2 :: x3 :: x4 :: x5 :: x6 :: x :: r)[(7 : Nat)]? = some x := rfl
theorem e_u7 (x y : Sl) (x0 x1 x2 x3 x4 x5 x6 : Sl) (r : DSt) : (x0 :: x1 :: x2 :: x3 :: x4 :: x5 :: x6 :: x :: r).set 7 y = x0 :: x1 :: x2 :: x3 :: x4 :: x5 :: x6 :: y :: r := rfl
theorem e_o8 (x : Sl) (x0 x1 x2 x3 x4 x5 x6 x7 : Sl) (r : DSt) : (x0 :: x1 :: x2 :: x3 :: x4 :: x5 :: x6 :: x7 :: x :: r)[(8 : Nat)]? = some x := rfl
theorem e_u8 (x y : Sl) (x0 x1 x2 x3 x4 x5 x6 x7 : Sl) (r : DSt) : (x0 :: x1 :: x2 :: x3 :: x4 :: x5 :: x6 :: x7 :: x :: r).set 8 y = x0 :: x1 :: x2 :: x3 :: x4 :: x5 :: x6 :: x7 :: y :: r := rfl
theorem e_o9 (x : Sl) (x0 x1 x2 x3 x4 x5 x6 x7 x8 : Sl) (r : DSt) : (x0 :: x1 :: x2 :: x3 :: x4 :: x5 :: x6 :: x7 :: x8 :: x :: r)[(9 : Nat)]? = some x := rfl
theorem e_u9 (x y : Sl) (x0 x1 x2 x3 x4 x5 x6 x7 x8 : Sl) (r : DSt) : (x0 :: x1 :: x2 :: x3 :: x4 :: x5 :: x6 :: x7 :: x8 :: x :: r).set 9 y = x0 :: x1 :: x2 :: x3 :: x4 :: x5 :: x6 :: x7 :: x8 :: y :: r := rfl
theorem e_o10 (x : Sl) (x0 x1 x2 x3 x4 x5 x6 x7 x8 x9 : Sl) (r : DSt) : (x0 :: x1 :: x2 :: x3 :: x4 :: x5 :: x6 :: x7 :: x8 :: x9 :: x :: r)[(10 : Nat)]? = some x := rfl
theorem e_u10 (x y : Sl) (x0 x1 x2 x3 x4 x5 x6 x7 x8 x9 : Sl) (r : DSt) : (x0 :: x1 :: x2 :: x3 :: x4 :: x5 :: x6 :: x7 :: x8 :: x9 :: x :: r).set 10 y = x0 :: x1 :: x2 :: x3 :: x4 :: x5 :: x6 :: x7 :: x8 :: x9 :: y :: r := rfl
theorem e_o11 (x : Sl) (x0 x1 x2 x3 x4 x5 x6 x7 x8 x9 x10 : Sl) (r : DSt) : (x0 :: x1 :: x2 :: x3 :: x4 :: x5 :: x6 :: x7 :: x8 :: x9 :: x10 :: x :: r)[(11 : Nat)]? = some x := rfl
theorem e_u11 (x y : Sl) (x0 x1 x2 x3 x4 x5 x6 x7 x8 x9 x10 : Sl) (r : DSt) : (x0 :: x1 :: x2 :: x3 :: x4 :: x5 :: x6 :: x7 :: x8 :: x9 :: x10 :: x :: r).set 11 y = x0 :: x1 :: x2 :: x3 :: x4 :: x5 :: x6 :: x7 :: x8 :: x9 :: x10 :: y :: r := rfl
theorem e_o12 (x : Sl) (x0 x1 x2 x3 x4 x5 x6 x7 x8 x9 x10 x11 : Sl) (r : DSt) : (x0 :: x1 :: x2 :: x3 :: x4 :: x5 :: x6 :: x7 :: x8 :: x9 :: x10 :: x11 :: x :: r)[(12 : Nat)]? = some x := rfl
theorem e_u12 (x y : Sl) (x0 x1 x2 x3 x4 x5 x6 x7 x8 x9 x10 x11 : Sl) (r : DSt) : (x0 :: x1 :: x2 :: x3 :: x4 :: x5 :: x6 :: x7 :: x8 :: x9 :: x10 :: x11 :: x :: r).set 12 y = x0 :: x1 :: x2 :: x3 :: x4 :: x5 :: x6 :: x7 :: x8 :: x9 :: x10 :: x11 :: y :: r := rfl
theorem e_o0 (x : Sl) (r : DSt) : (x :: r)[(0 : Nat)]? = some x := rfl
theorem e_u0 (x y : Sl) (r : DSt) : (x :: r).set 0 y = y :: r := rfl
end DL
namespace Vw
open PySem PySem.Spec L2 DL
structure ForestV (ks : List PyData) (ans : Int) (ts : List PyData) : Prop where
  sv : ∀ k ∈ ks, k ∈ sevenK
  k1 : 1 ≤ ks.length
  k3 : ks.length ≤ 3
  an : ans = 2 ∨ ans = 3
  t1 : 1 ≤ ts.length
  t4 : ts.length ≤ 4
  tv : ∀ t ∈ ts, ∃ c, TreeV ks ans c t ∧ 1 ≤ c ∧ c ≤ 8
abbrev fT (ks : List PyData) (ans : Int) (ts : List PyData) : PyData := .tuple [.tuple ks, .int ans, .tuple ts]
theorem m_forest_of {ks : List PyData} {ans : Int} (hks : ∀ k ∈ ks, k ∈ sevenK) (hk1 : 1 ≤ ks.length) (hk3 : ks.length ≤ 3) (ha : ans = 2 ∨ ans = 3) {tr lv : Int} (htr : 1 ≤ tr ∧ tr ≤ 4) (hlv : 1 ≤ lv ∧ lv ≤ 8) {ls : List PyData} (hd : Dice ls) : ∃ ts l', ph__law_forest_of ls [.tuple ks, .int ans, .int tr, .int lv] = .ok (fT ks ans ts, l') ∧ Dice l' ∧ ForestV ks ans ts := by
  obtain ⟨r, l1, r1, r2, r3, r4⟩ := roll' hd tr (by omega)
  obtain ⟨ys, δ', c1, c2, c3, l', hl', rfl⟩ := comp_T (wi := vRange (vOp gAdd (vConst (.int 1)) (vAppM 0 ph__law_roll (vCons (vVar 3) vNil)))) (g := wName 6) (f := vAppM 0 (ph__law_tree 9) (vCons (vVar 1) (vCons (vVar 2) (vCons (vOp gAdd (vConst (.int 1)) (vAppM 0 ph__law_roll (vCons (vVar 4) vNil))) vNil)))) (vs := [6])
    (δ := [.own ls, .d (.tuple ks), .d (.int ans), .d (.int tr), .d (.int lv), .no, .no]) (δ1 := [.own l1, .d (.tuple ks), .d (.int ans), .d (.int tr), .d (.int lv), .no, .no]) (ds := rangeD (1 + r).toNat)
    (fun δ => ∃ l', Dice l' ∧ δ = [.own l', .d (.tuple ks), .d (.int ans), .d (.int tr), .d (.int lv), .no, .no]) (fun _ y => ∃ c, TreeV ks ans c y ∧ 1 ≤ c ∧ c ≤ 8) rfl
    (rng (by simp only [vAppM, r1, e_add, DL.e_g1, DL.e_g2, DL.e_g3, DL.e_g4, DL.e_g5, DL.e_g6, DL.e_g7, DL.e_g8, DL.e_w8, DL.e_g9, DL.e_w9, DL.e_g10, DL.e_w10, DL.e_g11, DL.e_w11, DL.e_g12, DL.e_w12, DL.e_o1, DL.e_u1, DL.e_o2, DL.e_u2, DL.e_o3, DL.e_u3, DL.e_o4, DL.e_u4, DL.e_o5, DL.e_u5, DL.e_o6, DL.e_u6, DL.e_o7, DL.e_u7, DL.e_o8, DL.e_u8, DL.e_o9, DL.e_u9, DL.e_o10, DL.e_u10, DL.e_o11, DL.e_u11, DL.e_o12, DL.e_u12, DL.e_o0, DL.e_u0, DL.runP, DL.runN, DL.startD, List.map, List.length, List.replicate, List.append_nil, List.cons_append, List.nil_append, DL.e_bo, DL.e_be, DL.e_bb, DL.e_ao, DL.e_ae, DL.e_no, DL.e_nb, DL.e_cd, DL.e_cn, DL.e_ct, DL.e_co, DL.e_ce, DL.e_op, DL.e_if, DL.e_seq, DL.vOr, DL.vAnd, DL.vNot, DL.vTest, DL.vIsi, DL.vCall, DL.vCons, DL.vNil, DL.vConst, DL.vRet, DL.vNext, DL.vApp, DL.vNeg, DL.vChain, DL.vAndV, DL.vOrV, DL.vNotV, DL.vIf, ite_true, ite_false, if_true, if_false, Nat.reduceAdd, Nat.reduceSub, Nat.reduceEqDiff, reduceIte, Bool.true_and, Bool.and_true, Bool.not_true, Bool.not_false, Bool.false_eq_true, DL.endP, DL.endN, DL.cz2, DL.cz3, DL.cz4, DL.cz5, DL.cz6, DL.cz7, DL.cz8, DL.cz9, Int.natCast_add, Int.natCast_zero, Int.natCast_one, decide_true, decide_false, eq_self, not_true, not_false_eq_true, Bool.not_eq_true, DL.e_len_t, DL.e_len_l, DL.e_eq_ii, DL.e_ne_ii, DL.e_lt_ii, DL.e_le_ii, DL.e_gt_ii, DL.e_ge_ii, DL.e_ix_t0, DL.e_ix_t1, DL.e_ix_t2, DL.e_ix_t3, DL.e_ix_t4, DL.e_gcd, DL.p_none, DL.p_bool, DL.p_int, DL.p_str, DL.p_list, DL.p_tuple, DL.i_int_none, DL.i_int_bool, DL.i_int_int, DL.i_int_str, DL.i_int_list, DL.i_int_tuple, DL.i_bool_none, DL.i_bool_bool, DL.i_bool_int, DL.i_bool_str, DL.i_bool_list, DL.i_bool_tuple, DL.i_str_none, DL.i_str_bool, DL.i_str_int, DL.i_str_str, DL.i_str_list, DL.i_str_tuple, DL.i_tuple_none, DL.i_tuple_bool, DL.i_tuple_int, DL.i_tuple_str, DL.i_tuple_list, DL.i_tuple_tuple, DL.i_list_none, DL.i_list_bool, DL.i_list_int, DL.i_list_str, DL.i_list_list, DL.i_list_tuple, DL.e_v0, DL.e_t0, DL.e_s0_0, DL.e_s0_1, DL.e_s0_2, DL.e_v1, DL.e_t1, DL.e_s1_0, DL.e_s1_1, DL.e_s1_2, DL.e_s1_3, DL.e_v2, DL.e_t2, DL.e_s2_0, DL.e_s2_1, DL.e_s2_2, DL.e_s2_3, DL.e_v3, DL.e_t3, DL.e_s3_0, DL.e_s3_1, DL.e_s3_2, DL.e_s3_3, DL.e_v4, DL.e_t4, DL.e_s4_0, DL.e_s4_1, DL.e_s4_2, DL.e_s4_3, DL.e_v5, DL.e_t5, DL.e_s5_0, DL.e_s5_1, DL.e_s5_2, DL.e_s5_3, DL.e_v6, DL.e_t6, DL.e_s6_0, DL.e_s6_1, DL.e_s6_2, DL.e_s6_3, DL.e_v7, DL.e_t7, DL.e_s7_0, DL.e_s7_1, DL.e_s7_2, DL.e_s7_3]) (by omega) (by omega)) rfl (range_le (by omega)) ⟨l1, r2, rfl⟩ (fun d _ δ ⟨l2, hl, e⟩ => by
      subst e
      obtain ⟨q, l3, k1, k2, k3, k4⟩ := roll' hl lv (by omega)
      obtain ⟨t, l4, c, t1, t2, t3, t4, t5⟩ := m_tree hks hk1 hk3 ha 9 (1 + q) l3 (by omega) (by omega) (by omega) k2
      refine ⟨[.own l2, .d (.tuple ks), .d (.int ans), .d (.int tr), .d (.int lv), .no, .d d], rfl, t, [.own l4, .d (.tuple ks), .d (.int ans), .d (.int tr), .d (.int lv), .no, .d d], ?_, ⟨c, t3, t4, by omega⟩, l4, t2, rfl⟩
      simp only [vAppM, k1, e_add, t1, DL.e_g1, DL.e_g2, DL.e_g3, DL.e_g4, DL.e_g5, DL.e_g6, DL.e_g7, DL.e_g8, DL.e_w8, DL.e_g9, DL.e_w9, DL.e_g10, DL.e_w10, DL.e_g11, DL.e_w11, DL.e_g12, DL.e_w12, DL.e_o1, DL.e_u1, DL.e_o2, DL.e_u2, DL.e_o3, DL.e_u3, DL.e_o4, DL.e_u4, DL.e_o5, DL.e_u5, DL.e_o6, DL.e_u6, DL.e_o7, DL.e_u7, DL.e_o8, DL.e_u8, DL.e_o9, DL.e_u9, DL.e_o10, DL.e_u10, DL.e_o11, DL.e_u11, DL.e_o12, DL.e_u12, DL.e_o0, DL.e_u0, DL.runP, DL.runN, DL.startD, List.map, List.length, List.replicate, List.append_nil, List.cons_append, List.nil_append, DL.e_bo, DL.e_be, DL.e_bb, DL.e_ao, DL.e_ae, DL.e_no, DL.e_nb, DL.e_cd, DL.e_cn, DL.e_ct, DL.e_co, DL.e_ce, DL.e_op, DL.e_if, DL.e_seq, DL.vOr, DL.vAnd, DL.vNot, DL.vTest, DL.vIsi, DL.vCall, DL.vCons, DL.vNil, DL.vConst, DL.vRet, DL.vNext, DL.vApp, DL.vNeg, DL.vChain, DL.vAndV, DL.vOrV, DL.vNotV, DL.vIf, ite_true, ite_false, if_true, if_false, Nat.reduceAdd, Nat.reduceSub, Nat.reduceEqDiff, reduceIte, Bool.true_and, Bool.and_true, Bool.not_true, Bool.not_false, Bool.false_eq_true, DL.endP, DL.endN, DL.cz2, DL.cz3, DL.cz4, DL.cz5, DL.cz6, DL.cz7, DL.cz8, DL.cz9, Int.natCast_add, Int.natCast_zero, Int.natCast_one, decide_true, decide_false, eq_self, not_true, not_false_eq_true, Bool.not_eq_true, DL.e_len_t, DL.e_len_l, DL.e_eq_ii, DL.e_ne_ii, DL.e_lt_ii, DL.e_le_ii, DL.e_gt_ii, DL.e_ge_ii, DL.e_ix_t0, DL.e_ix_t1, DL.e_ix_t2, DL.e_ix_t3, DL.e_ix_t4, DL.e_gcd, DL.p_none, DL.p_bool, DL.p_int, DL.p_str, DL.p_list, DL.p_tuple, DL.i_int_none, DL.i_int_bool, DL.i_int_int, DL.i_int_str, DL.i_int_list, DL.i_int_tuple, DL.i_bool_none, DL.i_bool_bool, DL.i_bool_int, DL.i_bool_str, DL.i_bool_list, DL.i_bool_tuple, DL.i_str_none, DL.i_str_bool, DL.i_str_int, DL.i_str_str, DL.i_str_list, DL.i_str_tuple, DL.i_tuple_none, DL.i_tuple_bool, DL.i_tuple_int, DL.i_tuple_str, DL.i_tuple_list, DL.i_tuple_tuple, DL.i_list_none, DL.i_list_bool, DL.i_list_int, DL.i_list_str, DL.i_list_list, DL.i_list_tuple, DL.e_v0, DL.e_t0, DL.e_s0_0, DL.e_s0_1, DL.e_s0_2, DL.e_v1, DL.e_t1, DL.e_s1_0, DL.e_s1_1, DL.e_s1_2, DL.e_s1_3, DL.e_v2, DL.e_t2, DL.e_s2_0, DL.e_s2_1, DL.e_s2_2, DL.e_s2_3, DL.e_v3, DL.e_t3, DL.e_s3_0, DL.e_s3_1, DL.e_s3_2, DL.e_s3_3, DL.e_v4, DL.e_t4, DL.e_s4_0, DL.e_s4_1, DL.e_s4_2, DL.e_s4_3, DL.e_v5, DL.e_t5, DL.e_s5_0, DL.e_s5_1, DL.e_s5_2, DL.e_s5_3, DL.e_v6, DL.e_t6, DL.e_s6_0, DL.e_s6_1, DL.e_s6_2, DL.e_s6_3, DL.e_v7, DL.e_t7, DL.e_s7_0, DL.e_s7_1, DL.e_s7_2, DL.e_s7_3])
  have c1' : _ = Res.ok (PyData.list ys, [Sl.own l', .d (.tuple ks), .d (.int ans), .d (.int tr), .d (.int lv), .no, .no]) := c1
  have g1 : gTuple [.list ys] = .ok (.tuple ys) := rfl
  have c2' := c2
  rw [rangeD_len] at c2'
  refine ⟨ys, l', ?_, hl', hks, hk1, hk3, ha, by omega, by omega, fun t ht => (at_mem c2 c3 t ht).elim fun _ z => z.2⟩
  · unfold ph__law_forest_of b__law_forest_of
    have s3 : 3 ≤ sizeLine := sz (by decide)
    refine runM_at (r := .ok (.rt (fT ks ans ys), [.own l', .d (.tuple ks), .d (.int ans), .d (.int tr), .d (.int lv), .d (.list ys), .no])) rfl (seq_nx (δ1 := [.own l', .d (.tuple ks), .d (.int ans), .d (.int tr), .d (.int lv), .d (.list ys), .no]) ?_ ?_) rfl
    · show vSet 5 _ [.own ls, .d (.tuple ks), .d (.int ans), .d (.int tr), .d (.int lv), .no, .no] = _
      unfold vSet
      rw [c1']
      rfl
    · simp only [vTup, g1, s3, DL.e_g1, DL.e_g2, DL.e_g3, DL.e_g4, DL.e_g5, DL.e_g6, DL.e_g7, DL.e_g8, DL.e_w8, DL.e_g9, DL.e_w9, DL.e_g10, DL.e_w10, DL.e_g11, DL.e_w11, DL.e_g12, DL.e_w12, DL.e_o1, DL.e_u1, DL.e_o2, DL.e_u2, DL.e_o3, DL.e_u3, DL.e_o4, DL.e_u4, DL.e_o5, DL.e_u5, DL.e_o6, DL.e_u6, DL.e_o7, DL.e_u7, DL.e_o8, DL.e_u8, DL.e_o9, DL.e_u9, DL.e_o10, DL.e_u10, DL.e_o11, DL.e_u11, DL.e_o12, DL.e_u12, DL.e_o0, DL.e_u0, DL.runP, DL.runN, DL.startD, List.map, List.length, List.replicate, List.append_nil, List.cons_append, List.nil_append, DL.e_bo, DL.e_be, DL.e_bb, DL.e_ao, DL.e_ae, DL.e_no, DL.e_nb, DL.e_cd, DL.e_cn, DL.e_ct, DL.e_co, DL.e_ce, DL.e_op, DL.e_if, DL.e_seq, DL.vOr, DL.vAnd, DL.vNot, DL.vTest, DL.vIsi, DL.vCall, DL.vCons, DL.vNil, DL.vConst, DL.vRet, DL.vNext, DL.vApp, DL.vNeg, DL.vChain, DL.vAndV, DL.vOrV, DL.vNotV, DL.vIf, ite_true, ite_false, if_true, if_false, Nat.reduceAdd, Nat.reduceSub, Nat.reduceEqDiff, reduceIte, Bool.true_and, Bool.and_true, Bool.not_true, Bool.not_false, Bool.false_eq_true, DL.endP, DL.endN, DL.cz2, DL.cz3, DL.cz4, DL.cz5, DL.cz6, DL.cz7, DL.cz8, DL.cz9, Int.natCast_add, Int.natCast_zero, Int.natCast_one, decide_true, decide_false, eq_self, not_true, not_false_eq_true, Bool.not_eq_true, DL.e_len_t, DL.e_len_l, DL.e_eq_ii, DL.e_ne_ii, DL.e_lt_ii, DL.e_le_ii, DL.e_gt_ii, DL.e_ge_ii, DL.e_ix_t0, DL.e_ix_t1, DL.e_ix_t2, DL.e_ix_t3, DL.e_ix_t4, DL.e_gcd, DL.p_none, DL.p_bool, DL.p_int, DL.p_str, DL.p_list, DL.p_tuple, DL.i_int_none, DL.i_int_bool, DL.i_int_int, DL.i_int_str, DL.i_int_list, DL.i_int_tuple, DL.i_bool_none, DL.i_bool_bool, DL.i_bool_int, DL.i_bool_str, DL.i_bool_list, DL.i_bool_tuple, DL.i_str_none, DL.i_str_bool, DL.i_str_int, DL.i_str_str, DL.i_str_list, DL.i_str_tuple, DL.i_tuple_none, DL.i_tuple_bool, DL.i_tuple_int, DL.i_tuple_str, DL.i_tuple_list, DL.i_tuple_tuple, DL.i_list_none, DL.i_list_bool, DL.i_list_int, DL.i_list_str, DL.i_list_list, DL.i_list_tuple, DL.e_v0, DL.e_t0, DL.e_s0_0, DL.e_s0_1, DL.e_s0_2, DL.e_v1, DL.e_t1, DL.e_s1_0, DL.e_s1_1, DL.e_s1_2, DL.e_s1_3, DL.e_v2, DL.e_t2, DL.e_s2_0, DL.e_s2_1, DL.e_s2_2, DL.e_s2_3, DL.e_v3, DL.e_t3, DL.e_s3_0, DL.e_s3_1, DL.e_s3_2, DL.e_s3_3, DL.e_v4, DL.e_t4, DL.e_s4_0, DL.e_s4_1, DL.e_s4_2, DL.e_s4_3, DL.e_v5, DL.e_t5, DL.e_s5_0, DL.e_s5_1, DL.e_s5_2, DL.e_s5_3, DL.e_v6, DL.e_t6, DL.e_s6_0, DL.e_s6_1, DL.e_s6_2, DL.e_s6_3, DL.e_v7, DL.e_t7, DL.e_s7_0, DL.e_s7_1, DL.e_s7_2, DL.e_s7_3]
theorem m_forest {ls : List PyData} (hd : Dice ls) {tr lv : Int} (htr : 1 ≤ tr ∧ tr ≤ 4) (hlv : 1 ≤ lv ∧ lv ≤ 8) : ∃ ks ans ts l', ph__law_forest ls [.int tr, .int lv] = .ok (fT ks ans ts, l') ∧ Dice l' ∧ ForestV ks ans ts := by
  obtain ⟨ks, l1, k1, k2, k3, k4, k5⟩ := m_kinds hd
  obtain ⟨r, l2, r1, r2, r3, r4⟩ := roll' k2 2 (by decide)
  obtain ⟨ts, l3, f1, f2, f3⟩ := m_forest_of k5 k3 k4 (ans := 2 + r) (by omega) htr hlv r2
  refine ⟨ks, 2 + r, ts, l3, ?_, f2, f3⟩
  unfold ph__law_forest b__law_forest
  refine runM_at (r := .ok (.rt (fT ks (2 + r) ts), [.own l3, .d (.int tr), .d (.int lv)])) rfl ?_ rfl
  show vRet _ [.own ls, .d (.int tr), .d (.int lv)] = _
  simp only [vAppM, k1, r1, e_add, f1, DL.e_g1, DL.e_g2, DL.e_g3, DL.e_g4, DL.e_g5, DL.e_g6, DL.e_g7, DL.e_g8, DL.e_w8, DL.e_g9, DL.e_w9, DL.e_g10, DL.e_w10, DL.e_g11, DL.e_w11, DL.e_g12, DL.e_w12, DL.e_o1, DL.e_u1, DL.e_o2, DL.e_u2, DL.e_o3, DL.e_u3, DL.e_o4, DL.e_u4, DL.e_o5, DL.e_u5, DL.e_o6, DL.e_u6, DL.e_o7, DL.e_u7, DL.e_o8, DL.e_u8, DL.e_o9, DL.e_u9, DL.e_o10, DL.e_u10, DL.e_o11, DL.e_u11, DL.e_o12, DL.e_u12, DL.e_o0, DL.e_u0, DL.runP, DL.runN, DL.startD, List.map, List.length, List.replicate, List.append_nil, List.cons_append, List.nil_append, DL.e_bo, DL.e_be, DL.e_bb, DL.e_ao, DL.e_ae, DL.e_no, DL.e_nb, DL.e_cd, DL.e_cn, DL.e_ct, DL.e_co, DL.e_ce, DL.e_op, DL.e_if, DL.e_seq, DL.vOr, DL.vAnd, DL.vNot, DL.vTest, DL.vIsi, DL.vCall, DL.vCons, DL.vNil, DL.vConst, DL.vRet, DL.vNext, DL.vApp, DL.vNeg, DL.vChain, DL.vAndV, DL.vOrV, DL.vNotV, DL.vIf, ite_true, ite_false, if_true, if_false, Nat.reduceAdd, Nat.reduceSub, Nat.reduceEqDiff, reduceIte, Bool.true_and, Bool.and_true, Bool.not_true, Bool.not_false, Bool.false_eq_true, DL.endP, DL.endN, DL.cz2, DL.cz3, DL.cz4, DL.cz5, DL.cz6, DL.cz7, DL.cz8, DL.cz9, Int.natCast_add, Int.natCast_zero, Int.natCast_one, decide_true, decide_false, eq_self, not_true, not_false_eq_true, Bool.not_eq_true, DL.e_len_t, DL.e_len_l, DL.e_eq_ii, DL.e_ne_ii, DL.e_lt_ii, DL.e_le_ii, DL.e_gt_ii, DL.e_ge_ii, DL.e_ix_t0, DL.e_ix_t1, DL.e_ix_t2, DL.e_ix_t3, DL.e_ix_t4, DL.e_gcd, DL.p_none, DL.p_bool, DL.p_int, DL.p_str, DL.p_list, DL.p_tuple, DL.i_int_none, DL.i_int_bool, DL.i_int_int, DL.i_int_str, DL.i_int_list, DL.i_int_tuple, DL.i_bool_none, DL.i_bool_bool, DL.i_bool_int, DL.i_bool_str, DL.i_bool_list, DL.i_bool_tuple, DL.i_str_none, DL.i_str_bool, DL.i_str_int, DL.i_str_str, DL.i_str_list, DL.i_str_tuple, DL.i_tuple_none, DL.i_tuple_bool, DL.i_tuple_int, DL.i_tuple_str, DL.i_tuple_list, DL.i_tuple_tuple, DL.i_list_none, DL.i_list_bool, DL.i_list_int, DL.i_list_str, DL.i_list_list, DL.i_list_tuple, DL.e_v0, DL.e_t0, DL.e_s0_0, DL.e_s0_1, DL.e_s0_2, DL.e_v1, DL.e_t1, DL.e_s1_0, DL.e_s1_1, DL.e_s1_2, DL.e_s1_3, DL.e_v2, DL.e_t2, DL.e_s2_0, DL.e_s2_1, DL.e_s2_2, DL.e_s2_3, DL.e_v3, DL.e_t3, DL.e_s3_0, DL.e_s3_1, DL.e_s3_2, DL.e_s3_3, DL.e_v4, DL.e_t4, DL.e_s4_0, DL.e_s4_1, DL.e_s4_2, DL.e_s4_3, DL.e_v5, DL.e_t5, DL.e_s5_0, DL.e_s5_1, DL.e_s5_2, DL.e_s5_3, DL.e_v6, DL.e_t6, DL.e_s6_0, DL.e_s6_1, DL.e_s6_2, DL.e_s6_3, DL.e_v7, DL.e_t7, DL.e_s7_0, DL.e_s7_1, DL.e_s7_2, DL.e_s7_3]
theorem bb1 : gEq (.str "below") (.str "below") = .ok (.bool true) := by kernel_rfl
theorem TreeV.pos {ks t : _} {ans : Int} {c : Nat} (h : TreeV ks ans c t) : 1 ≤ c := by
  induction h with
  | leafC => exact Nat.le_refl 1
  | testC => omega
end Vw
set_option linter.all false
set_option maxRecDepth 100000
set_option maxHeartbeats 1000000
namespace DL
open PySem PySem.Spec L2
theorem all_at (β : PyData → Bool) : ∀ ds : List PyData, boolsOf (ds.filterMap fun d => some (.bool (β d))) = some (ds.map β)
  | [] => rfl
  | d :: ds => by
    rw [List.filterMap_cons]
    dsimp only
    rw [boolsOf, all_at β ds] <;> rfl
theorem gAll_at (β : PyData → Bool) (ds : List PyData) : gAll [.list (ds.filterMap fun d => some (.bool (β d)))] = .ok (.bool (ds.all β)) := by
  show (match boolsOf (ds.filterMap fun d => some (.bool (β d))) with | some ns => Res.ok (PyData.bool (ns.all id)) | none => .bad) = _
  rw [all_at]
  dsimp only
  rw [List.all_map] <;> rfl
theorem len0 : gLen [.tuple []] = .ok (.int 0) := rfl
theorem len2 (a b : PyData) : gLen [.tuple [a, b]] = .ok (.int 2) := rfl
theorem len3 (a b c : PyData) : gLen [.tuple [a, b, c]] = .ok (.int 3) := rfl
theorem len5 (a b c d e : PyData) : gLen [.tuple [a, b, c, d, e]] = .ok (.int 5) := rfl
end DL
namespace Vw
open PySem PySem.Spec L2 DL
theorem d20 : decide ((2 : Int) = 0) = false := by decide
theorem d50 : decide ((5 : Int) = 0) = false := by decide
theorem m_whole (i : Int) : ph_is_whole [.int i] = .ok (.bool true) := by
  refine runP_at (r := .ok (.rt (.bool true), [.d (.int i)])) rfl ?_ rfl
  show b_is_whole [.d (.int i)] = _
  unfold b_is_whole
  simp only [e_o0, DL.e_g1, DL.e_g2, DL.e_g3, DL.e_g4, DL.e_g5, DL.e_g6, DL.e_g7, DL.e_g8, DL.e_w8, DL.e_g9, DL.e_w9, DL.e_g10, DL.e_w10, DL.e_g11, DL.e_w11, DL.e_g12, DL.e_w12, DL.e_o1, DL.e_u1, DL.e_o2, DL.e_u2, DL.e_o3, DL.e_u3, DL.e_o4, DL.e_u4, DL.e_o5, DL.e_u5, DL.e_o6, DL.e_u6, DL.e_o7, DL.e_u7, DL.e_o8, DL.e_u8, DL.e_o9, DL.e_u9, DL.e_o10, DL.e_u10, DL.e_o11, DL.e_u11, DL.e_o12, DL.e_u12, DL.e_o0, DL.e_u0, DL.runP, DL.runN, DL.startD, List.map, List.length, List.replicate, List.append_nil, List.cons_append, List.nil_append, DL.e_bo, DL.e_be, DL.e_bb, DL.e_ao, DL.e_ae, DL.e_no, DL.e_nb, DL.e_cd, DL.e_cn, DL.e_ct, DL.e_co, DL.e_ce, DL.e_op, DL.e_if, DL.e_seq, DL.vOr, DL.vAnd, DL.vNot, DL.vTest, DL.vIsi, DL.vCall, DL.vCons, DL.vNil, DL.vConst, DL.vRet, DL.vNext, DL.vApp, DL.vNeg, DL.vChain, DL.vAndV, DL.vOrV, DL.vNotV, DL.vIf, ite_true, ite_false, if_true, if_false, Nat.reduceAdd, Nat.reduceSub, Nat.reduceEqDiff, reduceIte, Bool.true_and, Bool.and_true, Bool.not_true, Bool.not_false, Bool.false_eq_true, DL.endP, DL.endN, DL.cz2, DL.cz3, DL.cz4, DL.cz5, DL.cz6, DL.cz7, DL.cz8, DL.cz9, Int.natCast_add, Int.natCast_zero, Int.natCast_one, decide_true, decide_false, eq_self, not_true, not_false_eq_true, Bool.not_eq_true, DL.e_len_t, DL.e_len_l, DL.e_eq_ii, DL.e_ne_ii, DL.e_lt_ii, DL.e_le_ii, DL.e_gt_ii, DL.e_ge_ii, DL.e_ix_t0, DL.e_ix_t1, DL.e_ix_t2, DL.e_ix_t3, DL.e_ix_t4, DL.e_gcd, DL.p_none, DL.p_bool, DL.p_int, DL.p_str, DL.p_list, DL.p_tuple, DL.i_int_none, DL.i_int_bool, DL.i_int_int, DL.i_int_str, DL.i_int_list, DL.i_int_tuple, DL.i_bool_none, DL.i_bool_bool, DL.i_bool_int, DL.i_bool_str, DL.i_bool_list, DL.i_bool_tuple, DL.i_str_none, DL.i_str_bool, DL.i_str_int, DL.i_str_str, DL.i_str_list, DL.i_str_tuple, DL.i_tuple_none, DL.i_tuple_bool, DL.i_tuple_int, DL.i_tuple_str, DL.i_tuple_list, DL.i_tuple_tuple, DL.i_list_none, DL.i_list_bool, DL.i_list_int, DL.i_list_str, DL.i_list_list, DL.i_list_tuple, DL.e_v0, DL.e_t0, DL.e_s0_0, DL.e_s0_1, DL.e_s0_2, DL.e_v1, DL.e_t1, DL.e_s1_0, DL.e_s1_1, DL.e_s1_2, DL.e_s1_3, DL.e_v2, DL.e_t2, DL.e_s2_0, DL.e_s2_1, DL.e_s2_2, DL.e_s2_3, DL.e_v3, DL.e_t3, DL.e_s3_0, DL.e_s3_1, DL.e_s3_2, DL.e_s3_3, DL.e_v4, DL.e_t4, DL.e_s4_0, DL.e_s4_1, DL.e_s4_2, DL.e_s4_3, DL.e_v5, DL.e_t5, DL.e_s5_0, DL.e_s5_1, DL.e_s5_2, DL.e_s5_3, DL.e_v6, DL.e_t6, DL.e_s6_0, DL.e_s6_1, DL.e_s6_2, DL.e_s6_3, DL.e_v7, DL.e_t7, DL.e_s7_0, DL.e_s7_1, DL.e_s7_2, DL.e_s7_3]
theorem m_fraction {T B : Int} {d : PyData} (h : Frac T B d) : ph_is_fraction [d, .int T, .int B] = .ok (.bool true) := by
  obtain ⟨x, y, rfl, h1, h2, h3, h4, h5⟩ := h
  have w1 := m_whole x
  have w2 := m_whole y
  have t1 : decide (-T ≤ x) = true := decide_eq_true h1
  have t2 : decide (x ≤ T) = true := decide_eq_true h2
  have t3 : decide (1 ≤ y) = true := decide_eq_true h3
  have t4 : decide (y ≤ B) = true := decide_eq_true h4
  have ng : (vNeg (vVar 1)) [.d (.tuple [.int x, .int y]), .d (.int T), .d (.int B)] = .ok (.int (-T), [.d (.tuple [.int x, .int y]), .d (.int T), .d (.int B)]) := rfl
  refine runP_at (r := .ok (.rt (.bool true), [.d (.tuple [.int x, .int y]), .d (.int T), .d (.int B)])) rfl ?_ rfl
  show b_is_fraction [.d (.tuple [.int x, .int y]), .d (.int T), .d (.int B)] = _
  unfold b_is_fraction
  refine seq_nx (δ1 := [.d (.tuple [.int x, .int y]), .d (.int T), .d (.int B)]) ?_ (seq_nx (δ1 := [.d (.tuple [.int x, .int y]), .d (.int T), .d (.int B)]) ?_ (seq_nx (δ1 := [.d (.tuple [.int x, .int y]), .d (.int T), .d (.int B)]) ?_ ?_))
  · simp only [len2, DL.e_g1, DL.e_g2, DL.e_g3, DL.e_g4, DL.e_g5, DL.e_g6, DL.e_g7, DL.e_g8, DL.e_w8, DL.e_g9, DL.e_w9, DL.e_g10, DL.e_w10, DL.e_g11, DL.e_w11, DL.e_g12, DL.e_w12, DL.e_o1, DL.e_u1, DL.e_o2, DL.e_u2, DL.e_o3, DL.e_u3, DL.e_o4, DL.e_u4, DL.e_o5, DL.e_u5, DL.e_o6, DL.e_u6, DL.e_o7, DL.e_u7, DL.e_o8, DL.e_u8, DL.e_o9, DL.e_u9, DL.e_o10, DL.e_u10, DL.e_o11, DL.e_u11, DL.e_o12, DL.e_u12, DL.e_o0, DL.e_u0, DL.runP, DL.runN, DL.startD, List.map, List.length, List.replicate, List.append_nil, List.cons_append, List.nil_append, DL.e_bo, DL.e_be, DL.e_bb, DL.e_ao, DL.e_ae, DL.e_no, DL.e_nb, DL.e_cd, DL.e_cn, DL.e_ct, DL.e_co, DL.e_ce, DL.e_op, DL.e_if, DL.e_seq, DL.vOr, DL.vAnd, DL.vNot, DL.vTest, DL.vIsi, DL.vCall, DL.vCons, DL.vNil, DL.vConst, DL.vRet, DL.vNext, DL.vApp, DL.vNeg, DL.vChain, DL.vAndV, DL.vOrV, DL.vNotV, DL.vIf, ite_true, ite_false, if_true, if_false, Nat.reduceAdd, Nat.reduceSub, Nat.reduceEqDiff, reduceIte, Bool.true_and, Bool.and_true, Bool.not_true, Bool.not_false, Bool.false_eq_true, DL.endP, DL.endN, DL.cz2, DL.cz3, DL.cz4, DL.cz5, DL.cz6, DL.cz7, DL.cz8, DL.cz9, Int.natCast_add, Int.natCast_zero, Int.natCast_one, decide_true, decide_false, eq_self, not_true, not_false_eq_true, Bool.not_eq_true, DL.e_len_t, DL.e_len_l, DL.e_eq_ii, DL.e_ne_ii, DL.e_lt_ii, DL.e_le_ii, DL.e_gt_ii, DL.e_ge_ii, DL.e_ix_t0, DL.e_ix_t1, DL.e_ix_t2, DL.e_ix_t3, DL.e_ix_t4, DL.e_gcd, DL.p_none, DL.p_bool, DL.p_int, DL.p_str, DL.p_list, DL.p_tuple, DL.i_int_none, DL.i_int_bool, DL.i_int_int, DL.i_int_str, DL.i_int_list, DL.i_int_tuple, DL.i_bool_none, DL.i_bool_bool, DL.i_bool_int, DL.i_bool_str, DL.i_bool_list, DL.i_bool_tuple, DL.i_str_none, DL.i_str_bool, DL.i_str_int, DL.i_str_str, DL.i_str_list, DL.i_str_tuple, DL.i_tuple_none, DL.i_tuple_bool, DL.i_tuple_int, DL.i_tuple_str, DL.i_tuple_list, DL.i_tuple_tuple, DL.i_list_none, DL.i_list_bool, DL.i_list_int, DL.i_list_str, DL.i_list_list, DL.i_list_tuple, DL.e_v0, DL.e_t0, DL.e_s0_0, DL.e_s0_1, DL.e_s0_2, DL.e_v1, DL.e_t1, DL.e_s1_0, DL.e_s1_1, DL.e_s1_2, DL.e_s1_3, DL.e_v2, DL.e_t2, DL.e_s2_0, DL.e_s2_1, DL.e_s2_2, DL.e_s2_3, DL.e_v3, DL.e_t3, DL.e_s3_0, DL.e_s3_1, DL.e_s3_2, DL.e_s3_3, DL.e_v4, DL.e_t4, DL.e_s4_0, DL.e_s4_1, DL.e_s4_2, DL.e_s4_3, DL.e_v5, DL.e_t5, DL.e_s5_0, DL.e_s5_1, DL.e_s5_2, DL.e_s5_3, DL.e_v6, DL.e_t6, DL.e_s6_0, DL.e_s6_1, DL.e_s6_2, DL.e_s6_3, DL.e_v7, DL.e_t7, DL.e_s7_0, DL.e_s7_1, DL.e_s7_2, DL.e_s7_3]
  · simp only [w1, w2, DL.e_g1, DL.e_g2, DL.e_g3, DL.e_g4, DL.e_g5, DL.e_g6, DL.e_g7, DL.e_g8, DL.e_w8, DL.e_g9, DL.e_w9, DL.e_g10, DL.e_w10, DL.e_g11, DL.e_w11, DL.e_g12, DL.e_w12, DL.e_o1, DL.e_u1, DL.e_o2, DL.e_u2, DL.e_o3, DL.e_u3, DL.e_o4, DL.e_u4, DL.e_o5, DL.e_u5, DL.e_o6, DL.e_u6, DL.e_o7, DL.e_u7, DL.e_o8, DL.e_u8, DL.e_o9, DL.e_u9, DL.e_o10, DL.e_u10, DL.e_o11, DL.e_u11, DL.e_o12, DL.e_u12, DL.e_o0, DL.e_u0, DL.runP, DL.runN, DL.startD, List.map, List.length, List.replicate, List.append_nil, List.cons_append, List.nil_append, DL.e_bo, DL.e_be, DL.e_bb, DL.e_ao, DL.e_ae, DL.e_no, DL.e_nb, DL.e_cd, DL.e_cn, DL.e_ct, DL.e_co, DL.e_ce, DL.e_op, DL.e_if, DL.e_seq, DL.vOr, DL.vAnd, DL.vNot, DL.vTest, DL.vIsi, DL.vCall, DL.vCons, DL.vNil, DL.vConst, DL.vRet, DL.vNext, DL.vApp, DL.vNeg, DL.vChain, DL.vAndV, DL.vOrV, DL.vNotV, DL.vIf, ite_true, ite_false, if_true, if_false, Nat.reduceAdd, Nat.reduceSub, Nat.reduceEqDiff, reduceIte, Bool.true_and, Bool.and_true, Bool.not_true, Bool.not_false, Bool.false_eq_true, DL.endP, DL.endN, DL.cz2, DL.cz3, DL.cz4, DL.cz5, DL.cz6, DL.cz7, DL.cz8, DL.cz9, Int.natCast_add, Int.natCast_zero, Int.natCast_one, decide_true, decide_false, eq_self, not_true, not_false_eq_true, Bool.not_eq_true, DL.e_len_t, DL.e_len_l, DL.e_eq_ii, DL.e_ne_ii, DL.e_lt_ii, DL.e_le_ii, DL.e_gt_ii, DL.e_ge_ii, DL.e_ix_t0, DL.e_ix_t1, DL.e_ix_t2, DL.e_ix_t3, DL.e_ix_t4, DL.e_gcd, DL.p_none, DL.p_bool, DL.p_int, DL.p_str, DL.p_list, DL.p_tuple, DL.i_int_none, DL.i_int_bool, DL.i_int_int, DL.i_int_str, DL.i_int_list, DL.i_int_tuple, DL.i_bool_none, DL.i_bool_bool, DL.i_bool_int, DL.i_bool_str, DL.i_bool_list, DL.i_bool_tuple, DL.i_str_none, DL.i_str_bool, DL.i_str_int, DL.i_str_str, DL.i_str_list, DL.i_str_tuple, DL.i_tuple_none, DL.i_tuple_bool, DL.i_tuple_int, DL.i_tuple_str, DL.i_tuple_list, DL.i_tuple_tuple, DL.i_list_none, DL.i_list_bool, DL.i_list_int, DL.i_list_str, DL.i_list_list, DL.i_list_tuple, DL.e_v0, DL.e_t0, DL.e_s0_0, DL.e_s0_1, DL.e_s0_2, DL.e_v1, DL.e_t1, DL.e_s1_0, DL.e_s1_1, DL.e_s1_2, DL.e_s1_3, DL.e_v2, DL.e_t2, DL.e_s2_0, DL.e_s2_1, DL.e_s2_2, DL.e_s2_3, DL.e_v3, DL.e_t3, DL.e_s3_0, DL.e_s3_1, DL.e_s3_2, DL.e_s3_3, DL.e_v4, DL.e_t4, DL.e_s4_0, DL.e_s4_1, DL.e_s4_2, DL.e_s4_3, DL.e_v5, DL.e_t5, DL.e_s5_0, DL.e_s5_1, DL.e_s5_2, DL.e_s5_3, DL.e_v6, DL.e_t6, DL.e_s6_0, DL.e_s6_1, DL.e_s6_2, DL.e_s6_3, DL.e_v7, DL.e_t7, DL.e_s7_0, DL.e_s7_1, DL.e_s7_2, DL.e_s7_3]
  · simp only [t1, t2, t3, t4, DL.e_g1, DL.e_g2, DL.e_g3, DL.e_g4, DL.e_g5, DL.e_g6, DL.e_g7, DL.e_g8, DL.e_w8, DL.e_g9, DL.e_w9, DL.e_g10, DL.e_w10, DL.e_g11, DL.e_w11, DL.e_g12, DL.e_w12, DL.e_o1, DL.e_u1, DL.e_o2, DL.e_u2, DL.e_o3, DL.e_u3, DL.e_o4, DL.e_u4, DL.e_o5, DL.e_u5, DL.e_o6, DL.e_u6, DL.e_o7, DL.e_u7, DL.e_o8, DL.e_u8, DL.e_o9, DL.e_u9, DL.e_o10, DL.e_u10, DL.e_o11, DL.e_u11, DL.e_o12, DL.e_u12, DL.e_o0, DL.e_u0, DL.runP, DL.runN, DL.startD, List.map, List.length, List.replicate, List.append_nil, List.cons_append, List.nil_append, DL.e_bo, DL.e_be, DL.e_bb, DL.e_ao, DL.e_ae, DL.e_no, DL.e_nb, DL.e_cd, DL.e_cn, DL.e_ct, DL.e_co, DL.e_ce, DL.e_op, DL.e_if, DL.e_seq, DL.vOr, DL.vAnd, DL.vNot, DL.vTest, DL.vIsi, DL.vCall, DL.vCons, DL.vNil, DL.vConst, DL.vRet, DL.vNext, DL.vApp, DL.vNeg, DL.vChain, DL.vAndV, DL.vOrV, DL.vNotV, DL.vIf, ite_true, ite_false, if_true, if_false, Nat.reduceAdd, Nat.reduceSub, Nat.reduceEqDiff, reduceIte, Bool.true_and, Bool.and_true, Bool.not_true, Bool.not_false, Bool.false_eq_true, DL.endP, DL.endN, DL.cz2, DL.cz3, DL.cz4, DL.cz5, DL.cz6, DL.cz7, DL.cz8, DL.cz9, Int.natCast_add, Int.natCast_zero, Int.natCast_one, decide_true, decide_false, eq_self, not_true, not_false_eq_true, Bool.not_eq_true, DL.e_len_t, DL.e_len_l, DL.e_eq_ii, DL.e_ne_ii, DL.e_lt_ii, DL.e_le_ii, DL.e_gt_ii, DL.e_ge_ii, DL.e_ix_t0, DL.e_ix_t1, DL.e_ix_t2, DL.e_ix_t3, DL.e_ix_t4, DL.e_gcd, DL.p_none, DL.p_bool, DL.p_int, DL.p_str, DL.p_list, DL.p_tuple, DL.i_int_none, DL.i_int_bool, DL.i_int_int, DL.i_int_str, DL.i_int_list, DL.i_int_tuple, DL.i_bool_none, DL.i_bool_bool, DL.i_bool_int, DL.i_bool_str, DL.i_bool_list, DL.i_bool_tuple, DL.i_str_none, DL.i_str_bool, DL.i_str_int, DL.i_str_str, DL.i_str_list, DL.i_str_tuple, DL.i_tuple_none, DL.i_tuple_bool, DL.i_tuple_int, DL.i_tuple_str, DL.i_tuple_list, DL.i_tuple_tuple, DL.i_list_none, DL.i_list_bool, DL.i_list_int, DL.i_list_str, DL.i_list_list, DL.i_list_tuple, DL.e_v0, DL.e_t0, DL.e_s0_0, DL.e_s0_1, DL.e_s0_2, DL.e_v1, DL.e_t1, DL.e_s1_0, DL.e_s1_1, DL.e_s1_2, DL.e_s1_3, DL.e_v2, DL.e_t2, DL.e_s2_0, DL.e_s2_1, DL.e_s2_2, DL.e_s2_3, DL.e_v3, DL.e_t3, DL.e_s3_0, DL.e_s3_1, DL.e_s3_2, DL.e_s3_3, DL.e_v4, DL.e_t4, DL.e_s4_0, DL.e_s4_1, DL.e_s4_2, DL.e_s4_3, DL.e_v5, DL.e_t5, DL.e_s5_0, DL.e_s5_1, DL.e_s5_2, DL.e_s5_3, DL.e_v6, DL.e_t6, DL.e_s6_0, DL.e_s6_1, DL.e_s6_2, DL.e_s6_3, DL.e_v7, DL.e_t7, DL.e_s7_0, DL.e_s7_1, DL.e_s7_2, DL.e_s7_3]
  · have g : gGcd [.int x, .int y] = .ok (.int 1) := by rw [e_gcd, h5] <;> rfl
    simp only [g, DL.e_g1, DL.e_g2, DL.e_g3, DL.e_g4, DL.e_g5, DL.e_g6, DL.e_g7, DL.e_g8, DL.e_w8, DL.e_g9, DL.e_w9, DL.e_g10, DL.e_w10, DL.e_g11, DL.e_w11, DL.e_g12, DL.e_w12, DL.e_o1, DL.e_u1, DL.e_o2, DL.e_u2, DL.e_o3, DL.e_u3, DL.e_o4, DL.e_u4, DL.e_o5, DL.e_u5, DL.e_o6, DL.e_u6, DL.e_o7, DL.e_u7, DL.e_o8, DL.e_u8, DL.e_o9, DL.e_u9, DL.e_o10, DL.e_u10, DL.e_o11, DL.e_u11, DL.e_o12, DL.e_u12, DL.e_o0, DL.e_u0, DL.runP, DL.runN, DL.startD, List.map, List.length, List.replicate, List.append_nil, List.cons_append, List.nil_append, DL.e_bo, DL.e_be, DL.e_bb, DL.e_ao, DL.e_ae, DL.e_no, DL.e_nb, DL.e_cd, DL.e_cn, DL.e_ct, DL.e_co, DL.e_ce, DL.e_op, DL.e_if, DL.e_seq, DL.vOr, DL.vAnd, DL.vNot, DL.vTest, DL.vIsi, DL.vCall, DL.vCons, DL.vNil, DL.vConst, DL.vRet, DL.vNext, DL.vApp, DL.vNeg, DL.vChain, DL.vAndV, DL.vOrV, DL.vNotV, DL.vIf, ite_true, ite_false, if_true, if_false, Nat.reduceAdd, Nat.reduceSub, Nat.reduceEqDiff, reduceIte, Bool.true_and, Bool.and_true, Bool.not_true, Bool.not_false, Bool.false_eq_true, DL.endP, DL.endN, DL.cz2, DL.cz3, DL.cz4, DL.cz5, DL.cz6, DL.cz7, DL.cz8, DL.cz9, Int.natCast_add, Int.natCast_zero, Int.natCast_one, decide_true, decide_false, eq_self, not_true, not_false_eq_true, Bool.not_eq_true, DL.e_len_t, DL.e_len_l, DL.e_eq_ii, DL.e_ne_ii, DL.e_lt_ii, DL.e_le_ii, DL.e_gt_ii, DL.e_ge_ii, DL.e_ix_t0, DL.e_ix_t1, DL.e_ix_t2, DL.e_ix_t3, DL.e_ix_t4, DL.e_gcd, DL.p_none, DL.p_bool, DL.p_int, DL.p_str, DL.p_list, DL.p_tuple, DL.i_int_none, DL.i_int_bool, DL.i_int_int, DL.i_int_str, DL.i_int_list, DL.i_int_tuple, DL.i_bool_none, DL.i_bool_bool, DL.i_bool_int, DL.i_bool_str, DL.i_bool_list, DL.i_bool_tuple, DL.i_str_none, DL.i_str_bool, DL.i_str_int, DL.i_str_str, DL.i_str_list, DL.i_str_tuple, DL.i_tuple_none, DL.i_tuple_bool, DL.i_tuple_int, DL.i_tuple_str, DL.i_tuple_list, DL.i_tuple_tuple, DL.i_list_none, DL.i_list_bool, DL.i_list_int, DL.i_list_str, DL.i_list_list, DL.i_list_tuple, DL.e_v0, DL.e_t0, DL.e_s0_0, DL.e_s0_1, DL.e_s0_2, DL.e_v1, DL.e_t1, DL.e_s1_0, DL.e_s1_1, DL.e_s1_2, DL.e_s1_3, DL.e_v2, DL.e_t2, DL.e_s2_0, DL.e_s2_1, DL.e_s2_2, DL.e_s2_3, DL.e_v3, DL.e_t3, DL.e_s3_0, DL.e_s3_1, DL.e_s3_2, DL.e_s3_3, DL.e_v4, DL.e_t4, DL.e_s4_0, DL.e_s4_1, DL.e_s4_2, DL.e_s4_3, DL.e_v5, DL.e_t5, DL.e_s5_0, DL.e_s5_1, DL.e_s5_2, DL.e_s5_3, DL.e_v6, DL.e_t6, DL.e_s6_0, DL.e_s6_1, DL.e_s6_2, DL.e_s6_3, DL.e_v7, DL.e_t7, DL.e_s7_0, DL.e_s7_1, DL.e_s7_2, DL.e_s7_3]
theorem m_part {p : Int} {ks : List PyData} (h0 : 0 ≤ p) (h1 : p < ks.length) : ph_is_part [.int p, .tuple ks] = .ok (.bool true) := by
  have w1 := m_whole p
  have t1 : decide (0 ≤ p) = true := decide_eq_true h0
  have t2 : decide (p < ks.length) = true := decide_eq_true h1
  refine runP_at (r := .ok (.rt (.bool true), [.d (.int p), .d (.tuple ks)])) rfl ?_ rfl
  show b_is_part [.d (.int p), .d (.tuple ks)] = _
  unfold b_is_part
  simp only [w1, t1, t2, DL.e_g1, DL.e_g2, DL.e_g3, DL.e_g4, DL.e_g5, DL.e_g6, DL.e_g7, DL.e_g8, DL.e_w8, DL.e_g9, DL.e_w9, DL.e_g10, DL.e_w10, DL.e_g11, DL.e_w11, DL.e_g12, DL.e_w12, DL.e_o1, DL.e_u1, DL.e_o2, DL.e_u2, DL.e_o3, DL.e_u3, DL.e_o4, DL.e_u4, DL.e_o5, DL.e_u5, DL.e_o6, DL.e_u6, DL.e_o7, DL.e_u7, DL.e_o8, DL.e_u8, DL.e_o9, DL.e_u9, DL.e_o10, DL.e_u10, DL.e_o11, DL.e_u11, DL.e_o12, DL.e_u12, DL.e_o0, DL.e_u0, DL.runP, DL.runN, DL.startD, List.map, List.length, List.replicate, List.append_nil, List.cons_append, List.nil_append, DL.e_bo, DL.e_be, DL.e_bb, DL.e_ao, DL.e_ae, DL.e_no, DL.e_nb, DL.e_cd, DL.e_cn, DL.e_ct, DL.e_co, DL.e_ce, DL.e_op, DL.e_if, DL.e_seq, DL.vOr, DL.vAnd, DL.vNot, DL.vTest, DL.vIsi, DL.vCall, DL.vCons, DL.vNil, DL.vConst, DL.vRet, DL.vNext, DL.vApp, DL.vNeg, DL.vChain, DL.vAndV, DL.vOrV, DL.vNotV, DL.vIf, ite_true, ite_false, if_true, if_false, Nat.reduceAdd, Nat.reduceSub, Nat.reduceEqDiff, reduceIte, Bool.true_and, Bool.and_true, Bool.not_true, Bool.not_false, Bool.false_eq_true, DL.endP, DL.endN, DL.cz2, DL.cz3, DL.cz4, DL.cz5, DL.cz6, DL.cz7, DL.cz8, DL.cz9, Int.natCast_add, Int.natCast_zero, Int.natCast_one, decide_true, decide_false, eq_self, not_true, not_false_eq_true, Bool.not_eq_true, DL.e_len_t, DL.e_len_l, DL.e_eq_ii, DL.e_ne_ii, DL.e_lt_ii, DL.e_le_ii, DL.e_gt_ii, DL.e_ge_ii, DL.e_ix_t0, DL.e_ix_t1, DL.e_ix_t2, DL.e_ix_t3, DL.e_ix_t4, DL.e_gcd, DL.p_none, DL.p_bool, DL.p_int, DL.p_str, DL.p_list, DL.p_tuple, DL.i_int_none, DL.i_int_bool, DL.i_int_int, DL.i_int_str, DL.i_int_list, DL.i_int_tuple, DL.i_bool_none, DL.i_bool_bool, DL.i_bool_int, DL.i_bool_str, DL.i_bool_list, DL.i_bool_tuple, DL.i_str_none, DL.i_str_bool, DL.i_str_int, DL.i_str_str, DL.i_str_list, DL.i_str_tuple, DL.i_tuple_none, DL.i_tuple_bool, DL.i_tuple_int, DL.i_tuple_str, DL.i_tuple_list, DL.i_tuple_tuple, DL.i_list_none, DL.i_list_bool, DL.i_list_int, DL.i_list_str, DL.i_list_list, DL.i_list_tuple, DL.e_v0, DL.e_t0, DL.e_s0_0, DL.e_s0_1, DL.e_s0_2, DL.e_v1, DL.e_t1, DL.e_s1_0, DL.e_s1_1, DL.e_s1_2, DL.e_s1_3, DL.e_v2, DL.e_t2, DL.e_s2_0, DL.e_s2_1, DL.e_s2_2, DL.e_s2_3, DL.e_v3, DL.e_t3, DL.e_s3_0, DL.e_s3_1, DL.e_s3_2, DL.e_s3_3, DL.e_v4, DL.e_t4, DL.e_s4_0, DL.e_s4_1, DL.e_s4_2, DL.e_s4_3, DL.e_v5, DL.e_t5, DL.e_s5_0, DL.e_s5_1, DL.e_s5_2, DL.e_s5_3, DL.e_v6, DL.e_t6, DL.e_s6_0, DL.e_s6_1, DL.e_s6_2, DL.e_s6_3, DL.e_v7, DL.e_t7, DL.e_s7_0, DL.e_s7_1, DL.e_s7_2, DL.e_s7_3]
theorem aa1 : gEq (.str "among") (.str "among") = .ok (.bool true) := by kernel_rfl
theorem m_test {ks : List PyData} {w k b : PyData} {p : Int} (h0 : 0 ≤ p) (h1 : p < ks.length) (hk : gIx (.tuple ks) (.int p) = .ok k) (hb : Bd k w b) : ph_is_test [w, .int p, b, .tuple ks] = .ok (.bool true) := by
  have q := m_part h0 h1
  refine runP_at (r := .ok (.rt (.bool true), [.d w, .d (.int p), .d b, .d (.tuple ks)])) rfl ?_ rfl
  show b_is_test [.d w, .d (.int p), .d b, .d (.tuple ks)] = _
  unfold b_is_test
  refine seq_nx (δ1 := [.d w, .d (.int p), .d b, .d (.tuple ks)]) (by simp only [q, DL.e_g1, DL.e_g2, DL.e_g3, DL.e_g4, DL.e_g5, DL.e_g6, DL.e_g7, DL.e_g8, DL.e_w8, DL.e_g9, DL.e_w9, DL.e_g10, DL.e_w10, DL.e_g11, DL.e_w11, DL.e_g12, DL.e_w12, DL.e_o1, DL.e_u1, DL.e_o2, DL.e_u2, DL.e_o3, DL.e_u3, DL.e_o4, DL.e_u4, DL.e_o5, DL.e_u5, DL.e_o6, DL.e_u6, DL.e_o7, DL.e_u7, DL.e_o8, DL.e_u8, DL.e_o9, DL.e_u9, DL.e_o10, DL.e_u10, DL.e_o11, DL.e_u11, DL.e_o12, DL.e_u12, DL.e_o0, DL.e_u0, DL.runP, DL.runN, DL.startD, List.map, List.length, List.replicate, List.append_nil, List.cons_append, List.nil_append, DL.e_bo, DL.e_be, DL.e_bb, DL.e_ao, DL.e_ae, DL.e_no, DL.e_nb, DL.e_cd, DL.e_cn, DL.e_ct, DL.e_co, DL.e_ce, DL.e_op, DL.e_if, DL.e_seq, DL.vOr, DL.vAnd, DL.vNot, DL.vTest, DL.vIsi, DL.vCall, DL.vCons, DL.vNil, DL.vConst, DL.vRet, DL.vNext, DL.vApp, DL.vNeg, DL.vChain, DL.vAndV, DL.vOrV, DL.vNotV, DL.vIf, ite_true, ite_false, if_true, if_false, Nat.reduceAdd, Nat.reduceSub, Nat.reduceEqDiff, reduceIte, Bool.true_and, Bool.and_true, Bool.not_true, Bool.not_false, Bool.false_eq_true, DL.endP, DL.endN, DL.cz2, DL.cz3, DL.cz4, DL.cz5, DL.cz6, DL.cz7, DL.cz8, DL.cz9, Int.natCast_add, Int.natCast_zero, Int.natCast_one, decide_true, decide_false, eq_self, not_true, not_false_eq_true, Bool.not_eq_true, DL.e_len_t, DL.e_len_l, DL.e_eq_ii, DL.e_ne_ii, DL.e_lt_ii, DL.e_le_ii, DL.e_gt_ii, DL.e_ge_ii, DL.e_ix_t0, DL.e_ix_t1, DL.e_ix_t2, DL.e_ix_t3, DL.e_ix_t4, DL.e_gcd, DL.p_none, DL.p_bool, DL.p_int, DL.p_str, DL.p_list, DL.p_tuple, DL.i_int_none, DL.i_int_bool, DL.i_int_int, DL.i_int_str, DL.i_int_list, DL.i_int_tuple, DL.i_bool_none, DL.i_bool_bool, DL.i_bool_int, DL.i_bool_str, DL.i_bool_list, DL.i_bool_tuple, DL.i_str_none, DL.i_str_bool, DL.i_str_int, DL.i_str_str, DL.i_str_list, DL.i_str_tuple, DL.i_tuple_none, DL.i_tuple_bool, DL.i_tuple_int, DL.i_tuple_str, DL.i_tuple_list, DL.i_tuple_tuple, DL.i_list_none, DL.i_list_bool, DL.i_list_int, DL.i_list_str, DL.i_list_list, DL.i_list_tuple, DL.e_v0, DL.e_t0, DL.e_s0_0, DL.e_s0_1, DL.e_s0_2, DL.e_v1, DL.e_t1, DL.e_s1_0, DL.e_s1_1, DL.e_s1_2, DL.e_s1_3, DL.e_v2, DL.e_t2, DL.e_s2_0, DL.e_s2_1, DL.e_s2_2, DL.e_s2_3, DL.e_v3, DL.e_t3, DL.e_s3_0, DL.e_s3_1, DL.e_s3_2, DL.e_s3_3, DL.e_v4, DL.e_t4, DL.e_s4_0, DL.e_s4_1, DL.e_s4_2, DL.e_s4_3, DL.e_v5, DL.e_t5, DL.e_s5_0, DL.e_s5_1, DL.e_s5_2, DL.e_s5_3, DL.e_v6, DL.e_t6, DL.e_s6_0, DL.e_s6_1, DL.e_s6_2, DL.e_s6_3, DL.e_v7, DL.e_t7, DL.e_s7_0, DL.e_s7_1, DL.e_s7_2, DL.e_s7_3]) ?_
  rcases hb with ⟨rfl, rfl, hf⟩ | ⟨s, hs, rfl, rfl, m, rfl, hm⟩
  · have f := m_fraction hf
    simp only [hk, eq_zero, bb1, f, DL.e_g1, DL.e_g2, DL.e_g3, DL.e_g4, DL.e_g5, DL.e_g6, DL.e_g7, DL.e_g8, DL.e_w8, DL.e_g9, DL.e_w9, DL.e_g10, DL.e_w10, DL.e_g11, DL.e_w11, DL.e_g12, DL.e_w12, DL.e_o1, DL.e_u1, DL.e_o2, DL.e_u2, DL.e_o3, DL.e_u3, DL.e_o4, DL.e_u4, DL.e_o5, DL.e_u5, DL.e_o6, DL.e_u6, DL.e_o7, DL.e_u7, DL.e_o8, DL.e_u8, DL.e_o9, DL.e_u9, DL.e_o10, DL.e_u10, DL.e_o11, DL.e_u11, DL.e_o12, DL.e_u12, DL.e_o0, DL.e_u0, DL.runP, DL.runN, DL.startD, List.map, List.length, List.replicate, List.append_nil, List.cons_append, List.nil_append, DL.e_bo, DL.e_be, DL.e_bb, DL.e_ao, DL.e_ae, DL.e_no, DL.e_nb, DL.e_cd, DL.e_cn, DL.e_ct, DL.e_co, DL.e_ce, DL.e_op, DL.e_if, DL.e_seq, DL.vOr, DL.vAnd, DL.vNot, DL.vTest, DL.vIsi, DL.vCall, DL.vCons, DL.vNil, DL.vConst, DL.vRet, DL.vNext, DL.vApp, DL.vNeg, DL.vChain, DL.vAndV, DL.vOrV, DL.vNotV, DL.vIf, ite_true, ite_false, if_true, if_false, Nat.reduceAdd, Nat.reduceSub, Nat.reduceEqDiff, reduceIte, Bool.true_and, Bool.and_true, Bool.not_true, Bool.not_false, Bool.false_eq_true, DL.endP, DL.endN, DL.cz2, DL.cz3, DL.cz4, DL.cz5, DL.cz6, DL.cz7, DL.cz8, DL.cz9, Int.natCast_add, Int.natCast_zero, Int.natCast_one, decide_true, decide_false, eq_self, not_true, not_false_eq_true, Bool.not_eq_true, DL.e_len_t, DL.e_len_l, DL.e_eq_ii, DL.e_ne_ii, DL.e_lt_ii, DL.e_le_ii, DL.e_gt_ii, DL.e_ge_ii, DL.e_ix_t0, DL.e_ix_t1, DL.e_ix_t2, DL.e_ix_t3, DL.e_ix_t4, DL.e_gcd, DL.p_none, DL.p_bool, DL.p_int, DL.p_str, DL.p_list, DL.p_tuple, DL.i_int_none, DL.i_int_bool, DL.i_int_int, DL.i_int_str, DL.i_int_list, DL.i_int_tuple, DL.i_bool_none, DL.i_bool_bool, DL.i_bool_int, DL.i_bool_str, DL.i_bool_list, DL.i_bool_tuple, DL.i_str_none, DL.i_str_bool, DL.i_str_int, DL.i_str_str, DL.i_str_list, DL.i_str_tuple, DL.i_tuple_none, DL.i_tuple_bool, DL.i_tuple_int, DL.i_tuple_str, DL.i_tuple_list, DL.i_tuple_tuple, DL.i_list_none, DL.i_list_bool, DL.i_list_int, DL.i_list_str, DL.i_list_list, DL.i_list_tuple, DL.e_v0, DL.e_t0, DL.e_s0_0, DL.e_s0_1, DL.e_s0_2, DL.e_v1, DL.e_t1, DL.e_s1_0, DL.e_s1_1, DL.e_s1_2, DL.e_s1_3, DL.e_v2, DL.e_t2, DL.e_s2_0, DL.e_s2_1, DL.e_s2_2, DL.e_s2_3, DL.e_v3, DL.e_t3, DL.e_s3_0, DL.e_s3_1, DL.e_s3_2, DL.e_s3_3, DL.e_v4, DL.e_t4, DL.e_s4_0, DL.e_s4_1, DL.e_s4_2, DL.e_s4_3, DL.e_v5, DL.e_t5, DL.e_s5_0, DL.e_s5_1, DL.e_s5_2, DL.e_s5_3, DL.e_v6, DL.e_t6, DL.e_s6_0, DL.e_s6_1, DL.e_s6_2, DL.e_s6_3, DL.e_v7, DL.e_t7, DL.e_s7_0, DL.e_s7_1, DL.e_s7_2, DL.e_s7_3]
  · have e := eq_word s hs
    simp only [hk, e, aa1, hm, DL.e_g1, DL.e_g2, DL.e_g3, DL.e_g4, DL.e_g5, DL.e_g6, DL.e_g7, DL.e_g8, DL.e_w8, DL.e_g9, DL.e_w9, DL.e_g10, DL.e_w10, DL.e_g11, DL.e_w11, DL.e_g12, DL.e_w12, DL.e_o1, DL.e_u1, DL.e_o2, DL.e_u2, DL.e_o3, DL.e_u3, DL.e_o4, DL.e_u4, DL.e_o5, DL.e_u5, DL.e_o6, DL.e_u6, DL.e_o7, DL.e_u7, DL.e_o8, DL.e_u8, DL.e_o9, DL.e_u9, DL.e_o10, DL.e_u10, DL.e_o11, DL.e_u11, DL.e_o12, DL.e_u12, DL.e_o0, DL.e_u0, DL.runP, DL.runN, DL.startD, List.map, List.length, List.replicate, List.append_nil, List.cons_append, List.nil_append, DL.e_bo, DL.e_be, DL.e_bb, DL.e_ao, DL.e_ae, DL.e_no, DL.e_nb, DL.e_cd, DL.e_cn, DL.e_ct, DL.e_co, DL.e_ce, DL.e_op, DL.e_if, DL.e_seq, DL.vOr, DL.vAnd, DL.vNot, DL.vTest, DL.vIsi, DL.vCall, DL.vCons, DL.vNil, DL.vConst, DL.vRet, DL.vNext, DL.vApp, DL.vNeg, DL.vChain, DL.vAndV, DL.vOrV, DL.vNotV, DL.vIf, ite_true, ite_false, if_true, if_false, Nat.reduceAdd, Nat.reduceSub, Nat.reduceEqDiff, reduceIte, Bool.true_and, Bool.and_true, Bool.not_true, Bool.not_false, Bool.false_eq_true, DL.endP, DL.endN, DL.cz2, DL.cz3, DL.cz4, DL.cz5, DL.cz6, DL.cz7, DL.cz8, DL.cz9, Int.natCast_add, Int.natCast_zero, Int.natCast_one, decide_true, decide_false, eq_self, not_true, not_false_eq_true, Bool.not_eq_true, DL.e_len_t, DL.e_len_l, DL.e_eq_ii, DL.e_ne_ii, DL.e_lt_ii, DL.e_le_ii, DL.e_gt_ii, DL.e_ge_ii, DL.e_ix_t0, DL.e_ix_t1, DL.e_ix_t2, DL.e_ix_t3, DL.e_ix_t4, DL.e_gcd, DL.p_none, DL.p_bool, DL.p_int, DL.p_str, DL.p_list, DL.p_tuple, DL.i_int_none, DL.i_int_bool, DL.i_int_int, DL.i_int_str, DL.i_int_list, DL.i_int_tuple, DL.i_bool_none, DL.i_bool_bool, DL.i_bool_int, DL.i_bool_str, DL.i_bool_list, DL.i_bool_tuple, DL.i_str_none, DL.i_str_bool, DL.i_str_int, DL.i_str_str, DL.i_str_list, DL.i_str_tuple, DL.i_tuple_none, DL.i_tuple_bool, DL.i_tuple_int, DL.i_tuple_str, DL.i_tuple_list, DL.i_tuple_tuple, DL.i_list_none, DL.i_list_bool, DL.i_list_int, DL.i_list_str, DL.i_list_list, DL.i_list_tuple, DL.e_v0, DL.e_t0, DL.e_s0_0, DL.e_s0_1, DL.e_s0_2, DL.e_v1, DL.e_t1, DL.e_s1_0, DL.e_s1_1, DL.e_s1_2, DL.e_s1_3, DL.e_v2, DL.e_t2, DL.e_s2_0, DL.e_s2_1, DL.e_s2_2, DL.e_s2_3, DL.e_v3, DL.e_t3, DL.e_s3_0, DL.e_s3_1, DL.e_s3_2, DL.e_s3_3, DL.e_v4, DL.e_t4, DL.e_s4_0, DL.e_s4_1, DL.e_s4_2, DL.e_s4_3, DL.e_v5, DL.e_t5, DL.e_s5_0, DL.e_s5_1, DL.e_s5_2, DL.e_s5_3, DL.e_v6, DL.e_t6, DL.e_s6_0, DL.e_s6_1, DL.e_s6_2, DL.e_s6_3, DL.e_v7, DL.e_t7, DL.e_s7_0, DL.e_s7_1, DL.e_s7_2, DL.e_s7_3]
theorem m_votes_ok {ans : Int} {vs : List PyData} (h : LeafV ans vs) (ha : ans ≤ 3) : ph_is_votes [.tuple vs, .int ans] = .ok (.bool true) := by
  obtain ⟨ns, rfl, hn, hb⟩ := h
  have hl : ((ns.map PyData.int).length : Int) = ans := by rw [List.length_map]; exact hn
  have hm : ∀ d ∈ ns.map PyData.int, ∃ i : Int, d = .int i ∧ -9 ≤ i ∧ i ≤ 9 := fun d hd => by
    obtain ⟨i, hi, rfl⟩ := List.mem_map.mp hd
    exact ⟨i, rfl, hb i hi⟩
  generalize ns.map PyData.int = vs at hl hm
  have c := comp_pure (wi := vItems (vVar 0)) (g := wName 2) (t := vTrue) (f := vAndV (vApp ph_is_whole (vCons (vVar 2) vNil)) (vChain gLe gLe (vNeg (vConst (.int 9))) (vVar 2) (vConst (.int 9)))) (vs := [2]) (δ := [.d (.tuple vs), .d (.int ans), .no]) (ds := vs) (fun d => some (.bool ((fun _ => true) d))) rfl rfl (sz (by omega)) fun d hd => by
    obtain ⟨i, rfl, h1, h2⟩ := hm d hd
    have w := m_whole i
    have t1 : decide (-9 ≤ i) = true := decide_eq_true h1
    have t2 : decide (i ≤ 9) = true := decide_eq_true h2
    refine ⟨[.d (.tuple vs), .d (.int ans), .d (.int i)], rfl, true, [.d (.tuple vs), .d (.int ans), .d (.int i)], rfl, rfl, [.d (.tuple vs), .d (.int ans), .d (.int i)], ?_, rfl⟩
    simp only [w, t1, t2, DL.e_g1, DL.e_g2, DL.e_g3, DL.e_g4, DL.e_g5, DL.e_g6, DL.e_g7, DL.e_g8, DL.e_w8, DL.e_g9, DL.e_w9, DL.e_g10, DL.e_w10, DL.e_g11, DL.e_w11, DL.e_g12, DL.e_w12, DL.e_o1, DL.e_u1, DL.e_o2, DL.e_u2, DL.e_o3, DL.e_u3, DL.e_o4, DL.e_u4, DL.e_o5, DL.e_u5, DL.e_o6, DL.e_u6, DL.e_o7, DL.e_u7, DL.e_o8, DL.e_u8, DL.e_o9, DL.e_u9, DL.e_o10, DL.e_u10, DL.e_o11, DL.e_u11, DL.e_o12, DL.e_u12, DL.e_o0, DL.e_u0, DL.runP, DL.runN, DL.startD, List.map, List.length, List.replicate, List.append_nil, List.cons_append, List.nil_append, DL.e_bo, DL.e_be, DL.e_bb, DL.e_ao, DL.e_ae, DL.e_no, DL.e_nb, DL.e_cd, DL.e_cn, DL.e_ct, DL.e_co, DL.e_ce, DL.e_op, DL.e_if, DL.e_seq, DL.vOr, DL.vAnd, DL.vNot, DL.vTest, DL.vIsi, DL.vCall, DL.vCons, DL.vNil, DL.vConst, DL.vRet, DL.vNext, DL.vApp, DL.vNeg, DL.vChain, DL.vAndV, DL.vOrV, DL.vNotV, DL.vIf, ite_true, ite_false, if_true, if_false, Nat.reduceAdd, Nat.reduceSub, Nat.reduceEqDiff, reduceIte, Bool.true_and, Bool.and_true, Bool.not_true, Bool.not_false, Bool.false_eq_true, DL.endP, DL.endN, DL.cz2, DL.cz3, DL.cz4, DL.cz5, DL.cz6, DL.cz7, DL.cz8, DL.cz9, Int.natCast_add, Int.natCast_zero, Int.natCast_one, decide_true, decide_false, eq_self, not_true, not_false_eq_true, Bool.not_eq_true, DL.e_len_t, DL.e_len_l, DL.e_eq_ii, DL.e_ne_ii, DL.e_lt_ii, DL.e_le_ii, DL.e_gt_ii, DL.e_ge_ii, DL.e_ix_t0, DL.e_ix_t1, DL.e_ix_t2, DL.e_ix_t3, DL.e_ix_t4, DL.e_gcd, DL.p_none, DL.p_bool, DL.p_int, DL.p_str, DL.p_list, DL.p_tuple, DL.i_int_none, DL.i_int_bool, DL.i_int_int, DL.i_int_str, DL.i_int_list, DL.i_int_tuple, DL.i_bool_none, DL.i_bool_bool, DL.i_bool_int, DL.i_bool_str, DL.i_bool_list, DL.i_bool_tuple, DL.i_str_none, DL.i_str_bool, DL.i_str_int, DL.i_str_str, DL.i_str_list, DL.i_str_tuple, DL.i_tuple_none, DL.i_tuple_bool, DL.i_tuple_int, DL.i_tuple_str, DL.i_tuple_list, DL.i_tuple_tuple, DL.i_list_none, DL.i_list_bool, DL.i_list_int, DL.i_list_str, DL.i_list_list, DL.i_list_tuple, DL.e_v0, DL.e_t0, DL.e_s0_0, DL.e_s0_1, DL.e_s0_2, DL.e_v1, DL.e_t1, DL.e_s1_0, DL.e_s1_1, DL.e_s1_2, DL.e_s1_3, DL.e_v2, DL.e_t2, DL.e_s2_0, DL.e_s2_1, DL.e_s2_2, DL.e_s2_3, DL.e_v3, DL.e_t3, DL.e_s3_0, DL.e_s3_1, DL.e_s3_2, DL.e_s3_3, DL.e_v4, DL.e_t4, DL.e_s4_0, DL.e_s4_1, DL.e_s4_2, DL.e_s4_3, DL.e_v5, DL.e_t5, DL.e_s5_0, DL.e_s5_1, DL.e_s5_2, DL.e_s5_3, DL.e_v6, DL.e_t6, DL.e_s6_0, DL.e_s6_1, DL.e_s6_2, DL.e_s6_3, DL.e_v7, DL.e_t7, DL.e_s7_0, DL.e_s7_1, DL.e_s7_2, DL.e_s7_3]
  have g := gAll_at (fun _ => true) vs
  rw [List.all_eq_true.mpr (fun _ _ => rfl)] at g
  generalize vs.filterMap (fun d => some (PyData.bool ((fun _ => true) d))) = q at c g
  refine runP_at (r := .ok (.rt (.bool true), [.d (.tuple vs), .d (.int ans), .no])) rfl ?_ rfl
  show b_is_votes [.d (.tuple vs), .d (.int ans), .no] = _
  unfold b_is_votes
  refine seq_nx (δ1 := [.d (.tuple vs), .d (.int ans), .no]) ?_ ?_
  · have e : gLen [.tuple vs] = .ok (.int ans) := by rw [e_len_t, hl]
    have nn : gNe (.int ans) (.int ans) = .ok (.bool false) := by rw [e_ne_ii, decide_eq_true rfl] <;> rfl
    simp only [e, nn, DL.e_g1, DL.e_g2, DL.e_g3, DL.e_g4, DL.e_g5, DL.e_g6, DL.e_g7, DL.e_g8, DL.e_w8, DL.e_g9, DL.e_w9, DL.e_g10, DL.e_w10, DL.e_g11, DL.e_w11, DL.e_g12, DL.e_w12, DL.e_o1, DL.e_u1, DL.e_o2, DL.e_u2, DL.e_o3, DL.e_u3, DL.e_o4, DL.e_u4, DL.e_o5, DL.e_u5, DL.e_o6, DL.e_u6, DL.e_o7, DL.e_u7, DL.e_o8, DL.e_u8, DL.e_o9, DL.e_u9, DL.e_o10, DL.e_u10, DL.e_o11, DL.e_u11, DL.e_o12, DL.e_u12, DL.e_o0, DL.e_u0, DL.runP, DL.runN, DL.startD, List.map, List.length, List.replicate, List.append_nil, List.cons_append, List.nil_append, DL.e_bo, DL.e_be, DL.e_bb, DL.e_ao, DL.e_ae, DL.e_no, DL.e_nb, DL.e_cd, DL.e_cn, DL.e_ct, DL.e_co, DL.e_ce, DL.e_op, DL.e_if, DL.e_seq, DL.vOr, DL.vAnd, DL.vNot, DL.vTest, DL.vIsi, DL.vCall, DL.vCons, DL.vNil, DL.vConst, DL.vRet, DL.vNext, DL.vApp, DL.vNeg, DL.vChain, DL.vAndV, DL.vOrV, DL.vNotV, DL.vIf, ite_true, ite_false, if_true, if_false, Nat.reduceAdd, Nat.reduceSub, Nat.reduceEqDiff, reduceIte, Bool.true_and, Bool.and_true, Bool.not_true, Bool.not_false, Bool.false_eq_true, DL.endP, DL.endN, DL.cz2, DL.cz3, DL.cz4, DL.cz5, DL.cz6, DL.cz7, DL.cz8, DL.cz9, Int.natCast_add, Int.natCast_zero, Int.natCast_one, decide_true, decide_false, eq_self, not_true, not_false_eq_true, Bool.not_eq_true, DL.e_len_t, DL.e_len_l, DL.e_eq_ii, DL.e_ne_ii, DL.e_lt_ii, DL.e_le_ii, DL.e_gt_ii, DL.e_ge_ii, DL.e_ix_t0, DL.e_ix_t1, DL.e_ix_t2, DL.e_ix_t3, DL.e_ix_t4, DL.e_gcd, DL.p_none, DL.p_bool, DL.p_int, DL.p_str, DL.p_list, DL.p_tuple, DL.i_int_none, DL.i_int_bool, DL.i_int_int, DL.i_int_str, DL.i_int_list, DL.i_int_tuple, DL.i_bool_none, DL.i_bool_bool, DL.i_bool_int, DL.i_bool_str, DL.i_bool_list, DL.i_bool_tuple, DL.i_str_none, DL.i_str_bool, DL.i_str_int, DL.i_str_str, DL.i_str_list, DL.i_str_tuple, DL.i_tuple_none, DL.i_tuple_bool, DL.i_tuple_int, DL.i_tuple_str, DL.i_tuple_list, DL.i_tuple_tuple, DL.i_list_none, DL.i_list_bool, DL.i_list_int, DL.i_list_str, DL.i_list_list, DL.i_list_tuple, DL.e_v0, DL.e_t0, DL.e_s0_0, DL.e_s0_1, DL.e_s0_2, DL.e_v1, DL.e_t1, DL.e_s1_0, DL.e_s1_1, DL.e_s1_2, DL.e_s1_3, DL.e_v2, DL.e_t2, DL.e_s2_0, DL.e_s2_1, DL.e_s2_2, DL.e_s2_3, DL.e_v3, DL.e_t3, DL.e_s3_0, DL.e_s3_1, DL.e_s3_2, DL.e_s3_3, DL.e_v4, DL.e_t4, DL.e_s4_0, DL.e_s4_1, DL.e_s4_2, DL.e_s4_3, DL.e_v5, DL.e_t5, DL.e_s5_0, DL.e_s5_1, DL.e_s5_2, DL.e_s5_3, DL.e_v6, DL.e_t6, DL.e_s6_0, DL.e_s6_1, DL.e_s6_2, DL.e_s6_3, DL.e_v7, DL.e_t7, DL.e_s7_0, DL.e_s7_1, DL.e_s7_2, DL.e_s7_3]
  · simp only [c, g, DL.e_g1, DL.e_g2, DL.e_g3, DL.e_g4, DL.e_g5, DL.e_g6, DL.e_g7, DL.e_g8, DL.e_w8, DL.e_g9, DL.e_w9, DL.e_g10, DL.e_w10, DL.e_g11, DL.e_w11, DL.e_g12, DL.e_w12, DL.e_o1, DL.e_u1, DL.e_o2, DL.e_u2, DL.e_o3, DL.e_u3, DL.e_o4, DL.e_u4, DL.e_o5, DL.e_u5, DL.e_o6, DL.e_u6, DL.e_o7, DL.e_u7, DL.e_o8, DL.e_u8, DL.e_o9, DL.e_u9, DL.e_o10, DL.e_u10, DL.e_o11, DL.e_u11, DL.e_o12, DL.e_u12, DL.e_o0, DL.e_u0, DL.runP, DL.runN, DL.startD, List.map, List.length, List.replicate, List.append_nil, List.cons_append, List.nil_append, DL.e_bo, DL.e_be, DL.e_bb, DL.e_ao, DL.e_ae, DL.e_no, DL.e_nb, DL.e_cd, DL.e_cn, DL.e_ct, DL.e_co, DL.e_ce, DL.e_op, DL.e_if, DL.e_seq, DL.vOr, DL.vAnd, DL.vNot, DL.vTest, DL.vIsi, DL.vCall, DL.vCons, DL.vNil, DL.vConst, DL.vRet, DL.vNext, DL.vApp, DL.vNeg, DL.vChain, DL.vAndV, DL.vOrV, DL.vNotV, DL.vIf, ite_true, ite_false, if_true, if_false, Nat.reduceAdd, Nat.reduceSub, Nat.reduceEqDiff, reduceIte, Bool.true_and, Bool.and_true, Bool.not_true, Bool.not_false, Bool.false_eq_true, DL.endP, DL.endN, DL.cz2, DL.cz3, DL.cz4, DL.cz5, DL.cz6, DL.cz7, DL.cz8, DL.cz9, Int.natCast_add, Int.natCast_zero, Int.natCast_one, decide_true, decide_false, eq_self, not_true, not_false_eq_true, Bool.not_eq_true, DL.e_len_t, DL.e_len_l, DL.e_eq_ii, DL.e_ne_ii, DL.e_lt_ii, DL.e_le_ii, DL.e_gt_ii, DL.e_ge_ii, DL.e_ix_t0, DL.e_ix_t1, DL.e_ix_t2, DL.e_ix_t3, DL.e_ix_t4, DL.e_gcd, DL.p_none, DL.p_bool, DL.p_int, DL.p_str, DL.p_list, DL.p_tuple, DL.i_int_none, DL.i_int_bool, DL.i_int_int, DL.i_int_str, DL.i_int_list, DL.i_int_tuple, DL.i_bool_none, DL.i_bool_bool, DL.i_bool_int, DL.i_bool_str, DL.i_bool_list, DL.i_bool_tuple, DL.i_str_none, DL.i_str_bool, DL.i_str_int, DL.i_str_str, DL.i_str_list, DL.i_str_tuple, DL.i_tuple_none, DL.i_tuple_bool, DL.i_tuple_int, DL.i_tuple_str, DL.i_tuple_list, DL.i_tuple_tuple, DL.i_list_none, DL.i_list_bool, DL.i_list_int, DL.i_list_str, DL.i_list_list, DL.i_list_tuple, DL.e_v0, DL.e_t0, DL.e_s0_0, DL.e_s0_1, DL.e_s0_2, DL.e_v1, DL.e_t1, DL.e_s1_0, DL.e_s1_1, DL.e_s1_2, DL.e_s1_3, DL.e_v2, DL.e_t2, DL.e_s2_0, DL.e_s2_1, DL.e_s2_2, DL.e_s2_3, DL.e_v3, DL.e_t3, DL.e_s3_0, DL.e_s3_1, DL.e_s3_2, DL.e_s3_3, DL.e_v4, DL.e_t4, DL.e_s4_0, DL.e_s4_1, DL.e_s4_2, DL.e_s4_3, DL.e_v5, DL.e_t5, DL.e_s5_0, DL.e_s5_1, DL.e_s5_2, DL.e_s5_3, DL.e_v6, DL.e_t6, DL.e_s6_0, DL.e_s6_1, DL.e_s6_2, DL.e_s6_3, DL.e_v7, DL.e_t7, DL.e_s7_0, DL.e_s7_1, DL.e_s7_2, DL.e_s7_3]
theorem m_leaves {ks : List PyData} {ans : Int} : ∀ (n c : Nat) (t : PyData), TreeV ks ans c t → c ≤ n → ph_leaves_of n [t] = .ok (.int (c : Int))
  | 0, c, t, h, hn => by have := h.pos; omega
  | n + 1, _, _, .leafC vs hv, _ => by
    refine runP_at (r := .ok (.rt (.int 1), [.d (.tuple [.str "leaf", .tuple vs])])) rfl ?_ rfl
    show b_leaves_of (ph_leaves_of n) [.d (.tuple [.str "leaf", .tuple vs])] = _
    unfold b_leaves_of
    have e : gEq (.str "leaf") (.str "leaf") = .ok (.bool true) := by kernel_rfl
    simp only [e, DL.e_g1, DL.e_g2, DL.e_g3, DL.e_g4, DL.e_g5, DL.e_g6, DL.e_g7, DL.e_g8, DL.e_w8, DL.e_g9, DL.e_w9, DL.e_g10, DL.e_w10, DL.e_g11, DL.e_w11, DL.e_g12, DL.e_w12, DL.e_o1, DL.e_u1, DL.e_o2, DL.e_u2, DL.e_o3, DL.e_u3, DL.e_o4, DL.e_u4, DL.e_o5, DL.e_u5, DL.e_o6, DL.e_u6, DL.e_o7, DL.e_u7, DL.e_o8, DL.e_u8, DL.e_o9, DL.e_u9, DL.e_o10, DL.e_u10, DL.e_o11, DL.e_u11, DL.e_o12, DL.e_u12, DL.e_o0, DL.e_u0, DL.runP, DL.runN, DL.startD, List.map, List.length, List.replicate, List.append_nil, List.cons_append, List.nil_append, DL.e_bo, DL.e_be, DL.e_bb, DL.e_ao, DL.e_ae, DL.e_no, DL.e_nb, DL.e_cd, DL.e_cn, DL.e_ct, DL.e_co, DL.e_ce, DL.e_op, DL.e_if, DL.e_seq, DL.vOr, DL.vAnd, DL.vNot, DL.vTest, DL.vIsi, DL.vCall, DL.vCons, DL.vNil, DL.vConst, DL.vRet, DL.vNext, DL.vApp, DL.vNeg, DL.vChain, DL.vAndV, DL.vOrV, DL.vNotV, DL.vIf, ite_true, ite_false, if_true, if_false, Nat.reduceAdd, Nat.reduceSub, Nat.reduceEqDiff, reduceIte, Bool.true_and, Bool.and_true, Bool.not_true, Bool.not_false, Bool.false_eq_true, DL.endP, DL.endN, DL.cz2, DL.cz3, DL.cz4, DL.cz5, DL.cz6, DL.cz7, DL.cz8, DL.cz9, Int.natCast_add, Int.natCast_zero, Int.natCast_one, decide_true, decide_false, eq_self, not_true, not_false_eq_true, Bool.not_eq_true, DL.e_len_t, DL.e_len_l, DL.e_eq_ii, DL.e_ne_ii, DL.e_lt_ii, DL.e_le_ii, DL.e_gt_ii, DL.e_ge_ii, DL.e_ix_t0, DL.e_ix_t1, DL.e_ix_t2, DL.e_ix_t3, DL.e_ix_t4, DL.e_gcd, DL.p_none, DL.p_bool, DL.p_int, DL.p_str, DL.p_list, DL.p_tuple, DL.i_int_none, DL.i_int_bool, DL.i_int_int, DL.i_int_str, DL.i_int_list, DL.i_int_tuple, DL.i_bool_none, DL.i_bool_bool, DL.i_bool_int, DL.i_bool_str, DL.i_bool_list, DL.i_bool_tuple, DL.i_str_none, DL.i_str_bool, DL.i_str_int, DL.i_str_str, DL.i_str_list, DL.i_str_tuple, DL.i_tuple_none, DL.i_tuple_bool, DL.i_tuple_int, DL.i_tuple_str, DL.i_tuple_list, DL.i_tuple_tuple, DL.i_list_none, DL.i_list_bool, DL.i_list_int, DL.i_list_str, DL.i_list_list, DL.i_list_tuple, DL.e_v0, DL.e_t0, DL.e_s0_0, DL.e_s0_1, DL.e_s0_2, DL.e_v1, DL.e_t1, DL.e_s1_0, DL.e_s1_1, DL.e_s1_2, DL.e_s1_3, DL.e_v2, DL.e_t2, DL.e_s2_0, DL.e_s2_1, DL.e_s2_2, DL.e_s2_3, DL.e_v3, DL.e_t3, DL.e_s3_0, DL.e_s3_1, DL.e_s3_2, DL.e_s3_3, DL.e_v4, DL.e_t4, DL.e_s4_0, DL.e_s4_1, DL.e_s4_2, DL.e_s4_3, DL.e_v5, DL.e_t5, DL.e_s5_0, DL.e_s5_1, DL.e_s5_2, DL.e_s5_3, DL.e_v6, DL.e_t6, DL.e_s6_0, DL.e_s6_1, DL.e_s6_2, DL.e_s6_3, DL.e_v7, DL.e_t7, DL.e_s7_0, DL.e_s7_1, DL.e_s7_2, DL.e_s7_3]
  | n + 1, _, _, .testC w k b x y p c d h0 h1 hk hb hx hy, hn => by
    have cx := hx.pos
    have cy := hy.pos
    have e1 := m_leaves n c x hx (by omega)
    have e2 := m_leaves n d y hy (by omega)
    have e : gEq w (.str "leaf") = .ok (.bool false) := by
      rcases hb with ⟨_, rfl, _⟩ | ⟨_, _, _, rfl, _⟩ <;> kernel_rfl
    rw [Int.natCast_add]
    generalize (c : Int) = cc at e1 ⊢
    generalize (d : Int) = dd at e2 ⊢
    refine runP_at (r := .ok (.rt (.int (cc + dd)), [.d (.tuple [w, .int p, b, x, y])])) rfl ?_ rfl
    show b_leaves_of (ph_leaves_of n) [.d (.tuple [w, .int p, b, x, y])] = _
    unfold b_leaves_of
    simp only [e, e1, e2, e_add, DL.e_g1, DL.e_g2, DL.e_g3, DL.e_g4, DL.e_g5, DL.e_g6, DL.e_g7, DL.e_g8, DL.e_w8, DL.e_g9, DL.e_w9, DL.e_g10, DL.e_w10, DL.e_g11, DL.e_w11, DL.e_g12, DL.e_w12, DL.e_o1, DL.e_u1, DL.e_o2, DL.e_u2, DL.e_o3, DL.e_u3, DL.e_o4, DL.e_u4, DL.e_o5, DL.e_u5, DL.e_o6, DL.e_u6, DL.e_o7, DL.e_u7, DL.e_o8, DL.e_u8, DL.e_o9, DL.e_u9, DL.e_o10, DL.e_u10, DL.e_o11, DL.e_u11, DL.e_o12, DL.e_u12, DL.e_o0, DL.e_u0, DL.runP, DL.runN, DL.startD, List.map, List.length, List.replicate, List.append_nil, List.cons_append, List.nil_append, DL.e_bo, DL.e_be, DL.e_bb, DL.e_ao, DL.e_ae, DL.e_no, DL.e_nb, DL.e_cd, DL.e_cn, DL.e_ct, DL.e_co, DL.e_ce, DL.e_op, DL.e_if, DL.e_seq, DL.vOr, DL.vAnd, DL.vNot, DL.vTest, DL.vIsi, DL.vCall, DL.vCons, DL.vNil, DL.vConst, DL.vRet, DL.vNext, DL.vApp, DL.vNeg, DL.vChain, DL.vAndV, DL.vOrV, DL.vNotV, DL.vIf, ite_true, ite_false, if_true, if_false, Nat.reduceAdd, Nat.reduceSub, Nat.reduceEqDiff, reduceIte, Bool.true_and, Bool.and_true, Bool.not_true, Bool.not_false, Bool.false_eq_true, DL.endP, DL.endN, DL.cz2, DL.cz3, DL.cz4, DL.cz5, DL.cz6, DL.cz7, DL.cz8, DL.cz9, Int.natCast_add, Int.natCast_zero, Int.natCast_one, decide_true, decide_false, eq_self, not_true, not_false_eq_true, Bool.not_eq_true, DL.e_len_t, DL.e_len_l, DL.e_eq_ii, DL.e_ne_ii, DL.e_lt_ii, DL.e_le_ii, DL.e_gt_ii, DL.e_ge_ii, DL.e_ix_t0, DL.e_ix_t1, DL.e_ix_t2, DL.e_ix_t3, DL.e_ix_t4, DL.e_gcd, DL.p_none, DL.p_bool, DL.p_int, DL.p_str, DL.p_list, DL.p_tuple, DL.i_int_none, DL.i_int_bool, DL.i_int_int, DL.i_int_str, DL.i_int_list, DL.i_int_tuple, DL.i_bool_none, DL.i_bool_bool, DL.i_bool_int, DL.i_bool_str, DL.i_bool_list, DL.i_bool_tuple, DL.i_str_none, DL.i_str_bool, DL.i_str_int, DL.i_str_str, DL.i_str_list, DL.i_str_tuple, DL.i_tuple_none, DL.i_tuple_bool, DL.i_tuple_int, DL.i_tuple_str, DL.i_tuple_list, DL.i_tuple_tuple, DL.i_list_none, DL.i_list_bool, DL.i_list_int, DL.i_list_str, DL.i_list_list, DL.i_list_tuple, DL.e_v0, DL.e_t0, DL.e_s0_0, DL.e_s0_1, DL.e_s0_2, DL.e_v1, DL.e_t1, DL.e_s1_0, DL.e_s1_1, DL.e_s1_2, DL.e_s1_3, DL.e_v2, DL.e_t2, DL.e_s2_0, DL.e_s2_1, DL.e_s2_2, DL.e_s2_3, DL.e_v3, DL.e_t3, DL.e_s3_0, DL.e_s3_1, DL.e_s3_2, DL.e_s3_3, DL.e_v4, DL.e_t4, DL.e_s4_0, DL.e_s4_1, DL.e_s4_2, DL.e_s4_3, DL.e_v5, DL.e_t5, DL.e_s5_0, DL.e_s5_1, DL.e_s5_2, DL.e_s5_3, DL.e_v6, DL.e_t6, DL.e_s6_0, DL.e_s6_1, DL.e_s6_2, DL.e_s6_3, DL.e_v7, DL.e_t7, DL.e_s7_0, DL.e_s7_1, DL.e_s7_2, DL.e_s7_3]
theorem m_branch {ks : List PyData} {ans : Int} (ha : ans ≤ 3) : ∀ (n c : Nat) (t : PyData) (k : Int), TreeV ks ans c t → c ≤ n → (c : Int) ≤ k + 1 → ph_is_branch n [t, .tuple ks, .int ans, .int k] = .ok (.bool true)
  | 0, c, t, _, h, hn, _ => by have := h.pos; omega
  | n + 1, _, _, k, .leafC vs hv, _, _ => by
    have e : gEq (.str "leaf") (.str "leaf") = .ok (.bool true) := by kernel_rfl
    have v := m_votes_ok hv ha
    refine runP_at (r := .ok (.rt (.bool true), [.d (.tuple [.str "leaf", .tuple vs]), .d (.tuple ks), .d (.int ans), .d (.int k), .no, .no, .no, .no, .no])) rfl ?_ rfl
    show b_is_branch (ph_is_branch n) [.d (.tuple [.str "leaf", .tuple vs]), .d (.tuple ks), .d (.int ans), .d (.int k), .no, .no, .no, .no, .no] = _
    unfold b_is_branch
    refine seq_nx (δ1 := [.d (.tuple [.str "leaf", .tuple vs]), .d (.tuple ks), .d (.int ans), .d (.int k), .no, .no, .no, .no, .no]) (by simp only [len2, d20, DL.e_g1, DL.e_g2, DL.e_g3, DL.e_g4, DL.e_g5, DL.e_g6, DL.e_g7, DL.e_g8, DL.e_w8, DL.e_g9, DL.e_w9, DL.e_g10, DL.e_w10, DL.e_g11, DL.e_w11, DL.e_g12, DL.e_w12, DL.e_o1, DL.e_u1, DL.e_o2, DL.e_u2, DL.e_o3, DL.e_u3, DL.e_o4, DL.e_u4, DL.e_o5, DL.e_u5, DL.e_o6, DL.e_u6, DL.e_o7, DL.e_u7, DL.e_o8, DL.e_u8, DL.e_o9, DL.e_u9, DL.e_o10, DL.e_u10, DL.e_o11, DL.e_u11, DL.e_o12, DL.e_u12, DL.e_o0, DL.e_u0, DL.runP, DL.runN, DL.startD, List.map, List.length, List.replicate, List.append_nil, List.cons_append, List.nil_append, DL.e_bo, DL.e_be, DL.e_bb, DL.e_ao, DL.e_ae, DL.e_no, DL.e_nb, DL.e_cd, DL.e_cn, DL.e_ct, DL.e_co, DL.e_ce, DL.e_op, DL.e_if, DL.e_seq, DL.vOr, DL.vAnd, DL.vNot, DL.vTest, DL.vIsi, DL.vCall, DL.vCons, DL.vNil, DL.vConst, DL.vRet, DL.vNext, DL.vApp, DL.vNeg, DL.vChain, DL.vAndV, DL.vOrV, DL.vNotV, DL.vIf, ite_true, ite_false, if_true, if_false, Nat.reduceAdd, Nat.reduceSub, Nat.reduceEqDiff, reduceIte, Bool.true_and, Bool.and_true, Bool.not_true, Bool.not_false, Bool.false_eq_true, DL.endP, DL.endN, DL.cz2, DL.cz3, DL.cz4, DL.cz5, DL.cz6, DL.cz7, DL.cz8, DL.cz9, Int.natCast_add, Int.natCast_zero, Int.natCast_one, decide_true, decide_false, eq_self, not_true, not_false_eq_true, Bool.not_eq_true, DL.e_len_t, DL.e_len_l, DL.e_eq_ii, DL.e_ne_ii, DL.e_lt_ii, DL.e_le_ii, DL.e_gt_ii, DL.e_ge_ii, DL.e_ix_t0, DL.e_ix_t1, DL.e_ix_t2, DL.e_ix_t3, DL.e_ix_t4, DL.e_gcd, DL.p_none, DL.p_bool, DL.p_int, DL.p_str, DL.p_list, DL.p_tuple, DL.i_int_none, DL.i_int_bool, DL.i_int_int, DL.i_int_str, DL.i_int_list, DL.i_int_tuple, DL.i_bool_none, DL.i_bool_bool, DL.i_bool_int, DL.i_bool_str, DL.i_bool_list, DL.i_bool_tuple, DL.i_str_none, DL.i_str_bool, DL.i_str_int, DL.i_str_str, DL.i_str_list, DL.i_str_tuple, DL.i_tuple_none, DL.i_tuple_bool, DL.i_tuple_int, DL.i_tuple_str, DL.i_tuple_list, DL.i_tuple_tuple, DL.i_list_none, DL.i_list_bool, DL.i_list_int, DL.i_list_str, DL.i_list_list, DL.i_list_tuple, DL.e_v0, DL.e_t0, DL.e_s0_0, DL.e_s0_1, DL.e_s0_2, DL.e_v1, DL.e_t1, DL.e_s1_0, DL.e_s1_1, DL.e_s1_2, DL.e_s1_3, DL.e_v2, DL.e_t2, DL.e_s2_0, DL.e_s2_1, DL.e_s2_2, DL.e_s2_3, DL.e_v3, DL.e_t3, DL.e_s3_0, DL.e_s3_1, DL.e_s3_2, DL.e_s3_3, DL.e_v4, DL.e_t4, DL.e_s4_0, DL.e_s4_1, DL.e_s4_2, DL.e_s4_3, DL.e_v5, DL.e_t5, DL.e_s5_0, DL.e_s5_1, DL.e_s5_2, DL.e_s5_3, DL.e_v6, DL.e_t6, DL.e_s6_0, DL.e_s6_1, DL.e_s6_2, DL.e_s6_3, DL.e_v7, DL.e_t7, DL.e_s7_0, DL.e_s7_1, DL.e_s7_2, DL.e_s7_3]) (seq_rt ?_)
    simp only [e, len2, v, DL.e_g1, DL.e_g2, DL.e_g3, DL.e_g4, DL.e_g5, DL.e_g6, DL.e_g7, DL.e_g8, DL.e_w8, DL.e_g9, DL.e_w9, DL.e_g10, DL.e_w10, DL.e_g11, DL.e_w11, DL.e_g12, DL.e_w12, DL.e_o1, DL.e_u1, DL.e_o2, DL.e_u2, DL.e_o3, DL.e_u3, DL.e_o4, DL.e_u4, DL.e_o5, DL.e_u5, DL.e_o6, DL.e_u6, DL.e_o7, DL.e_u7, DL.e_o8, DL.e_u8, DL.e_o9, DL.e_u9, DL.e_o10, DL.e_u10, DL.e_o11, DL.e_u11, DL.e_o12, DL.e_u12, DL.e_o0, DL.e_u0, DL.runP, DL.runN, DL.startD, List.map, List.length, List.replicate, List.append_nil, List.cons_append, List.nil_append, DL.e_bo, DL.e_be, DL.e_bb, DL.e_ao, DL.e_ae, DL.e_no, DL.e_nb, DL.e_cd, DL.e_cn, DL.e_ct, DL.e_co, DL.e_ce, DL.e_op, DL.e_if, DL.e_seq, DL.vOr, DL.vAnd, DL.vNot, DL.vTest, DL.vIsi, DL.vCall, DL.vCons, DL.vNil, DL.vConst, DL.vRet, DL.vNext, DL.vApp, DL.vNeg, DL.vChain, DL.vAndV, DL.vOrV, DL.vNotV, DL.vIf, ite_true, ite_false, if_true, if_false, Nat.reduceAdd, Nat.reduceSub, Nat.reduceEqDiff, reduceIte, Bool.true_and, Bool.and_true, Bool.not_true, Bool.not_false, Bool.false_eq_true, DL.endP, DL.endN, DL.cz2, DL.cz3, DL.cz4, DL.cz5, DL.cz6, DL.cz7, DL.cz8, DL.cz9, Int.natCast_add, Int.natCast_zero, Int.natCast_one, decide_true, decide_false, eq_self, not_true, not_false_eq_true, Bool.not_eq_true, DL.e_len_t, DL.e_len_l, DL.e_eq_ii, DL.e_ne_ii, DL.e_lt_ii, DL.e_le_ii, DL.e_gt_ii, DL.e_ge_ii, DL.e_ix_t0, DL.e_ix_t1, DL.e_ix_t2, DL.e_ix_t3, DL.e_ix_t4, DL.e_gcd, DL.p_none, DL.p_bool, DL.p_int, DL.p_str, DL.p_list, DL.p_tuple, DL.i_int_none, DL.i_int_bool, DL.i_int_int, DL.i_int_str, DL.i_int_list, DL.i_int_tuple, DL.i_bool_none, DL.i_bool_bool, DL.i_bool_int, DL.i_bool_str, DL.i_bool_list, DL.i_bool_tuple, DL.i_str_none, DL.i_str_bool, DL.i_str_int, DL.i_str_str, DL.i_str_list, DL.i_str_tuple, DL.i_tuple_none, DL.i_tuple_bool, DL.i_tuple_int, DL.i_tuple_str, DL.i_tuple_list, DL.i_tuple_tuple, DL.i_list_none, DL.i_list_bool, DL.i_list_int, DL.i_list_str, DL.i_list_list, DL.i_list_tuple, DL.e_v0, DL.e_t0, DL.e_s0_0, DL.e_s0_1, DL.e_s0_2, DL.e_v1, DL.e_t1, DL.e_s1_0, DL.e_s1_1, DL.e_s1_2, DL.e_s1_3, DL.e_v2, DL.e_t2, DL.e_s2_0, DL.e_s2_1, DL.e_s2_2, DL.e_s2_3, DL.e_v3, DL.e_t3, DL.e_s3_0, DL.e_s3_1, DL.e_s3_2, DL.e_s3_3, DL.e_v4, DL.e_t4, DL.e_s4_0, DL.e_s4_1, DL.e_s4_2, DL.e_s4_3, DL.e_v5, DL.e_t5, DL.e_s5_0, DL.e_s5_1, DL.e_s5_2, DL.e_s5_3, DL.e_v6, DL.e_t6, DL.e_s6_0, DL.e_s6_1, DL.e_s6_2, DL.e_s6_3, DL.e_v7, DL.e_t7, DL.e_s7_0, DL.e_s7_1, DL.e_s7_2, DL.e_s7_3]
  | n + 1, _, _, k, .testC w kk b x y p c d h0 h1 hk hb hx hy, hn, hc => by
    have cx := hx.pos
    have cy := hy.pos
    have e1 := m_branch ha n c x (k - 1) hx (by omega) (by omega)
    have e2 := m_branch ha n d y (k - 1) hy (by omega) (by omega)
    have e : gEq w (.str "leaf") = .ok (.bool false) := by
      rcases hb with ⟨_, rfl, _⟩ | ⟨_, _, _, rfl, _⟩ <;> kernel_rfl
    have t := m_test h0 h1 hk hb
    have k0 : decide (k = 0) = false := decide_eq_false (by omega)
    refine runP_at (r := .ok (.rt (.bool true), [.d (.tuple [w, .int p, b, x, y]), .d (.tuple ks), .d (.int ans), .d (.int k), .d w, .d (.int p), .d b, .d x, .d y])) rfl ?_ rfl
    show b_is_branch (ph_is_branch n) [.d (.tuple [w, .int p, b, x, y]), .d (.tuple ks), .d (.int ans), .d (.int k), .no, .no, .no, .no, .no] = _
    unfold b_is_branch
    refine seq_nx (δ1 := [.d (.tuple [w, .int p, b, x, y]), .d (.tuple ks), .d (.int ans), .d (.int k), .no, .no, .no, .no, .no]) (by simp only [len5, d50, DL.e_g1, DL.e_g2, DL.e_g3, DL.e_g4, DL.e_g5, DL.e_g6, DL.e_g7, DL.e_g8, DL.e_w8, DL.e_g9, DL.e_w9, DL.e_g10, DL.e_w10, DL.e_g11, DL.e_w11, DL.e_g12, DL.e_w12, DL.e_o1, DL.e_u1, DL.e_o2, DL.e_u2, DL.e_o3, DL.e_u3, DL.e_o4, DL.e_u4, DL.e_o5, DL.e_u5, DL.e_o6, DL.e_u6, DL.e_o7, DL.e_u7, DL.e_o8, DL.e_u8, DL.e_o9, DL.e_u9, DL.e_o10, DL.e_u10, DL.e_o11, DL.e_u11, DL.e_o12, DL.e_u12, DL.e_o0, DL.e_u0, DL.runP, DL.runN, DL.startD, List.map, List.length, List.replicate, List.append_nil, List.cons_append, List.nil_append, DL.e_bo, DL.e_be, DL.e_bb, DL.e_ao, DL.e_ae, DL.e_no, DL.e_nb, DL.e_cd, DL.e_cn, DL.e_ct, DL.e_co, DL.e_ce, DL.e_op, DL.e_if, DL.e_seq, DL.vOr, DL.vAnd, DL.vNot, DL.vTest, DL.vIsi, DL.vCall, DL.vCons, DL.vNil, DL.vConst, DL.vRet, DL.vNext, DL.vApp, DL.vNeg, DL.vChain, DL.vAndV, DL.vOrV, DL.vNotV, DL.vIf, ite_true, ite_false, if_true, if_false, Nat.reduceAdd, Nat.reduceSub, Nat.reduceEqDiff, reduceIte, Bool.true_and, Bool.and_true, Bool.not_true, Bool.not_false, Bool.false_eq_true, DL.endP, DL.endN, DL.cz2, DL.cz3, DL.cz4, DL.cz5, DL.cz6, DL.cz7, DL.cz8, DL.cz9, Int.natCast_add, Int.natCast_zero, Int.natCast_one, decide_true, decide_false, eq_self, not_true, not_false_eq_true, Bool.not_eq_true, DL.e_len_t, DL.e_len_l, DL.e_eq_ii, DL.e_ne_ii, DL.e_lt_ii, DL.e_le_ii, DL.e_gt_ii, DL.e_ge_ii, DL.e_ix_t0, DL.e_ix_t1, DL.e_ix_t2, DL.e_ix_t3, DL.e_ix_t4, DL.e_gcd, DL.p_none, DL.p_bool, DL.p_int, DL.p_str, DL.p_list, DL.p_tuple, DL.i_int_none, DL.i_int_bool, DL.i_int_int, DL.i_int_str, DL.i_int_list, DL.i_int_tuple, DL.i_bool_none, DL.i_bool_bool, DL.i_bool_int, DL.i_bool_str, DL.i_bool_list, DL.i_bool_tuple, DL.i_str_none, DL.i_str_bool, DL.i_str_int, DL.i_str_str, DL.i_str_list, DL.i_str_tuple, DL.i_tuple_none, DL.i_tuple_bool, DL.i_tuple_int, DL.i_tuple_str, DL.i_tuple_list, DL.i_tuple_tuple, DL.i_list_none, DL.i_list_bool, DL.i_list_int, DL.i_list_str, DL.i_list_list, DL.i_list_tuple, DL.e_v0, DL.e_t0, DL.e_s0_0, DL.e_s0_1, DL.e_s0_2, DL.e_v1, DL.e_t1, DL.e_s1_0, DL.e_s1_1, DL.e_s1_2, DL.e_s1_3, DL.e_v2, DL.e_t2, DL.e_s2_0, DL.e_s2_1, DL.e_s2_2, DL.e_s2_3, DL.e_v3, DL.e_t3, DL.e_s3_0, DL.e_s3_1, DL.e_s3_2, DL.e_s3_3, DL.e_v4, DL.e_t4, DL.e_s4_0, DL.e_s4_1, DL.e_s4_2, DL.e_s4_3, DL.e_v5, DL.e_t5, DL.e_s5_0, DL.e_s5_1, DL.e_s5_2, DL.e_s5_3, DL.e_v6, DL.e_t6, DL.e_s6_0, DL.e_s6_1, DL.e_s6_2, DL.e_s6_3, DL.e_v7, DL.e_t7, DL.e_s7_0, DL.e_s7_1, DL.e_s7_2, DL.e_s7_3]) (seq_nx (δ1 := [.d (.tuple [w, .int p, b, x, y]), .d (.tuple ks), .d (.int ans), .d (.int k), .no, .no, .no, .no, .no]) (by simp only [e, DL.e_g1, DL.e_g2, DL.e_g3, DL.e_g4, DL.e_g5, DL.e_g6, DL.e_g7, DL.e_g8, DL.e_w8, DL.e_g9, DL.e_w9, DL.e_g10, DL.e_w10, DL.e_g11, DL.e_w11, DL.e_g12, DL.e_w12, DL.e_o1, DL.e_u1, DL.e_o2, DL.e_u2, DL.e_o3, DL.e_u3, DL.e_o4, DL.e_u4, DL.e_o5, DL.e_u5, DL.e_o6, DL.e_u6, DL.e_o7, DL.e_u7, DL.e_o8, DL.e_u8, DL.e_o9, DL.e_u9, DL.e_o10, DL.e_u10, DL.e_o11, DL.e_u11, DL.e_o12, DL.e_u12, DL.e_o0, DL.e_u0, DL.runP, DL.runN, DL.startD, List.map, List.length, List.replicate, List.append_nil, List.cons_append, List.nil_append, DL.e_bo, DL.e_be, DL.e_bb, DL.e_ao, DL.e_ae, DL.e_no, DL.e_nb, DL.e_cd, DL.e_cn, DL.e_ct, DL.e_co, DL.e_ce, DL.e_op, DL.e_if, DL.e_seq, DL.vOr, DL.vAnd, DL.vNot, DL.vTest, DL.vIsi, DL.vCall, DL.vCons, DL.vNil, DL.vConst, DL.vRet, DL.vNext, DL.vApp, DL.vNeg, DL.vChain, DL.vAndV, DL.vOrV, DL.vNotV, DL.vIf, ite_true, ite_false, if_true, if_false, Nat.reduceAdd, Nat.reduceSub, Nat.reduceEqDiff, reduceIte, Bool.true_and, Bool.and_true, Bool.not_true, Bool.not_false, Bool.false_eq_true, DL.endP, DL.endN, DL.cz2, DL.cz3, DL.cz4, DL.cz5, DL.cz6, DL.cz7, DL.cz8, DL.cz9, Int.natCast_add, Int.natCast_zero, Int.natCast_one, decide_true, decide_false, eq_self, not_true, not_false_eq_true, Bool.not_eq_true, DL.e_len_t, DL.e_len_l, DL.e_eq_ii, DL.e_ne_ii, DL.e_lt_ii, DL.e_le_ii, DL.e_gt_ii, DL.e_ge_ii, DL.e_ix_t0, DL.e_ix_t1, DL.e_ix_t2, DL.e_ix_t3, DL.e_ix_t4, DL.e_gcd, DL.p_none, DL.p_bool, DL.p_int, DL.p_str, DL.p_list, DL.p_tuple, DL.i_int_none, DL.i_int_bool, DL.i_int_int, DL.i_int_str, DL.i_int_list, DL.i_int_tuple, DL.i_bool_none, DL.i_bool_bool, DL.i_bool_int, DL.i_bool_str, DL.i_bool_list, DL.i_bool_tuple, DL.i_str_none, DL.i_str_bool, DL.i_str_int, DL.i_str_str, DL.i_str_list, DL.i_str_tuple, DL.i_tuple_none, DL.i_tuple_bool, DL.i_tuple_int, DL.i_tuple_str, DL.i_tuple_list, DL.i_tuple_tuple, DL.i_list_none, DL.i_list_bool, DL.i_list_int, DL.i_list_str, DL.i_list_list, DL.i_list_tuple, DL.e_v0, DL.e_t0, DL.e_s0_0, DL.e_s0_1, DL.e_s0_2, DL.e_v1, DL.e_t1, DL.e_s1_0, DL.e_s1_1, DL.e_s1_2, DL.e_s1_3, DL.e_v2, DL.e_t2, DL.e_s2_0, DL.e_s2_1, DL.e_s2_2, DL.e_s2_3, DL.e_v3, DL.e_t3, DL.e_s3_0, DL.e_s3_1, DL.e_s3_2, DL.e_s3_3, DL.e_v4, DL.e_t4, DL.e_s4_0, DL.e_s4_1, DL.e_s4_2, DL.e_s4_3, DL.e_v5, DL.e_t5, DL.e_s5_0, DL.e_s5_1, DL.e_s5_2, DL.e_s5_3, DL.e_v6, DL.e_t6, DL.e_s6_0, DL.e_s6_1, DL.e_s6_2, DL.e_s6_3, DL.e_v7, DL.e_t7, DL.e_s7_0, DL.e_s7_1, DL.e_s7_2, DL.e_s7_3]) (seq_nx (δ1 := [.d (.tuple [w, .int p, b, x, y]), .d (.tuple ks), .d (.int ans), .d (.int k), .no, .no, .no, .no, .no]) (by simp only [k0, len5, DL.e_g1, DL.e_g2, DL.e_g3, DL.e_g4, DL.e_g5, DL.e_g6, DL.e_g7, DL.e_g8, DL.e_w8, DL.e_g9, DL.e_w9, DL.e_g10, DL.e_w10, DL.e_g11, DL.e_w11, DL.e_g12, DL.e_w12, DL.e_o1, DL.e_u1, DL.e_o2, DL.e_u2, DL.e_o3, DL.e_u3, DL.e_o4, DL.e_u4, DL.e_o5, DL.e_u5, DL.e_o6, DL.e_u6, DL.e_o7, DL.e_u7, DL.e_o8, DL.e_u8, DL.e_o9, DL.e_u9, DL.e_o10, DL.e_u10, DL.e_o11, DL.e_u11, DL.e_o12, DL.e_u12, DL.e_o0, DL.e_u0, DL.runP, DL.runN, DL.startD, List.map, List.length, List.replicate, List.append_nil, List.cons_append, List.nil_append, DL.e_bo, DL.e_be, DL.e_bb, DL.e_ao, DL.e_ae, DL.e_no, DL.e_nb, DL.e_cd, DL.e_cn, DL.e_ct, DL.e_co, DL.e_ce, DL.e_op, DL.e_if, DL.e_seq, DL.vOr, DL.vAnd, DL.vNot, DL.vTest, DL.vIsi, DL.vCall, DL.vCons, DL.vNil, DL.vConst, DL.vRet, DL.vNext, DL.vApp, DL.vNeg, DL.vChain, DL.vAndV, DL.vOrV, DL.vNotV, DL.vIf, ite_true, ite_false, if_true, if_false, Nat.reduceAdd, Nat.reduceSub, Nat.reduceEqDiff, reduceIte, Bool.true_and, Bool.and_true, Bool.not_true, Bool.not_false, Bool.false_eq_true, DL.endP, DL.endN, DL.cz2, DL.cz3, DL.cz4, DL.cz5, DL.cz6, DL.cz7, DL.cz8, DL.cz9, Int.natCast_add, Int.natCast_zero, Int.natCast_one, decide_true, decide_false, eq_self, not_true, not_false_eq_true, Bool.not_eq_true, DL.e_len_t, DL.e_len_l, DL.e_eq_ii, DL.e_ne_ii, DL.e_lt_ii, DL.e_le_ii, DL.e_gt_ii, DL.e_ge_ii, DL.e_ix_t0, DL.e_ix_t1, DL.e_ix_t2, DL.e_ix_t3, DL.e_ix_t4, DL.e_gcd, DL.p_none, DL.p_bool, DL.p_int, DL.p_str, DL.p_list, DL.p_tuple, DL.i_int_none, DL.i_int_bool, DL.i_int_int, DL.i_int_str, DL.i_int_list, DL.i_int_tuple, DL.i_bool_none, DL.i_bool_bool, DL.i_bool_int, DL.i_bool_str, DL.i_bool_list, DL.i_bool_tuple, DL.i_str_none, DL.i_str_bool, DL.i_str_int, DL.i_str_str, DL.i_str_list, DL.i_str_tuple, DL.i_tuple_none, DL.i_tuple_bool, DL.i_tuple_int, DL.i_tuple_str, DL.i_tuple_list, DL.i_tuple_tuple, DL.i_list_none, DL.i_list_bool, DL.i_list_int, DL.i_list_str, DL.i_list_list, DL.i_list_tuple, DL.e_v0, DL.e_t0, DL.e_s0_0, DL.e_s0_1, DL.e_s0_2, DL.e_v1, DL.e_t1, DL.e_s1_0, DL.e_s1_1, DL.e_s1_2, DL.e_s1_3, DL.e_v2, DL.e_t2, DL.e_s2_0, DL.e_s2_1, DL.e_s2_2, DL.e_s2_3, DL.e_v3, DL.e_t3, DL.e_s3_0, DL.e_s3_1, DL.e_s3_2, DL.e_s3_3, DL.e_v4, DL.e_t4, DL.e_s4_0, DL.e_s4_1, DL.e_s4_2, DL.e_s4_3, DL.e_v5, DL.e_t5, DL.e_s5_0, DL.e_s5_1, DL.e_s5_2, DL.e_s5_3, DL.e_v6, DL.e_t6, DL.e_s6_0, DL.e_s6_1, DL.e_s6_2, DL.e_s6_3, DL.e_v7, DL.e_t7, DL.e_s7_0, DL.e_s7_1, DL.e_s7_2, DL.e_s7_3]) (seq_nx (δ1 := [.d (.tuple [w, .int p, b, x, y]), .d (.tuple ks), .d (.int ans), .d (.int k), .d w, .d (.int p), .d b, .d x, .d y]) ?_ (seq_nx (δ1 := [.d (.tuple [w, .int p, b, x, y]), .d (.tuple ks), .d (.int ans), .d (.int k), .d w, .d (.int p), .d b, .d x, .d y]) (by simp only [t, DL.e_g1, DL.e_g2, DL.e_g3, DL.e_g4, DL.e_g5, DL.e_g6, DL.e_g7, DL.e_g8, DL.e_w8, DL.e_g9, DL.e_w9, DL.e_g10, DL.e_w10, DL.e_g11, DL.e_w11, DL.e_g12, DL.e_w12, DL.e_o1, DL.e_u1, DL.e_o2, DL.e_u2, DL.e_o3, DL.e_u3, DL.e_o4, DL.e_u4, DL.e_o5, DL.e_u5, DL.e_o6, DL.e_u6, DL.e_o7, DL.e_u7, DL.e_o8, DL.e_u8, DL.e_o9, DL.e_u9, DL.e_o10, DL.e_u10, DL.e_o11, DL.e_u11, DL.e_o12, DL.e_u12, DL.e_o0, DL.e_u0, DL.runP, DL.runN, DL.startD, List.map, List.length, List.replicate, List.append_nil, List.cons_append, List.nil_append, DL.e_bo, DL.e_be, DL.e_bb, DL.e_ao, DL.e_ae, DL.e_no, DL.e_nb, DL.e_cd, DL.e_cn, DL.e_ct, DL.e_co, DL.e_ce, DL.e_op, DL.e_if, DL.e_seq, DL.vOr, DL.vAnd, DL.vNot, DL.vTest, DL.vIsi, DL.vCall, DL.vCons, DL.vNil, DL.vConst, DL.vRet, DL.vNext, DL.vApp, DL.vNeg, DL.vChain, DL.vAndV, DL.vOrV, DL.vNotV, DL.vIf, ite_true, ite_false, if_true, if_false, Nat.reduceAdd, Nat.reduceSub, Nat.reduceEqDiff, reduceIte, Bool.true_and, Bool.and_true, Bool.not_true, Bool.not_false, Bool.false_eq_true, DL.endP, DL.endN, DL.cz2, DL.cz3, DL.cz4, DL.cz5, DL.cz6, DL.cz7, DL.cz8, DL.cz9, Int.natCast_add, Int.natCast_zero, Int.natCast_one, decide_true, decide_false, eq_self, not_true, not_false_eq_true, Bool.not_eq_true, DL.e_len_t, DL.e_len_l, DL.e_eq_ii, DL.e_ne_ii, DL.e_lt_ii, DL.e_le_ii, DL.e_gt_ii, DL.e_ge_ii, DL.e_ix_t0, DL.e_ix_t1, DL.e_ix_t2, DL.e_ix_t3, DL.e_ix_t4, DL.e_gcd, DL.p_none, DL.p_bool, DL.p_int, DL.p_str, DL.p_list, DL.p_tuple, DL.i_int_none, DL.i_int_bool, DL.i_int_int, DL.i_int_str, DL.i_int_list, DL.i_int_tuple, DL.i_bool_none, DL.i_bool_bool, DL.i_bool_int, DL.i_bool_str, DL.i_bool_list, DL.i_bool_tuple, DL.i_str_none, DL.i_str_bool, DL.i_str_int, DL.i_str_str, DL.i_str_list, DL.i_str_tuple, DL.i_tuple_none, DL.i_tuple_bool, DL.i_tuple_int, DL.i_tuple_str, DL.i_tuple_list, DL.i_tuple_tuple, DL.i_list_none, DL.i_list_bool, DL.i_list_int, DL.i_list_str, DL.i_list_list, DL.i_list_tuple, DL.e_v0, DL.e_t0, DL.e_s0_0, DL.e_s0_1, DL.e_s0_2, DL.e_v1, DL.e_t1, DL.e_s1_0, DL.e_s1_1, DL.e_s1_2, DL.e_s1_3, DL.e_v2, DL.e_t2, DL.e_s2_0, DL.e_s2_1, DL.e_s2_2, DL.e_s2_3, DL.e_v3, DL.e_t3, DL.e_s3_0, DL.e_s3_1, DL.e_s3_2, DL.e_s3_3, DL.e_v4, DL.e_t4, DL.e_s4_0, DL.e_s4_1, DL.e_s4_2, DL.e_s4_3, DL.e_v5, DL.e_t5, DL.e_s5_0, DL.e_s5_1, DL.e_s5_2, DL.e_s5_3, DL.e_v6, DL.e_t6, DL.e_s6_0, DL.e_s6_1, DL.e_s6_2, DL.e_s6_3, DL.e_v7, DL.e_t7, DL.e_s7_0, DL.e_s7_1, DL.e_s7_2, DL.e_s7_3]) ?_))))
    · simp only [vAsg, wTup, wCons, wName, wNil, DL.e_g1, DL.e_g2, DL.e_g3, DL.e_g4, DL.e_g5, DL.e_g6, DL.e_g7, DL.e_g8, DL.e_w8, DL.e_g9, DL.e_w9, DL.e_g10, DL.e_w10, DL.e_g11, DL.e_w11, DL.e_g12, DL.e_w12, DL.e_o1, DL.e_u1, DL.e_o2, DL.e_u2, DL.e_o3, DL.e_u3, DL.e_o4, DL.e_u4, DL.e_o5, DL.e_u5, DL.e_o6, DL.e_u6, DL.e_o7, DL.e_u7, DL.e_o8, DL.e_u8, DL.e_o9, DL.e_u9, DL.e_o10, DL.e_u10, DL.e_o11, DL.e_u11, DL.e_o12, DL.e_u12, DL.e_o0, DL.e_u0, DL.runP, DL.runN, DL.startD, List.map, List.length, List.replicate, List.append_nil, List.cons_append, List.nil_append, DL.e_bo, DL.e_be, DL.e_bb, DL.e_ao, DL.e_ae, DL.e_no, DL.e_nb, DL.e_cd, DL.e_cn, DL.e_ct, DL.e_co, DL.e_ce, DL.e_op, DL.e_if, DL.e_seq, DL.vOr, DL.vAnd, DL.vNot, DL.vTest, DL.vIsi, DL.vCall, DL.vCons, DL.vNil, DL.vConst, DL.vRet, DL.vNext, DL.vApp, DL.vNeg, DL.vChain, DL.vAndV, DL.vOrV, DL.vNotV, DL.vIf, ite_true, ite_false, if_true, if_false, Nat.reduceAdd, Nat.reduceSub, Nat.reduceEqDiff, reduceIte, Bool.true_and, Bool.and_true, Bool.not_true, Bool.not_false, Bool.false_eq_true, DL.endP, DL.endN, DL.cz2, DL.cz3, DL.cz4, DL.cz5, DL.cz6, DL.cz7, DL.cz8, DL.cz9, Int.natCast_add, Int.natCast_zero, Int.natCast_one, decide_true, decide_false, eq_self, not_true, not_false_eq_true, Bool.not_eq_true, DL.e_len_t, DL.e_len_l, DL.e_eq_ii, DL.e_ne_ii, DL.e_lt_ii, DL.e_le_ii, DL.e_gt_ii, DL.e_ge_ii, DL.e_ix_t0, DL.e_ix_t1, DL.e_ix_t2, DL.e_ix_t3, DL.e_ix_t4, DL.e_gcd, DL.p_none, DL.p_bool, DL.p_int, DL.p_str, DL.p_list, DL.p_tuple, DL.i_int_none, DL.i_int_bool, DL.i_int_int, DL.i_int_str, DL.i_int_list, DL.i_int_tuple, DL.i_bool_none, DL.i_bool_bool, DL.i_bool_int, DL.i_bool_str, DL.i_bool_list, DL.i_bool_tuple, DL.i_str_none, DL.i_str_bool, DL.i_str_int, DL.i_str_str, DL.i_str_list, DL.i_str_tuple, DL.i_tuple_none, DL.i_tuple_bool, DL.i_tuple_int, DL.i_tuple_str, DL.i_tuple_list, DL.i_tuple_tuple, DL.i_list_none, DL.i_list_bool, DL.i_list_int, DL.i_list_str, DL.i_list_list, DL.i_list_tuple, DL.e_v0, DL.e_t0, DL.e_s0_0, DL.e_s0_1, DL.e_s0_2, DL.e_v1, DL.e_t1, DL.e_s1_0, DL.e_s1_1, DL.e_s1_2, DL.e_s1_3, DL.e_v2, DL.e_t2, DL.e_s2_0, DL.e_s2_1, DL.e_s2_2, DL.e_s2_3, DL.e_v3, DL.e_t3, DL.e_s3_0, DL.e_s3_1, DL.e_s3_2, DL.e_s3_3, DL.e_v4, DL.e_t4, DL.e_s4_0, DL.e_s4_1, DL.e_s4_2, DL.e_s4_3, DL.e_v5, DL.e_t5, DL.e_s5_0, DL.e_s5_1, DL.e_s5_2, DL.e_s5_3, DL.e_v6, DL.e_t6, DL.e_s6_0, DL.e_s6_1, DL.e_s6_2, DL.e_s6_3, DL.e_v7, DL.e_t7, DL.e_s7_0, DL.e_s7_1, DL.e_s7_2, DL.e_s7_3]
    · simp only [e_sub, e1, e2, DL.e_g1, DL.e_g2, DL.e_g3, DL.e_g4, DL.e_g5, DL.e_g6, DL.e_g7, DL.e_g8, DL.e_w8, DL.e_g9, DL.e_w9, DL.e_g10, DL.e_w10, DL.e_g11, DL.e_w11, DL.e_g12, DL.e_w12, DL.e_o1, DL.e_u1, DL.e_o2, DL.e_u2, DL.e_o3, DL.e_u3, DL.e_o4, DL.e_u4, DL.e_o5, DL.e_u5, DL.e_o6, DL.e_u6, DL.e_o7, DL.e_u7, DL.e_o8, DL.e_u8, DL.e_o9, DL.e_u9, DL.e_o10, DL.e_u10, DL.e_o11, DL.e_u11, DL.e_o12, DL.e_u12, DL.e_o0, DL.e_u0, DL.runP, DL.runN, DL.startD, List.map, List.length, List.replicate, List.append_nil, List.cons_append, List.nil_append, DL.e_bo, DL.e_be, DL.e_bb, DL.e_ao, DL.e_ae, DL.e_no, DL.e_nb, DL.e_cd, DL.e_cn, DL.e_ct, DL.e_co, DL.e_ce, DL.e_op, DL.e_if, DL.e_seq, DL.vOr, DL.vAnd, DL.vNot, DL.vTest, DL.vIsi, DL.vCall, DL.vCons, DL.vNil, DL.vConst, DL.vRet, DL.vNext, DL.vApp, DL.vNeg, DL.vChain, DL.vAndV, DL.vOrV, DL.vNotV, DL.vIf, ite_true, ite_false, if_true, if_false, Nat.reduceAdd, Nat.reduceSub, Nat.reduceEqDiff, reduceIte, Bool.true_and, Bool.and_true, Bool.not_true, Bool.not_false, Bool.false_eq_true, DL.endP, DL.endN, DL.cz2, DL.cz3, DL.cz4, DL.cz5, DL.cz6, DL.cz7, DL.cz8, DL.cz9, Int.natCast_add, Int.natCast_zero, Int.natCast_one, decide_true, decide_false, eq_self, not_true, not_false_eq_true, Bool.not_eq_true, DL.e_len_t, DL.e_len_l, DL.e_eq_ii, DL.e_ne_ii, DL.e_lt_ii, DL.e_le_ii, DL.e_gt_ii, DL.e_ge_ii, DL.e_ix_t0, DL.e_ix_t1, DL.e_ix_t2, DL.e_ix_t3, DL.e_ix_t4, DL.e_gcd, DL.p_none, DL.p_bool, DL.p_int, DL.p_str, DL.p_list, DL.p_tuple, DL.i_int_none, DL.i_int_bool, DL.i_int_int, DL.i_int_str, DL.i_int_list, DL.i_int_tuple, DL.i_bool_none, DL.i_bool_bool, DL.i_bool_int, DL.i_bool_str, DL.i_bool_list, DL.i_bool_tuple, DL.i_str_none, DL.i_str_bool, DL.i_str_int, DL.i_str_str, DL.i_str_list, DL.i_str_tuple, DL.i_tuple_none, DL.i_tuple_bool, DL.i_tuple_int, DL.i_tuple_str, DL.i_tuple_list, DL.i_tuple_tuple, DL.i_list_none, DL.i_list_bool, DL.i_list_int, DL.i_list_str, DL.i_list_list, DL.i_list_tuple, DL.e_v0, DL.e_t0, DL.e_s0_0, DL.e_s0_1, DL.e_s0_2, DL.e_v1, DL.e_t1, DL.e_s1_0, DL.e_s1_1, DL.e_s1_2, DL.e_s1_3, DL.e_v2, DL.e_t2, DL.e_s2_0, DL.e_s2_1, DL.e_s2_2, DL.e_s2_3, DL.e_v3, DL.e_t3, DL.e_s3_0, DL.e_s3_1, DL.e_s3_2, DL.e_s3_3, DL.e_v4, DL.e_t4, DL.e_s4_0, DL.e_s4_1, DL.e_s4_2, DL.e_s4_3, DL.e_v5, DL.e_t5, DL.e_s5_0, DL.e_s5_1, DL.e_s5_2, DL.e_s5_3, DL.e_v6, DL.e_t6, DL.e_s6_0, DL.e_s6_1, DL.e_s6_2, DL.e_s6_3, DL.e_v7, DL.e_t7, DL.e_s7_0, DL.e_s7_1, DL.e_s7_2, DL.e_s7_3]
theorem m_is_tree {ks : List PyData} {ans : Int} {c : Nat} {t : PyData} (h : TreeV ks ans c t) (hc : c ≤ 8) (ha : ans ≤ 3) : ph_is_tree [t, .tuple ks, .int ans] = .ok (.bool true) := by
  have e1 := m_branch ha 9 c t 7 h (by omega) (by omega)
  have e2 := m_leaves 9 c t h (by omega)
  have t1 : decide ((c : Int) ≤ 8) = true := decide_eq_true (by omega)
  generalize (c : Int) = cc at e2 t1
  refine runP_at (r := .ok (.rt (.bool true), [.d t, .d (.tuple ks), .d (.int ans)])) rfl ?_ rfl
  show b_is_tree [.d t, .d (.tuple ks), .d (.int ans)] = _
  unfold b_is_tree
  simp only [e1, e2, t1, DL.e_g1, DL.e_g2, DL.e_g3, DL.e_g4, DL.e_g5, DL.e_g6, DL.e_g7, DL.e_g8, DL.e_w8, DL.e_g9, DL.e_w9, DL.e_g10, DL.e_w10, DL.e_g11, DL.e_w11, DL.e_g12, DL.e_w12, DL.e_o1, DL.e_u1, DL.e_o2, DL.e_u2, DL.e_o3, DL.e_u3, DL.e_o4, DL.e_u4, DL.e_o5, DL.e_u5, DL.e_o6, DL.e_u6, DL.e_o7, DL.e_u7, DL.e_o8, DL.e_u8, DL.e_o9, DL.e_u9, DL.e_o10, DL.e_u10, DL.e_o11, DL.e_u11, DL.e_o12, DL.e_u12, DL.e_o0, DL.e_u0, DL.runP, DL.runN, DL.startD, List.map, List.length, List.replicate, List.append_nil, List.cons_append, List.nil_append, DL.e_bo, DL.e_be, DL.e_bb, DL.e_ao, DL.e_ae, DL.e_no, DL.e_nb, DL.e_cd, DL.e_cn, DL.e_ct, DL.e_co, DL.e_ce, DL.e_op, DL.e_if, DL.e_seq, DL.vOr, DL.vAnd, DL.vNot, DL.vTest, DL.vIsi, DL.vCall, DL.vCons, DL.vNil, DL.vConst, DL.vRet, DL.vNext, DL.vApp, DL.vNeg, DL.vChain, DL.vAndV, DL.vOrV, DL.vNotV, DL.vIf, ite_true, ite_false, if_true, if_false, Nat.reduceAdd, Nat.reduceSub, Nat.reduceEqDiff, reduceIte, Bool.true_and, Bool.and_true, Bool.not_true, Bool.not_false, Bool.false_eq_true, DL.endP, DL.endN, DL.cz2, DL.cz3, DL.cz4, DL.cz5, DL.cz6, DL.cz7, DL.cz8, DL.cz9, Int.natCast_add, Int.natCast_zero, Int.natCast_one, decide_true, decide_false, eq_self, not_true, not_false_eq_true, Bool.not_eq_true, DL.e_len_t, DL.e_len_l, DL.e_eq_ii, DL.e_ne_ii, DL.e_lt_ii, DL.e_le_ii, DL.e_gt_ii, DL.e_ge_ii, DL.e_ix_t0, DL.e_ix_t1, DL.e_ix_t2, DL.e_ix_t3, DL.e_ix_t4, DL.e_gcd, DL.p_none, DL.p_bool, DL.p_int, DL.p_str, DL.p_list, DL.p_tuple, DL.i_int_none, DL.i_int_bool, DL.i_int_int, DL.i_int_str, DL.i_int_list, DL.i_int_tuple, DL.i_bool_none, DL.i_bool_bool, DL.i_bool_int, DL.i_bool_str, DL.i_bool_list, DL.i_bool_tuple, DL.i_str_none, DL.i_str_bool, DL.i_str_int, DL.i_str_str, DL.i_str_list, DL.i_str_tuple, DL.i_tuple_none, DL.i_tuple_bool, DL.i_tuple_int, DL.i_tuple_str, DL.i_tuple_list, DL.i_tuple_tuple, DL.i_list_none, DL.i_list_bool, DL.i_list_int, DL.i_list_str, DL.i_list_list, DL.i_list_tuple, DL.e_v0, DL.e_t0, DL.e_s0_0, DL.e_s0_1, DL.e_s0_2, DL.e_v1, DL.e_t1, DL.e_s1_0, DL.e_s1_1, DL.e_s1_2, DL.e_s1_3, DL.e_v2, DL.e_t2, DL.e_s2_0, DL.e_s2_1, DL.e_s2_2, DL.e_s2_3, DL.e_v3, DL.e_t3, DL.e_s3_0, DL.e_s3_1, DL.e_s3_2, DL.e_s3_3, DL.e_v4, DL.e_t4, DL.e_s4_0, DL.e_s4_1, DL.e_s4_2, DL.e_s4_3, DL.e_v5, DL.e_t5, DL.e_s5_0, DL.e_s5_1, DL.e_s5_2, DL.e_s5_3, DL.e_v6, DL.e_t6, DL.e_s6_0, DL.e_s6_1, DL.e_s6_2, DL.e_s6_3, DL.e_v7, DL.e_t7, DL.e_s7_0, DL.e_s7_1, DL.e_s7_2, DL.e_s7_3]
theorem m_kind {k : PyData} (h : k ∈ sevenK) : ph_is_kind [k] = .ok (.bool true) := by
  rcases kind_cases h with rfl | ⟨s, hs, rfl⟩
  · kernel_rfl
  · exact word_all (P := fun s => ph_is_kind [.str s] = .ok (.bool true)) (by kernel_rfl) (by kernel_rfl) (by kernel_rfl) (by kernel_rfl) s hs
theorem m_is_kinds {ks : List PyData} (h : ∀ k ∈ ks, k ∈ sevenK) (h1 : 1 ≤ ks.length) (h3 : ks.length ≤ 3) : ph_is_kinds [.tuple ks] = .ok (.bool true) := by
  have c := comp_pure (wi := vItems (vVar 0)) (g := wName 1) (t := vTrue) (f := vApp ph_is_kind (vCons (vVar 1) vNil)) (vs := [1]) (δ := [.d (.tuple ks), .no]) (ds := ks) (fun d => some (.bool ((fun _ => true) d))) rfl rfl (sz (by omega)) fun d hd => by
    have e := m_kind (h d hd)
    refine ⟨[.d (.tuple ks), .d d], rfl, true, [.d (.tuple ks), .d d], rfl, rfl, [.d (.tuple ks), .d d], ?_, rfl⟩
    simp only [e, DL.e_g1, DL.e_g2, DL.e_g3, DL.e_g4, DL.e_g5, DL.e_g6, DL.e_g7, DL.e_g8, DL.e_w8, DL.e_g9, DL.e_w9, DL.e_g10, DL.e_w10, DL.e_g11, DL.e_w11, DL.e_g12, DL.e_w12, DL.e_o1, DL.e_u1, DL.e_o2, DL.e_u2, DL.e_o3, DL.e_u3, DL.e_o4, DL.e_u4, DL.e_o5, DL.e_u5, DL.e_o6, DL.e_u6, DL.e_o7, DL.e_u7, DL.e_o8, DL.e_u8, DL.e_o9, DL.e_u9, DL.e_o10, DL.e_u10, DL.e_o11, DL.e_u11, DL.e_o12, DL.e_u12, DL.e_o0, DL.e_u0, DL.runP, DL.runN, DL.startD, List.map, List.length, List.replicate, List.append_nil, List.cons_append, List.nil_append, DL.e_bo, DL.e_be, DL.e_bb, DL.e_ao, DL.e_ae, DL.e_no, DL.e_nb, DL.e_cd, DL.e_cn, DL.e_ct, DL.e_co, DL.e_ce, DL.e_op, DL.e_if, DL.e_seq, DL.vOr, DL.vAnd, DL.vNot, DL.vTest, DL.vIsi, DL.vCall, DL.vCons, DL.vNil, DL.vConst, DL.vRet, DL.vNext, DL.vApp, DL.vNeg, DL.vChain, DL.vAndV, DL.vOrV, DL.vNotV, DL.vIf, ite_true, ite_false, if_true, if_false, Nat.reduceAdd, Nat.reduceSub, Nat.reduceEqDiff, reduceIte, Bool.true_and, Bool.and_true, Bool.not_true, Bool.not_false, Bool.false_eq_true, DL.endP, DL.endN, DL.cz2, DL.cz3, DL.cz4, DL.cz5, DL.cz6, DL.cz7, DL.cz8, DL.cz9, Int.natCast_add, Int.natCast_zero, Int.natCast_one, decide_true, decide_false, eq_self, not_true, not_false_eq_true, Bool.not_eq_true, DL.e_len_t, DL.e_len_l, DL.e_eq_ii, DL.e_ne_ii, DL.e_lt_ii, DL.e_le_ii, DL.e_gt_ii, DL.e_ge_ii, DL.e_ix_t0, DL.e_ix_t1, DL.e_ix_t2, DL.e_ix_t3, DL.e_ix_t4, DL.e_gcd, DL.p_none, DL.p_bool, DL.p_int, DL.p_str, DL.p_list, DL.p_tuple, DL.i_int_none, DL.i_int_bool, DL.i_int_int, DL.i_int_str, DL.i_int_list, DL.i_int_tuple, DL.i_bool_none, DL.i_bool_bool, DL.i_bool_int, DL.i_bool_str, DL.i_bool_list, DL.i_bool_tuple, DL.i_str_none, DL.i_str_bool, DL.i_str_int, DL.i_str_str, DL.i_str_list, DL.i_str_tuple, DL.i_tuple_none, DL.i_tuple_bool, DL.i_tuple_int, DL.i_tuple_str, DL.i_tuple_list, DL.i_tuple_tuple, DL.i_list_none, DL.i_list_bool, DL.i_list_int, DL.i_list_str, DL.i_list_list, DL.i_list_tuple, DL.e_v0, DL.e_t0, DL.e_s0_0, DL.e_s0_1, DL.e_s0_2, DL.e_v1, DL.e_t1, DL.e_s1_0, DL.e_s1_1, DL.e_s1_2, DL.e_s1_3, DL.e_v2, DL.e_t2, DL.e_s2_0, DL.e_s2_1, DL.e_s2_2, DL.e_s2_3, DL.e_v3, DL.e_t3, DL.e_s3_0, DL.e_s3_1, DL.e_s3_2, DL.e_s3_3, DL.e_v4, DL.e_t4, DL.e_s4_0, DL.e_s4_1, DL.e_s4_2, DL.e_s4_3, DL.e_v5, DL.e_t5, DL.e_s5_0, DL.e_s5_1, DL.e_s5_2, DL.e_s5_3, DL.e_v6, DL.e_t6, DL.e_s6_0, DL.e_s6_1, DL.e_s6_2, DL.e_s6_3, DL.e_v7, DL.e_t7, DL.e_s7_0, DL.e_s7_1, DL.e_s7_2, DL.e_s7_3]
  have g := gAll_at (fun _ => true) ks
  rw [List.all_eq_true.mpr (fun _ _ => rfl)] at g
  generalize ks.filterMap (fun d => some (PyData.bool ((fun _ => true) d))) = q at c g
  have t1 : decide (1 ≤ (ks.length : Int)) = true := decide_eq_true (by omega)
  have t3 : decide ((ks.length : Int) ≤ 3) = true := decide_eq_true (by omega)
  refine runP_at (r := .ok (.rt (.bool true), [.d (.tuple ks), .no])) rfl ?_ rfl
  show b_is_kinds [.d (.tuple ks), .no] = _
  unfold b_is_kinds
  refine seq_nx (δ1 := [.d (.tuple ks), .no]) (by simp only [t1, t3, DL.e_g1, DL.e_g2, DL.e_g3, DL.e_g4, DL.e_g5, DL.e_g6, DL.e_g7, DL.e_g8, DL.e_w8, DL.e_g9, DL.e_w9, DL.e_g10, DL.e_w10, DL.e_g11, DL.e_w11, DL.e_g12, DL.e_w12, DL.e_o1, DL.e_u1, DL.e_o2, DL.e_u2, DL.e_o3, DL.e_u3, DL.e_o4, DL.e_u4, DL.e_o5, DL.e_u5, DL.e_o6, DL.e_u6, DL.e_o7, DL.e_u7, DL.e_o8, DL.e_u8, DL.e_o9, DL.e_u9, DL.e_o10, DL.e_u10, DL.e_o11, DL.e_u11, DL.e_o12, DL.e_u12, DL.e_o0, DL.e_u0, DL.runP, DL.runN, DL.startD, List.map, List.length, List.replicate, List.append_nil, List.cons_append, List.nil_append, DL.e_bo, DL.e_be, DL.e_bb, DL.e_ao, DL.e_ae, DL.e_no, DL.e_nb, DL.e_cd, DL.e_cn, DL.e_ct, DL.e_co, DL.e_ce, DL.e_op, DL.e_if, DL.e_seq, DL.vOr, DL.vAnd, DL.vNot, DL.vTest, DL.vIsi, DL.vCall, DL.vCons, DL.vNil, DL.vConst, DL.vRet, DL.vNext, DL.vApp, DL.vNeg, DL.vChain, DL.vAndV, DL.vOrV, DL.vNotV, DL.vIf, ite_true, ite_false, if_true, if_false, Nat.reduceAdd, Nat.reduceSub, Nat.reduceEqDiff, reduceIte, Bool.true_and, Bool.and_true, Bool.not_true, Bool.not_false, Bool.false_eq_true, DL.endP, DL.endN, DL.cz2, DL.cz3, DL.cz4, DL.cz5, DL.cz6, DL.cz7, DL.cz8, DL.cz9, Int.natCast_add, Int.natCast_zero, Int.natCast_one, decide_true, decide_false, eq_self, not_true, not_false_eq_true, Bool.not_eq_true, DL.e_len_t, DL.e_len_l, DL.e_eq_ii, DL.e_ne_ii, DL.e_lt_ii, DL.e_le_ii, DL.e_gt_ii, DL.e_ge_ii, DL.e_ix_t0, DL.e_ix_t1, DL.e_ix_t2, DL.e_ix_t3, DL.e_ix_t4, DL.e_gcd, DL.p_none, DL.p_bool, DL.p_int, DL.p_str, DL.p_list, DL.p_tuple, DL.i_int_none, DL.i_int_bool, DL.i_int_int, DL.i_int_str, DL.i_int_list, DL.i_int_tuple, DL.i_bool_none, DL.i_bool_bool, DL.i_bool_int, DL.i_bool_str, DL.i_bool_list, DL.i_bool_tuple, DL.i_str_none, DL.i_str_bool, DL.i_str_int, DL.i_str_str, DL.i_str_list, DL.i_str_tuple, DL.i_tuple_none, DL.i_tuple_bool, DL.i_tuple_int, DL.i_tuple_str, DL.i_tuple_list, DL.i_tuple_tuple, DL.i_list_none, DL.i_list_bool, DL.i_list_int, DL.i_list_str, DL.i_list_list, DL.i_list_tuple, DL.e_v0, DL.e_t0, DL.e_s0_0, DL.e_s0_1, DL.e_s0_2, DL.e_v1, DL.e_t1, DL.e_s1_0, DL.e_s1_1, DL.e_s1_2, DL.e_s1_3, DL.e_v2, DL.e_t2, DL.e_s2_0, DL.e_s2_1, DL.e_s2_2, DL.e_s2_3, DL.e_v3, DL.e_t3, DL.e_s3_0, DL.e_s3_1, DL.e_s3_2, DL.e_s3_3, DL.e_v4, DL.e_t4, DL.e_s4_0, DL.e_s4_1, DL.e_s4_2, DL.e_s4_3, DL.e_v5, DL.e_t5, DL.e_s5_0, DL.e_s5_1, DL.e_s5_2, DL.e_s5_3, DL.e_v6, DL.e_t6, DL.e_s6_0, DL.e_s6_1, DL.e_s6_2, DL.e_s6_3, DL.e_v7, DL.e_t7, DL.e_s7_0, DL.e_s7_1, DL.e_s7_2, DL.e_s7_3]) ?_
  simp only [c, g, DL.e_g1, DL.e_g2, DL.e_g3, DL.e_g4, DL.e_g5, DL.e_g6, DL.e_g7, DL.e_g8, DL.e_w8, DL.e_g9, DL.e_w9, DL.e_g10, DL.e_w10, DL.e_g11, DL.e_w11, DL.e_g12, DL.e_w12, DL.e_o1, DL.e_u1, DL.e_o2, DL.e_u2, DL.e_o3, DL.e_u3, DL.e_o4, DL.e_u4, DL.e_o5, DL.e_u5, DL.e_o6, DL.e_u6, DL.e_o7, DL.e_u7, DL.e_o8, DL.e_u8, DL.e_o9, DL.e_u9, DL.e_o10, DL.e_u10, DL.e_o11, DL.e_u11, DL.e_o12, DL.e_u12, DL.e_o0, DL.e_u0, DL.runP, DL.runN, DL.startD, List.map, List.length, List.replicate, List.append_nil, List.cons_append, List.nil_append, DL.e_bo, DL.e_be, DL.e_bb, DL.e_ao, DL.e_ae, DL.e_no, DL.e_nb, DL.e_cd, DL.e_cn, DL.e_ct, DL.e_co, DL.e_ce, DL.e_op, DL.e_if, DL.e_seq, DL.vOr, DL.vAnd, DL.vNot, DL.vTest, DL.vIsi, DL.vCall, DL.vCons, DL.vNil, DL.vConst, DL.vRet, DL.vNext, DL.vApp, DL.vNeg, DL.vChain, DL.vAndV, DL.vOrV, DL.vNotV, DL.vIf, ite_true, ite_false, if_true, if_false, Nat.reduceAdd, Nat.reduceSub, Nat.reduceEqDiff, reduceIte, Bool.true_and, Bool.and_true, Bool.not_true, Bool.not_false, Bool.false_eq_true, DL.endP, DL.endN, DL.cz2, DL.cz3, DL.cz4, DL.cz5, DL.cz6, DL.cz7, DL.cz8, DL.cz9, Int.natCast_add, Int.natCast_zero, Int.natCast_one, decide_true, decide_false, eq_self, not_true, not_false_eq_true, Bool.not_eq_true, DL.e_len_t, DL.e_len_l, DL.e_eq_ii, DL.e_ne_ii, DL.e_lt_ii, DL.e_le_ii, DL.e_gt_ii, DL.e_ge_ii, DL.e_ix_t0, DL.e_ix_t1, DL.e_ix_t2, DL.e_ix_t3, DL.e_ix_t4, DL.e_gcd, DL.p_none, DL.p_bool, DL.p_int, DL.p_str, DL.p_list, DL.p_tuple, DL.i_int_none, DL.i_int_bool, DL.i_int_int, DL.i_int_str, DL.i_int_list, DL.i_int_tuple, DL.i_bool_none, DL.i_bool_bool, DL.i_bool_int, DL.i_bool_str, DL.i_bool_list, DL.i_bool_tuple, DL.i_str_none, DL.i_str_bool, DL.i_str_int, DL.i_str_str, DL.i_str_list, DL.i_str_tuple, DL.i_tuple_none, DL.i_tuple_bool, DL.i_tuple_int, DL.i_tuple_str, DL.i_tuple_list, DL.i_tuple_tuple, DL.i_list_none, DL.i_list_bool, DL.i_list_int, DL.i_list_str, DL.i_list_list, DL.i_list_tuple, DL.e_v0, DL.e_t0, DL.e_s0_0, DL.e_s0_1, DL.e_s0_2, DL.e_v1, DL.e_t1, DL.e_s1_0, DL.e_s1_1, DL.e_s1_2, DL.e_s1_3, DL.e_v2, DL.e_t2, DL.e_s2_0, DL.e_s2_1, DL.e_s2_2, DL.e_s2_3, DL.e_v3, DL.e_t3, DL.e_s3_0, DL.e_s3_1, DL.e_s3_2, DL.e_s3_3, DL.e_v4, DL.e_t4, DL.e_s4_0, DL.e_s4_1, DL.e_s4_2, DL.e_s4_3, DL.e_v5, DL.e_t5, DL.e_s5_0, DL.e_s5_1, DL.e_s5_2, DL.e_s5_3, DL.e_v6, DL.e_t6, DL.e_s6_0, DL.e_s6_1, DL.e_s6_2, DL.e_s6_3, DL.e_v7, DL.e_t7, DL.e_s7_0, DL.e_s7_1, DL.e_s7_2, DL.e_s7_3]
theorem m_is_forest {ks ts : List PyData} {ans : Int} (h : ForestV ks ans ts) : ph_is_forest [fT ks ans ts] = .ok (.bool true) := by
  obtain ⟨h1, h2, h3, h4, h5, h6, h7⟩ := h
  have c := comp_pure (wi := vItems (vVar 3)) (g := wName 4) (t := vTrue) (f := vApp ph_is_tree (vCons (vVar 4) (vCons (vVar 1) (vCons (vVar 2) vNil)))) (vs := [4]) (δ := [.d (fT ks ans ts), .d (.tuple ks), .d (.int ans), .d (.tuple ts), .no]) (ds := ts) (fun d => some (.bool ((fun _ => true) d))) rfl rfl (sz (by omega)) fun d hd => by
    obtain ⟨c, hc, _, hc6⟩ := h7 d hd
    have e := m_is_tree hc hc6 (by omega)
    refine ⟨[.d (fT ks ans ts), .d (.tuple ks), .d (.int ans), .d (.tuple ts), .d d], rfl, true, [.d (fT ks ans ts), .d (.tuple ks), .d (.int ans), .d (.tuple ts), .d d], rfl, rfl, [.d (fT ks ans ts), .d (.tuple ks), .d (.int ans), .d (.tuple ts), .d d], ?_, rfl⟩
    simp only [e, DL.e_g1, DL.e_g2, DL.e_g3, DL.e_g4, DL.e_g5, DL.e_g6, DL.e_g7, DL.e_g8, DL.e_w8, DL.e_g9, DL.e_w9, DL.e_g10, DL.e_w10, DL.e_g11, DL.e_w11, DL.e_g12, DL.e_w12, DL.e_o1, DL.e_u1, DL.e_o2, DL.e_u2, DL.e_o3, DL.e_u3, DL.e_o4, DL.e_u4, DL.e_o5, DL.e_u5, DL.e_o6, DL.e_u6, DL.e_o7, DL.e_u7, DL.e_o8, DL.e_u8, DL.e_o9, DL.e_u9, DL.e_o10, DL.e_u10, DL.e_o11, DL.e_u11, DL.e_o12, DL.e_u12, DL.e_o0, DL.e_u0, DL.runP, DL.runN, DL.startD, List.map, List.length, List.replicate, List.append_nil, List.cons_append, List.nil_append, DL.e_bo, DL.e_be, DL.e_bb, DL.e_ao, DL.e_ae, DL.e_no, DL.e_nb, DL.e_cd, DL.e_cn, DL.e_ct, DL.e_co, DL.e_ce, DL.e_op, DL.e_if, DL.e_seq, DL.vOr, DL.vAnd, DL.vNot, DL.vTest, DL.vIsi, DL.vCall, DL.vCons, DL.vNil, DL.vConst, DL.vRet, DL.vNext, DL.vApp, DL.vNeg, DL.vChain, DL.vAndV, DL.vOrV, DL.vNotV, DL.vIf, ite_true, ite_false, if_true, if_false, Nat.reduceAdd, Nat.reduceSub, Nat.reduceEqDiff, reduceIte, Bool.true_and, Bool.and_true, Bool.not_true, Bool.not_false, Bool.false_eq_true, DL.endP, DL.endN, DL.cz2, DL.cz3, DL.cz4, DL.cz5, DL.cz6, DL.cz7, DL.cz8, DL.cz9, Int.natCast_add, Int.natCast_zero, Int.natCast_one, decide_true, decide_false, eq_self, not_true, not_false_eq_true, Bool.not_eq_true, DL.e_len_t, DL.e_len_l, DL.e_eq_ii, DL.e_ne_ii, DL.e_lt_ii, DL.e_le_ii, DL.e_gt_ii, DL.e_ge_ii, DL.e_ix_t0, DL.e_ix_t1, DL.e_ix_t2, DL.e_ix_t3, DL.e_ix_t4, DL.e_gcd, DL.p_none, DL.p_bool, DL.p_int, DL.p_str, DL.p_list, DL.p_tuple, DL.i_int_none, DL.i_int_bool, DL.i_int_int, DL.i_int_str, DL.i_int_list, DL.i_int_tuple, DL.i_bool_none, DL.i_bool_bool, DL.i_bool_int, DL.i_bool_str, DL.i_bool_list, DL.i_bool_tuple, DL.i_str_none, DL.i_str_bool, DL.i_str_int, DL.i_str_str, DL.i_str_list, DL.i_str_tuple, DL.i_tuple_none, DL.i_tuple_bool, DL.i_tuple_int, DL.i_tuple_str, DL.i_tuple_list, DL.i_tuple_tuple, DL.i_list_none, DL.i_list_bool, DL.i_list_int, DL.i_list_str, DL.i_list_list, DL.i_list_tuple, DL.e_v0, DL.e_t0, DL.e_s0_0, DL.e_s0_1, DL.e_s0_2, DL.e_v1, DL.e_t1, DL.e_s1_0, DL.e_s1_1, DL.e_s1_2, DL.e_s1_3, DL.e_v2, DL.e_t2, DL.e_s2_0, DL.e_s2_1, DL.e_s2_2, DL.e_s2_3, DL.e_v3, DL.e_t3, DL.e_s3_0, DL.e_s3_1, DL.e_s3_2, DL.e_s3_3, DL.e_v4, DL.e_t4, DL.e_s4_0, DL.e_s4_1, DL.e_s4_2, DL.e_s4_3, DL.e_v5, DL.e_t5, DL.e_s5_0, DL.e_s5_1, DL.e_s5_2, DL.e_s5_3, DL.e_v6, DL.e_t6, DL.e_s6_0, DL.e_s6_1, DL.e_s6_2, DL.e_s6_3, DL.e_v7, DL.e_t7, DL.e_s7_0, DL.e_s7_1, DL.e_s7_2, DL.e_s7_3]
  have g := gAll_at (fun _ => true) ts
  rw [List.all_eq_true.mpr (fun _ _ => rfl)] at g
  generalize ts.filterMap (fun d => some (PyData.bool ((fun _ => true) d))) = q at c g
  have kk := m_is_kinds h1 h2 h3
  have w := m_whole ans
  have t1 : decide (2 ≤ ans) = true := decide_eq_true (by omega)
  have t2 : decide (ans ≤ 3) = true := decide_eq_true (by omega)
  have t3 : decide (1 ≤ (ts.length : Int)) = true := decide_eq_true (by omega)
  have t4 : decide ((ts.length : Int) ≤ 4) = true := decide_eq_true (by omega)
  refine runP_at (r := .ok (.rt (.bool true), [.d (fT ks ans ts), .d (.tuple ks), .d (.int ans), .d (.tuple ts), .no])) rfl ?_ rfl
  show b_is_forest [.d (fT ks ans ts), .no, .no, .no, .no] = _
  unfold b_is_forest
  refine seq_nx (δ1 := [.d (fT ks ans ts), .no, .no, .no, .no]) (by simp only [len3, DL.e_g1, DL.e_g2, DL.e_g3, DL.e_g4, DL.e_g5, DL.e_g6, DL.e_g7, DL.e_g8, DL.e_w8, DL.e_g9, DL.e_w9, DL.e_g10, DL.e_w10, DL.e_g11, DL.e_w11, DL.e_g12, DL.e_w12, DL.e_o1, DL.e_u1, DL.e_o2, DL.e_u2, DL.e_o3, DL.e_u3, DL.e_o4, DL.e_u4, DL.e_o5, DL.e_u5, DL.e_o6, DL.e_u6, DL.e_o7, DL.e_u7, DL.e_o8, DL.e_u8, DL.e_o9, DL.e_u9, DL.e_o10, DL.e_u10, DL.e_o11, DL.e_u11, DL.e_o12, DL.e_u12, DL.e_o0, DL.e_u0, DL.runP, DL.runN, DL.startD, List.map, List.length, List.replicate, List.append_nil, List.cons_append, List.nil_append, DL.e_bo, DL.e_be, DL.e_bb, DL.e_ao, DL.e_ae, DL.e_no, DL.e_nb, DL.e_cd, DL.e_cn, DL.e_ct, DL.e_co, DL.e_ce, DL.e_op, DL.e_if, DL.e_seq, DL.vOr, DL.vAnd, DL.vNot, DL.vTest, DL.vIsi, DL.vCall, DL.vCons, DL.vNil, DL.vConst, DL.vRet, DL.vNext, DL.vApp, DL.vNeg, DL.vChain, DL.vAndV, DL.vOrV, DL.vNotV, DL.vIf, ite_true, ite_false, if_true, if_false, Nat.reduceAdd, Nat.reduceSub, Nat.reduceEqDiff, reduceIte, Bool.true_and, Bool.and_true, Bool.not_true, Bool.not_false, Bool.false_eq_true, DL.endP, DL.endN, DL.cz2, DL.cz3, DL.cz4, DL.cz5, DL.cz6, DL.cz7, DL.cz8, DL.cz9, Int.natCast_add, Int.natCast_zero, Int.natCast_one, decide_true, decide_false, eq_self, not_true, not_false_eq_true, Bool.not_eq_true, DL.e_len_t, DL.e_len_l, DL.e_eq_ii, DL.e_ne_ii, DL.e_lt_ii, DL.e_le_ii, DL.e_gt_ii, DL.e_ge_ii, DL.e_ix_t0, DL.e_ix_t1, DL.e_ix_t2, DL.e_ix_t3, DL.e_ix_t4, DL.e_gcd, DL.p_none, DL.p_bool, DL.p_int, DL.p_str, DL.p_list, DL.p_tuple, DL.i_int_none, DL.i_int_bool, DL.i_int_int, DL.i_int_str, DL.i_int_list, DL.i_int_tuple, DL.i_bool_none, DL.i_bool_bool, DL.i_bool_int, DL.i_bool_str, DL.i_bool_list, DL.i_bool_tuple, DL.i_str_none, DL.i_str_bool, DL.i_str_int, DL.i_str_str, DL.i_str_list, DL.i_str_tuple, DL.i_tuple_none, DL.i_tuple_bool, DL.i_tuple_int, DL.i_tuple_str, DL.i_tuple_list, DL.i_tuple_tuple, DL.i_list_none, DL.i_list_bool, DL.i_list_int, DL.i_list_str, DL.i_list_list, DL.i_list_tuple, DL.e_v0, DL.e_t0, DL.e_s0_0, DL.e_s0_1, DL.e_s0_2, DL.e_v1, DL.e_t1, DL.e_s1_0, DL.e_s1_1, DL.e_s1_2, DL.e_s1_3, DL.e_v2, DL.e_t2, DL.e_s2_0, DL.e_s2_1, DL.e_s2_2, DL.e_s2_3, DL.e_v3, DL.e_t3, DL.e_s3_0, DL.e_s3_1, DL.e_s3_2, DL.e_s3_3, DL.e_v4, DL.e_t4, DL.e_s4_0, DL.e_s4_1, DL.e_s4_2, DL.e_s4_3, DL.e_v5, DL.e_t5, DL.e_s5_0, DL.e_s5_1, DL.e_s5_2, DL.e_s5_3, DL.e_v6, DL.e_t6, DL.e_s6_0, DL.e_s6_1, DL.e_s6_2, DL.e_s6_3, DL.e_v7, DL.e_t7, DL.e_s7_0, DL.e_s7_1, DL.e_s7_2, DL.e_s7_3]) (seq_nx (δ1 := [.d (fT ks ans ts), .d (.tuple ks), .d (.int ans), .d (.tuple ts), .no]) ?_ (seq_nx (δ1 := [.d (fT ks ans ts), .d (.tuple ks), .d (.int ans), .d (.tuple ts), .no]) (by simp only [kk, w, DL.e_g1, DL.e_g2, DL.e_g3, DL.e_g4, DL.e_g5, DL.e_g6, DL.e_g7, DL.e_g8, DL.e_w8, DL.e_g9, DL.e_w9, DL.e_g10, DL.e_w10, DL.e_g11, DL.e_w11, DL.e_g12, DL.e_w12, DL.e_o1, DL.e_u1, DL.e_o2, DL.e_u2, DL.e_o3, DL.e_u3, DL.e_o4, DL.e_u4, DL.e_o5, DL.e_u5, DL.e_o6, DL.e_u6, DL.e_o7, DL.e_u7, DL.e_o8, DL.e_u8, DL.e_o9, DL.e_u9, DL.e_o10, DL.e_u10, DL.e_o11, DL.e_u11, DL.e_o12, DL.e_u12, DL.e_o0, DL.e_u0, DL.runP, DL.runN, DL.startD, List.map, List.length, List.replicate, List.append_nil, List.cons_append, List.nil_append, DL.e_bo, DL.e_be, DL.e_bb, DL.e_ao, DL.e_ae, DL.e_no, DL.e_nb, DL.e_cd, DL.e_cn, DL.e_ct, DL.e_co, DL.e_ce, DL.e_op, DL.e_if, DL.e_seq, DL.vOr, DL.vAnd, DL.vNot, DL.vTest, DL.vIsi, DL.vCall, DL.vCons, DL.vNil, DL.vConst, DL.vRet, DL.vNext, DL.vApp, DL.vNeg, DL.vChain, DL.vAndV, DL.vOrV, DL.vNotV, DL.vIf, ite_true, ite_false, if_true, if_false, Nat.reduceAdd, Nat.reduceSub, Nat.reduceEqDiff, reduceIte, Bool.true_and, Bool.and_true, Bool.not_true, Bool.not_false, Bool.false_eq_true, DL.endP, DL.endN, DL.cz2, DL.cz3, DL.cz4, DL.cz5, DL.cz6, DL.cz7, DL.cz8, DL.cz9, Int.natCast_add, Int.natCast_zero, Int.natCast_one, decide_true, decide_false, eq_self, not_true, not_false_eq_true, Bool.not_eq_true, DL.e_len_t, DL.e_len_l, DL.e_eq_ii, DL.e_ne_ii, DL.e_lt_ii, DL.e_le_ii, DL.e_gt_ii, DL.e_ge_ii, DL.e_ix_t0, DL.e_ix_t1, DL.e_ix_t2, DL.e_ix_t3, DL.e_ix_t4, DL.e_gcd, DL.p_none, DL.p_bool, DL.p_int, DL.p_str, DL.p_list, DL.p_tuple, DL.i_int_none, DL.i_int_bool, DL.i_int_int, DL.i_int_str, DL.i_int_list, DL.i_int_tuple, DL.i_bool_none, DL.i_bool_bool, DL.i_bool_int, DL.i_bool_str, DL.i_bool_list, DL.i_bool_tuple, DL.i_str_none, DL.i_str_bool, DL.i_str_int, DL.i_str_str, DL.i_str_list, DL.i_str_tuple, DL.i_tuple_none, DL.i_tuple_bool, DL.i_tuple_int, DL.i_tuple_str, DL.i_tuple_list, DL.i_tuple_tuple, DL.i_list_none, DL.i_list_bool, DL.i_list_int, DL.i_list_str, DL.i_list_list, DL.i_list_tuple, DL.e_v0, DL.e_t0, DL.e_s0_0, DL.e_s0_1, DL.e_s0_2, DL.e_v1, DL.e_t1, DL.e_s1_0, DL.e_s1_1, DL.e_s1_2, DL.e_s1_3, DL.e_v2, DL.e_t2, DL.e_s2_0, DL.e_s2_1, DL.e_s2_2, DL.e_s2_3, DL.e_v3, DL.e_t3, DL.e_s3_0, DL.e_s3_1, DL.e_s3_2, DL.e_s3_3, DL.e_v4, DL.e_t4, DL.e_s4_0, DL.e_s4_1, DL.e_s4_2, DL.e_s4_3, DL.e_v5, DL.e_t5, DL.e_s5_0, DL.e_s5_1, DL.e_s5_2, DL.e_s5_3, DL.e_v6, DL.e_t6, DL.e_s6_0, DL.e_s6_1, DL.e_s6_2, DL.e_s6_3, DL.e_v7, DL.e_t7, DL.e_s7_0, DL.e_s7_1, DL.e_s7_2, DL.e_s7_3]) (seq_nx (δ1 := [.d (fT ks ans ts), .d (.tuple ks), .d (.int ans), .d (.tuple ts), .no]) (by simp only [t1, t2, DL.e_g1, DL.e_g2, DL.e_g3, DL.e_g4, DL.e_g5, DL.e_g6, DL.e_g7, DL.e_g8, DL.e_w8, DL.e_g9, DL.e_w9, DL.e_g10, DL.e_w10, DL.e_g11, DL.e_w11, DL.e_g12, DL.e_w12, DL.e_o1, DL.e_u1, DL.e_o2, DL.e_u2, DL.e_o3, DL.e_u3, DL.e_o4, DL.e_u4, DL.e_o5, DL.e_u5, DL.e_o6, DL.e_u6, DL.e_o7, DL.e_u7, DL.e_o8, DL.e_u8, DL.e_o9, DL.e_u9, DL.e_o10, DL.e_u10, DL.e_o11, DL.e_u11, DL.e_o12, DL.e_u12, DL.e_o0, DL.e_u0, DL.runP, DL.runN, DL.startD, List.map, List.length, List.replicate, List.append_nil, List.cons_append, List.nil_append, DL.e_bo, DL.e_be, DL.e_bb, DL.e_ao, DL.e_ae, DL.e_no, DL.e_nb, DL.e_cd, DL.e_cn, DL.e_ct, DL.e_co, DL.e_ce, DL.e_op, DL.e_if, DL.e_seq, DL.vOr, DL.vAnd, DL.vNot, DL.vTest, DL.vIsi, DL.vCall, DL.vCons, DL.vNil, DL.vConst, DL.vRet, DL.vNext, DL.vApp, DL.vNeg, DL.vChain, DL.vAndV, DL.vOrV, DL.vNotV, DL.vIf, ite_true, ite_false, if_true, if_false, Nat.reduceAdd, Nat.reduceSub, Nat.reduceEqDiff, reduceIte, Bool.true_and, Bool.and_true, Bool.not_true, Bool.not_false, Bool.false_eq_true, DL.endP, DL.endN, DL.cz2, DL.cz3, DL.cz4, DL.cz5, DL.cz6, DL.cz7, DL.cz8, DL.cz9, Int.natCast_add, Int.natCast_zero, Int.natCast_one, decide_true, decide_false, eq_self, not_true, not_false_eq_true, Bool.not_eq_true, DL.e_len_t, DL.e_len_l, DL.e_eq_ii, DL.e_ne_ii, DL.e_lt_ii, DL.e_le_ii, DL.e_gt_ii, DL.e_ge_ii, DL.e_ix_t0, DL.e_ix_t1, DL.e_ix_t2, DL.e_ix_t3, DL.e_ix_t4, DL.e_gcd, DL.p_none, DL.p_bool, DL.p_int, DL.p_str, DL.p_list, DL.p_tuple, DL.i_int_none, DL.i_int_bool, DL.i_int_int, DL.i_int_str, DL.i_int_list, DL.i_int_tuple, DL.i_bool_none, DL.i_bool_bool, DL.i_bool_int, DL.i_bool_str, DL.i_bool_list, DL.i_bool_tuple, DL.i_str_none, DL.i_str_bool, DL.i_str_int, DL.i_str_str, DL.i_str_list, DL.i_str_tuple, DL.i_tuple_none, DL.i_tuple_bool, DL.i_tuple_int, DL.i_tuple_str, DL.i_tuple_list, DL.i_tuple_tuple, DL.i_list_none, DL.i_list_bool, DL.i_list_int, DL.i_list_str, DL.i_list_list, DL.i_list_tuple, DL.e_v0, DL.e_t0, DL.e_s0_0, DL.e_s0_1, DL.e_s0_2, DL.e_v1, DL.e_t1, DL.e_s1_0, DL.e_s1_1, DL.e_s1_2, DL.e_s1_3, DL.e_v2, DL.e_t2, DL.e_s2_0, DL.e_s2_1, DL.e_s2_2, DL.e_s2_3, DL.e_v3, DL.e_t3, DL.e_s3_0, DL.e_s3_1, DL.e_s3_2, DL.e_s3_3, DL.e_v4, DL.e_t4, DL.e_s4_0, DL.e_s4_1, DL.e_s4_2, DL.e_s4_3, DL.e_v5, DL.e_t5, DL.e_s5_0, DL.e_s5_1, DL.e_s5_2, DL.e_s5_3, DL.e_v6, DL.e_t6, DL.e_s6_0, DL.e_s6_1, DL.e_s6_2, DL.e_s6_3, DL.e_v7, DL.e_t7, DL.e_s7_0, DL.e_s7_1, DL.e_s7_2, DL.e_s7_3]) (seq_nx (δ1 := [.d (fT ks ans ts), .d (.tuple ks), .d (.int ans), .d (.tuple ts), .no]) (by simp only [t3, t4, DL.e_g1, DL.e_g2, DL.e_g3, DL.e_g4, DL.e_g5, DL.e_g6, DL.e_g7, DL.e_g8, DL.e_w8, DL.e_g9, DL.e_w9, DL.e_g10, DL.e_w10, DL.e_g11, DL.e_w11, DL.e_g12, DL.e_w12, DL.e_o1, DL.e_u1, DL.e_o2, DL.e_u2, DL.e_o3, DL.e_u3, DL.e_o4, DL.e_u4, DL.e_o5, DL.e_u5, DL.e_o6, DL.e_u6, DL.e_o7, DL.e_u7, DL.e_o8, DL.e_u8, DL.e_o9, DL.e_u9, DL.e_o10, DL.e_u10, DL.e_o11, DL.e_u11, DL.e_o12, DL.e_u12, DL.e_o0, DL.e_u0, DL.runP, DL.runN, DL.startD, List.map, List.length, List.replicate, List.append_nil, List.cons_append, List.nil_append, DL.e_bo, DL.e_be, DL.e_bb, DL.e_ao, DL.e_ae, DL.e_no, DL.e_nb, DL.e_cd, DL.e_cn, DL.e_ct, DL.e_co, DL.e_ce, DL.e_op, DL.e_if, DL.e_seq, DL.vOr, DL.vAnd, DL.vNot, DL.vTest, DL.vIsi, DL.vCall, DL.vCons, DL.vNil, DL.vConst, DL.vRet, DL.vNext, DL.vApp, DL.vNeg, DL.vChain, DL.vAndV, DL.vOrV, DL.vNotV, DL.vIf, ite_true, ite_false, if_true, if_false, Nat.reduceAdd, Nat.reduceSub, Nat.reduceEqDiff, reduceIte, Bool.true_and, Bool.and_true, Bool.not_true, Bool.not_false, Bool.false_eq_true, DL.endP, DL.endN, DL.cz2, DL.cz3, DL.cz4, DL.cz5, DL.cz6, DL.cz7, DL.cz8, DL.cz9, Int.natCast_add, Int.natCast_zero, Int.natCast_one, decide_true, decide_false, eq_self, not_true, not_false_eq_true, Bool.not_eq_true, DL.e_len_t, DL.e_len_l, DL.e_eq_ii, DL.e_ne_ii, DL.e_lt_ii, DL.e_le_ii, DL.e_gt_ii, DL.e_ge_ii, DL.e_ix_t0, DL.e_ix_t1, DL.e_ix_t2, DL.e_ix_t3, DL.e_ix_t4, DL.e_gcd, DL.p_none, DL.p_bool, DL.p_int, DL.p_str, DL.p_list, DL.p_tuple, DL.i_int_none, DL.i_int_bool, DL.i_int_int, DL.i_int_str, DL.i_int_list, DL.i_int_tuple, DL.i_bool_none, DL.i_bool_bool, DL.i_bool_int, DL.i_bool_str, DL.i_bool_list, DL.i_bool_tuple, DL.i_str_none, DL.i_str_bool, DL.i_str_int, DL.i_str_str, DL.i_str_list, DL.i_str_tuple, DL.i_tuple_none, DL.i_tuple_bool, DL.i_tuple_int, DL.i_tuple_str, DL.i_tuple_list, DL.i_tuple_tuple, DL.i_list_none, DL.i_list_bool, DL.i_list_int, DL.i_list_str, DL.i_list_list, DL.i_list_tuple, DL.e_v0, DL.e_t0, DL.e_s0_0, DL.e_s0_1, DL.e_s0_2, DL.e_v1, DL.e_t1, DL.e_s1_0, DL.e_s1_1, DL.e_s1_2, DL.e_s1_3, DL.e_v2, DL.e_t2, DL.e_s2_0, DL.e_s2_1, DL.e_s2_2, DL.e_s2_3, DL.e_v3, DL.e_t3, DL.e_s3_0, DL.e_s3_1, DL.e_s3_2, DL.e_s3_3, DL.e_v4, DL.e_t4, DL.e_s4_0, DL.e_s4_1, DL.e_s4_2, DL.e_s4_3, DL.e_v5, DL.e_t5, DL.e_s5_0, DL.e_s5_1, DL.e_s5_2, DL.e_s5_3, DL.e_v6, DL.e_t6, DL.e_s6_0, DL.e_s6_1, DL.e_s6_2, DL.e_s6_3, DL.e_v7, DL.e_t7, DL.e_s7_0, DL.e_s7_1, DL.e_s7_2, DL.e_s7_3]) ?_))))
  · simp only [vAsg, wTup, wCons, wName, wNil, DL.e_g1, DL.e_g2, DL.e_g3, DL.e_g4, DL.e_g5, DL.e_g6, DL.e_g7, DL.e_g8, DL.e_w8, DL.e_g9, DL.e_w9, DL.e_g10, DL.e_w10, DL.e_g11, DL.e_w11, DL.e_g12, DL.e_w12, DL.e_o1, DL.e_u1, DL.e_o2, DL.e_u2, DL.e_o3, DL.e_u3, DL.e_o4, DL.e_u4, DL.e_o5, DL.e_u5, DL.e_o6, DL.e_u6, DL.e_o7, DL.e_u7, DL.e_o8, DL.e_u8, DL.e_o9, DL.e_u9, DL.e_o10, DL.e_u10, DL.e_o11, DL.e_u11, DL.e_o12, DL.e_u12, DL.e_o0, DL.e_u0, DL.runP, DL.runN, DL.startD, List.map, List.length, List.replicate, List.append_nil, List.cons_append, List.nil_append, DL.e_bo, DL.e_be, DL.e_bb, DL.e_ao, DL.e_ae, DL.e_no, DL.e_nb, DL.e_cd, DL.e_cn, DL.e_ct, DL.e_co, DL.e_ce, DL.e_op, DL.e_if, DL.e_seq, DL.vOr, DL.vAnd, DL.vNot, DL.vTest, DL.vIsi, DL.vCall, DL.vCons, DL.vNil, DL.vConst, DL.vRet, DL.vNext, DL.vApp, DL.vNeg, DL.vChain, DL.vAndV, DL.vOrV, DL.vNotV, DL.vIf, ite_true, ite_false, if_true, if_false, Nat.reduceAdd, Nat.reduceSub, Nat.reduceEqDiff, reduceIte, Bool.true_and, Bool.and_true, Bool.not_true, Bool.not_false, Bool.false_eq_true, DL.endP, DL.endN, DL.cz2, DL.cz3, DL.cz4, DL.cz5, DL.cz6, DL.cz7, DL.cz8, DL.cz9, Int.natCast_add, Int.natCast_zero, Int.natCast_one, decide_true, decide_false, eq_self, not_true, not_false_eq_true, Bool.not_eq_true, DL.e_len_t, DL.e_len_l, DL.e_eq_ii, DL.e_ne_ii, DL.e_lt_ii, DL.e_le_ii, DL.e_gt_ii, DL.e_ge_ii, DL.e_ix_t0, DL.e_ix_t1, DL.e_ix_t2, DL.e_ix_t3, DL.e_ix_t4, DL.e_gcd, DL.p_none, DL.p_bool, DL.p_int, DL.p_str, DL.p_list, DL.p_tuple, DL.i_int_none, DL.i_int_bool, DL.i_int_int, DL.i_int_str, DL.i_int_list, DL.i_int_tuple, DL.i_bool_none, DL.i_bool_bool, DL.i_bool_int, DL.i_bool_str, DL.i_bool_list, DL.i_bool_tuple, DL.i_str_none, DL.i_str_bool, DL.i_str_int, DL.i_str_str, DL.i_str_list, DL.i_str_tuple, DL.i_tuple_none, DL.i_tuple_bool, DL.i_tuple_int, DL.i_tuple_str, DL.i_tuple_list, DL.i_tuple_tuple, DL.i_list_none, DL.i_list_bool, DL.i_list_int, DL.i_list_str, DL.i_list_list, DL.i_list_tuple, DL.e_v0, DL.e_t0, DL.e_s0_0, DL.e_s0_1, DL.e_s0_2, DL.e_v1, DL.e_t1, DL.e_s1_0, DL.e_s1_1, DL.e_s1_2, DL.e_s1_3, DL.e_v2, DL.e_t2, DL.e_s2_0, DL.e_s2_1, DL.e_s2_2, DL.e_s2_3, DL.e_v3, DL.e_t3, DL.e_s3_0, DL.e_s3_1, DL.e_s3_2, DL.e_s3_3, DL.e_v4, DL.e_t4, DL.e_s4_0, DL.e_s4_1, DL.e_s4_2, DL.e_s4_3, DL.e_v5, DL.e_t5, DL.e_s5_0, DL.e_s5_1, DL.e_s5_2, DL.e_s5_3, DL.e_v6, DL.e_t6, DL.e_s6_0, DL.e_s6_1, DL.e_s6_2, DL.e_s6_3, DL.e_v7, DL.e_t7, DL.e_s7_0, DL.e_s7_1, DL.e_s7_2, DL.e_s7_3]
  · simp only [c, g, DL.e_g1, DL.e_g2, DL.e_g3, DL.e_g4, DL.e_g5, DL.e_g6, DL.e_g7, DL.e_g8, DL.e_w8, DL.e_g9, DL.e_w9, DL.e_g10, DL.e_w10, DL.e_g11, DL.e_w11, DL.e_g12, DL.e_w12, DL.e_o1, DL.e_u1, DL.e_o2, DL.e_u2, DL.e_o3, DL.e_u3, DL.e_o4, DL.e_u4, DL.e_o5, DL.e_u5, DL.e_o6, DL.e_u6, DL.e_o7, DL.e_u7, DL.e_o8, DL.e_u8, DL.e_o9, DL.e_u9, DL.e_o10, DL.e_u10, DL.e_o11, DL.e_u11, DL.e_o12, DL.e_u12, DL.e_o0, DL.e_u0, DL.runP, DL.runN, DL.startD, List.map, List.length, List.replicate, List.append_nil, List.cons_append, List.nil_append, DL.e_bo, DL.e_be, DL.e_bb, DL.e_ao, DL.e_ae, DL.e_no, DL.e_nb, DL.e_cd, DL.e_cn, DL.e_ct, DL.e_co, DL.e_ce, DL.e_op, DL.e_if, DL.e_seq, DL.vOr, DL.vAnd, DL.vNot, DL.vTest, DL.vIsi, DL.vCall, DL.vCons, DL.vNil, DL.vConst, DL.vRet, DL.vNext, DL.vApp, DL.vNeg, DL.vChain, DL.vAndV, DL.vOrV, DL.vNotV, DL.vIf, ite_true, ite_false, if_true, if_false, Nat.reduceAdd, Nat.reduceSub, Nat.reduceEqDiff, reduceIte, Bool.true_and, Bool.and_true, Bool.not_true, Bool.not_false, Bool.false_eq_true, DL.endP, DL.endN, DL.cz2, DL.cz3, DL.cz4, DL.cz5, DL.cz6, DL.cz7, DL.cz8, DL.cz9, Int.natCast_add, Int.natCast_zero, Int.natCast_one, decide_true, decide_false, eq_self, not_true, not_false_eq_true, Bool.not_eq_true, DL.e_len_t, DL.e_len_l, DL.e_eq_ii, DL.e_ne_ii, DL.e_lt_ii, DL.e_le_ii, DL.e_gt_ii, DL.e_ge_ii, DL.e_ix_t0, DL.e_ix_t1, DL.e_ix_t2, DL.e_ix_t3, DL.e_ix_t4, DL.e_gcd, DL.p_none, DL.p_bool, DL.p_int, DL.p_str, DL.p_list, DL.p_tuple, DL.i_int_none, DL.i_int_bool, DL.i_int_int, DL.i_int_str, DL.i_int_list, DL.i_int_tuple, DL.i_bool_none, DL.i_bool_bool, DL.i_bool_int, DL.i_bool_str, DL.i_bool_list, DL.i_bool_tuple, DL.i_str_none, DL.i_str_bool, DL.i_str_int, DL.i_str_str, DL.i_str_list, DL.i_str_tuple, DL.i_tuple_none, DL.i_tuple_bool, DL.i_tuple_int, DL.i_tuple_str, DL.i_tuple_list, DL.i_tuple_tuple, DL.i_list_none, DL.i_list_bool, DL.i_list_int, DL.i_list_str, DL.i_list_list, DL.i_list_tuple, DL.e_v0, DL.e_t0, DL.e_s0_0, DL.e_s0_1, DL.e_s0_2, DL.e_v1, DL.e_t1, DL.e_s1_0, DL.e_s1_1, DL.e_s1_2, DL.e_s1_3, DL.e_v2, DL.e_t2, DL.e_s2_0, DL.e_s2_1, DL.e_s2_2, DL.e_s2_3, DL.e_v3, DL.e_t3, DL.e_s3_0, DL.e_s3_1, DL.e_s3_2, DL.e_s3_3, DL.e_v4, DL.e_t4, DL.e_s4_0, DL.e_s4_1, DL.e_s4_2, DL.e_s4_3, DL.e_v5, DL.e_t5, DL.e_s5_0, DL.e_s5_1, DL.e_s5_2, DL.e_s5_3, DL.e_v6, DL.e_t6, DL.e_s6_0, DL.e_s6_1, DL.e_s6_2, DL.e_s6_3, DL.e_v7, DL.e_t7, DL.e_s7_0, DL.e_s7_1, DL.e_s7_2, DL.e_s7_3]
end Vw
set_option linter.all false
set_option maxRecDepth 100000
set_option maxHeartbeats 1000000
namespace Vw
open PySem PySem.Spec L2 DL
def noB : Res PyData → Bool
  | .ok (.bool false) => true
  | _ => false
theorem noB_eq {r : Res PyData} (h : noB r = true) : r = .ok (.bool false) := by
  unfold noB at h
  split at h
  · rfl
  · cases h
def lfN (n : Nat) : PyData := .tuple [.str "leaf", .tuple (List.replicate n (.int 0))]
def oneT (k : PyData) (n : Nat) (t : PyData) : PyData := .tuple [.tuple [k], .int (n : Int), .tuple [t]]
def bd1 (n : Nat) (ks ts : List PyData) : List PyData := [.none, .int 5, .list [.tuple ks, .int (n : Int), .tuple ts], .tuple [.tuple ks, .int (n : Int)], .tuple [.tuple ks, .int (n : Int), .tuple ts, .int 0], .tuple [.tuple [], .int (n : Int), .tuple ts], .tuple [.list ks, .int (n : Int), .tuple ts]]
def bd2 (n : Nat) : List PyData := [.tuple [.tuple [.str "0", .str "0", .str "0", .str "0"], .int (n : Int), .tuple [lfN n]], oneT (.str "1") n (lfN n), oneT (.str "a") n (lfN n), oneT (.str "ba") n (lfN n), oneT (.str "abcde") n (lfN n), oneT (.str "aa") n (lfN n), oneT (.str "aB") n (lfN n), oneT (.int 0) n (lfN n)]
def bd3 (n : Nat) (ks ts : List PyData) : List PyData := [.tuple [.tuple ks, .int 1, .tuple ts], .tuple [.tuple ks, .int 4, .tuple ts], .tuple [.tuple ks, .bool true, .tuple ts], .tuple [.tuple ks, .int (n : Int), .tuple []], .tuple [.tuple ks, .int (n : Int), .tuple [lfN n, lfN n, lfN n, lfN n, lfN n]], .tuple [.tuple ks, .int (n : Int), .list [lfN n]]]
def bdT (n : Nat) : List PyData := [.tuple [.str "leaf", .tuple (List.replicate (n + 1) (.int 0))], .tuple (List.replicate n (.int 0)), .tuple [.str "leaf", .tuple (List.replicate n (.int 10))], .tuple [.str "leaf", .tuple (List.replicate n (.bool true))], .none]
def tst (w p : PyData) (b : PyData) (n : Nat) : PyData := .tuple [w, p, b, lfN n, lfN n]
def bd4 (n : Nat) : List PyData := [oneT (.str "0") n (tst (.str "below") (.int 0) (.tuple [.int 2, .int 4]) n), oneT (.str "0") n (tst (.str "below") (.int 0) (.tuple [.int 1, .int 5]) n), oneT (.str "0") n (tst (.str "below") (.int 0) (.tuple [.int 100, .int 1]) n), oneT (.str "0") n (tst (.str "below") (.int 1) (.tuple [.int 0, .int 1]) n), oneT (.str "0") n (tst (.str "among") (.int 0) (.str "a") n), oneT (.str "0") n (tst (.str "at") (.int 0) (.tuple [.int 0, .int 1]) n),
  oneT (.str "ab") n (tst (.str "among") (.int 0) (.str "") n), oneT (.str "ab") n (tst (.str "among") (.int 0) (.str "ba") n), oneT (.str "ab") n (tst (.str "among") (.int 0) (.str "c") n), oneT (.str "ab") n (tst (.str "among") (.bool true) (.str "a") n), oneT (.str "ab") n (tst (.str "below") (.int 0) (.tuple [.int 0, .int 1]) n), oneT (.str "ab") n (.tuple [.str "among", .int 0, .str "a", .int 0, lfN n, lfN n])]
def badL (n : Nat) (ks ts : List PyData) : List PyData := bd1 n ks ts ++ bd2 n ++ bd3 n ks ts ++ ((bdT n).map fun t => .tuple [.tuple ks, .int (n : Int), .tuple [t]]) ++ bd4 n
theorem bad_eq2 (ks ts : List PyData) : ph__law_bad_forests [fT ks 2 ts] = .ok (.list (badL 2 ks ts)) := by kernel_rfl
theorem bad_eq3 (ks ts : List PyData) : ph__law_bad_forests [fT ks 3 ts] = .ok (.list (badL 3 ks ts)) := by kernel_rfl
theorem bd2_no : ((bd2 2).all fun b => noB (ph_is_forest [b])) = true ∧ ((bd2 3).all fun b => noB (ph_is_forest [b])) = true := ⟨by kernel_rfl, by kernel_rfl⟩
theorem bd4_no : ((bd4 2).all fun b => noB (ph_is_forest [b])) = true ∧ ((bd4 3).all fun b => noB (ph_is_forest [b])) = true := ⟨by kernel_rfl, by kernel_rfl⟩
theorem bd1_no (ks ts : List PyData) : ((bd1 2 ks ts).all fun b => noB (ph_is_forest [b])) = true ∧ ((bd1 3 ks ts).all fun b => noB (ph_is_forest [b])) = true := ⟨by kernel_rfl, by kernel_rfl⟩
theorem bdT_no (K : PyData) : ((bdT 2).all fun t => noB (ph_is_tree [t, K, .int 2])) = true ∧ ((bdT 3).all fun t => noB (ph_is_tree [t, K, .int 3])) = true := ⟨by kernel_rfl, by kernel_rfl⟩
end Vw
set_option linter.all false
set_option maxRecDepth 100000
set_option maxHeartbeats 1000000
namespace Vw
open PySem PySem.Spec L2 DL
section
variable {K a tr : PyData}
abbrev fS (K a tr : PyData) : DSt := [.d (.tuple [K, a, tr]), .d K, .d a, .d tr, .no]
theorem fst_at (K a tr : PyData) {g : EvS} {r : Res (Flw × DSt)} (h : g (fS K a tr) = r) : (vSeq (vIfS (vOr (vNot (vTest (vIsi "tuple" (vVar 0)))) (vTest (vOp gNe (vCall gLen (vCons (vVar 0) vNil)) (vConst (.int 3))))) (vRet (vConst (.bool false))) vNext) (vSeq (vAsg (vVar 0) (wTup 3 (wCons (wName 1) (wCons (wName 2) (wCons (wName 3) wNil))))) g)) [.d (.tuple [K, a, tr]), .no, .no, .no, .no] = r := by
  refine seq_nx (δ1 := [.d (.tuple [K, a, tr]), .no, .no, .no, .no]) (by simp only [len3, DL.e_g1, DL.e_g2, DL.e_g3, DL.e_g4, DL.e_g5, DL.e_g6, DL.e_g7, DL.e_g8, DL.e_w8, DL.e_g9, DL.e_w9, DL.e_g10, DL.e_w10, DL.e_g11, DL.e_w11, DL.e_g12, DL.e_w12, DL.e_o1, DL.e_u1, DL.e_o2, DL.e_u2, DL.e_o3, DL.e_u3, DL.e_o4, DL.e_u4, DL.e_o5, DL.e_u5, DL.e_o6, DL.e_u6, DL.e_o7, DL.e_u7, DL.e_o8, DL.e_u8, DL.e_o9, DL.e_u9, DL.e_o10, DL.e_u10, DL.e_o11, DL.e_u11, DL.e_o12, DL.e_u12, DL.e_o0, DL.e_u0, DL.runP, DL.runN, DL.startD, List.map, List.length, List.replicate, List.append_nil, List.cons_append, List.nil_append, DL.e_bo, DL.e_be, DL.e_bb, DL.e_ao, DL.e_ae, DL.e_no, DL.e_nb, DL.e_cd, DL.e_cn, DL.e_ct, DL.e_co, DL.e_ce, DL.e_op, DL.e_if, DL.e_seq, DL.vOr, DL.vAnd, DL.vNot, DL.vTest, DL.vIsi, DL.vCall, DL.vCons, DL.vNil, DL.vConst, DL.vRet, DL.vNext, DL.vApp, DL.vNeg, DL.vChain, DL.vAndV, DL.vOrV, DL.vNotV, DL.vIf, ite_true, ite_false, if_true, if_false, Nat.reduceAdd, Nat.reduceSub, Nat.reduceEqDiff, reduceIte, Bool.true_and, Bool.and_true, Bool.not_true, Bool.not_false, Bool.false_eq_true, DL.endP, DL.endN, DL.cz2, DL.cz3, DL.cz4, DL.cz5, DL.cz6, DL.cz7, DL.cz8, DL.cz9, Int.natCast_add, Int.natCast_zero, Int.natCast_one, decide_true, decide_false, eq_self, not_true, not_false_eq_true, Bool.not_eq_true, DL.e_len_t, DL.e_len_l, DL.e_eq_ii, DL.e_ne_ii, DL.e_lt_ii, DL.e_le_ii, DL.e_gt_ii, DL.e_ge_ii, DL.e_ix_t0, DL.e_ix_t1, DL.e_ix_t2, DL.e_ix_t3, DL.e_ix_t4, DL.e_gcd, DL.p_none, DL.p_bool, DL.p_int, DL.p_str, DL.p_list, DL.p_tuple, DL.i_int_none, DL.i_int_bool, DL.i_int_int, DL.i_int_str, DL.i_int_list, DL.i_int_tuple, DL.i_bool_none, DL.i_bool_bool, DL.i_bool_int, DL.i_bool_str, DL.i_bool_list, DL.i_bool_tuple, DL.i_str_none, DL.i_str_bool, DL.i_str_int, DL.i_str_str, DL.i_str_list, DL.i_str_tuple, DL.i_tuple_none, DL.i_tuple_bool, DL.i_tuple_int, DL.i_tuple_str, DL.i_tuple_list, DL.i_tuple_tuple, DL.i_list_none, DL.i_list_bool, DL.i_list_int, DL.i_list_str, DL.i_list_list, DL.i_list_tuple, DL.e_v0, DL.e_t0, DL.e_s0_0, DL.e_s0_1, DL.e_s0_2, DL.e_v1, DL.e_t1, DL.e_s1_0, DL.e_s1_1, DL.e_s1_2, DL.e_s1_3, DL.e_v2, DL.e_t2, DL.e_s2_0, DL.e_s2_1, DL.e_s2_2, DL.e_s2_3, DL.e_v3, DL.e_t3, DL.e_s3_0, DL.e_s3_1, DL.e_s3_2, DL.e_s3_3, DL.e_v4, DL.e_t4, DL.e_s4_0, DL.e_s4_1, DL.e_s4_2, DL.e_s4_3, DL.e_v5, DL.e_t5, DL.e_s5_0, DL.e_s5_1, DL.e_s5_2, DL.e_s5_3, DL.e_v6, DL.e_t6, DL.e_s6_0, DL.e_s6_1, DL.e_s6_2, DL.e_s6_3, DL.e_v7, DL.e_t7, DL.e_s7_0, DL.e_s7_1, DL.e_s7_2, DL.e_s7_3]) (seq_nx (δ1 := fS K a tr) ?_ h)
  simp only [vAsg, wTup, wCons, wName, wNil, DL.e_g1, DL.e_g2, DL.e_g3, DL.e_g4, DL.e_g5, DL.e_g6, DL.e_g7, DL.e_g8, DL.e_w8, DL.e_g9, DL.e_w9, DL.e_g10, DL.e_w10, DL.e_g11, DL.e_w11, DL.e_g12, DL.e_w12, DL.e_o1, DL.e_u1, DL.e_o2, DL.e_u2, DL.e_o3, DL.e_u3, DL.e_o4, DL.e_u4, DL.e_o5, DL.e_u5, DL.e_o6, DL.e_u6, DL.e_o7, DL.e_u7, DL.e_o8, DL.e_u8, DL.e_o9, DL.e_u9, DL.e_o10, DL.e_u10, DL.e_o11, DL.e_u11, DL.e_o12, DL.e_u12, DL.e_o0, DL.e_u0, DL.runP, DL.runN, DL.startD, List.map, List.length, List.replicate, List.append_nil, List.cons_append, List.nil_append, DL.e_bo, DL.e_be, DL.e_bb, DL.e_ao, DL.e_ae, DL.e_no, DL.e_nb, DL.e_cd, DL.e_cn, DL.e_ct, DL.e_co, DL.e_ce, DL.e_op, DL.e_if, DL.e_seq, DL.vOr, DL.vAnd, DL.vNot, DL.vTest, DL.vIsi, DL.vCall, DL.vCons, DL.vNil, DL.vConst, DL.vRet, DL.vNext, DL.vApp, DL.vNeg, DL.vChain, DL.vAndV, DL.vOrV, DL.vNotV, DL.vIf, ite_true, ite_false, if_true, if_false, Nat.reduceAdd, Nat.reduceSub, Nat.reduceEqDiff, reduceIte, Bool.true_and, Bool.and_true, Bool.not_true, Bool.not_false, Bool.false_eq_true, DL.endP, DL.endN, DL.cz2, DL.cz3, DL.cz4, DL.cz5, DL.cz6, DL.cz7, DL.cz8, DL.cz9, Int.natCast_add, Int.natCast_zero, Int.natCast_one, decide_true, decide_false, eq_self, not_true, not_false_eq_true, Bool.not_eq_true, DL.e_len_t, DL.e_len_l, DL.e_eq_ii, DL.e_ne_ii, DL.e_lt_ii, DL.e_le_ii, DL.e_gt_ii, DL.e_ge_ii, DL.e_ix_t0, DL.e_ix_t1, DL.e_ix_t2, DL.e_ix_t3, DL.e_ix_t4, DL.e_gcd, DL.p_none, DL.p_bool, DL.p_int, DL.p_str, DL.p_list, DL.p_tuple, DL.i_int_none, DL.i_int_bool, DL.i_int_int, DL.i_int_str, DL.i_int_list, DL.i_int_tuple, DL.i_bool_none, DL.i_bool_bool, DL.i_bool_int, DL.i_bool_str, DL.i_bool_list, DL.i_bool_tuple, DL.i_str_none, DL.i_str_bool, DL.i_str_int, DL.i_str_str, DL.i_str_list, DL.i_str_tuple, DL.i_tuple_none, DL.i_tuple_bool, DL.i_tuple_int, DL.i_tuple_str, DL.i_tuple_list, DL.i_tuple_tuple, DL.i_list_none, DL.i_list_bool, DL.i_list_int, DL.i_list_str, DL.i_list_list, DL.i_list_tuple, DL.e_v0, DL.e_t0, DL.e_s0_0, DL.e_s0_1, DL.e_s0_2, DL.e_v1, DL.e_t1, DL.e_s1_0, DL.e_s1_1, DL.e_s1_2, DL.e_s1_3, DL.e_v2, DL.e_t2, DL.e_s2_0, DL.e_s2_1, DL.e_s2_2, DL.e_s2_3, DL.e_v3, DL.e_t3, DL.e_s3_0, DL.e_s3_1, DL.e_s3_2, DL.e_s3_3, DL.e_v4, DL.e_t4, DL.e_s4_0, DL.e_s4_1, DL.e_s4_2, DL.e_s4_3, DL.e_v5, DL.e_t5, DL.e_s5_0, DL.e_s5_1, DL.e_s5_2, DL.e_s5_3, DL.e_v6, DL.e_t6, DL.e_s6_0, DL.e_s6_1, DL.e_s6_2, DL.e_s6_3, DL.e_v7, DL.e_t7, DL.e_s7_0, DL.e_s7_1, DL.e_s7_2, DL.e_s7_3]
theorem forest_no {K a tr : PyData} {δ : DSt} (h : (vSeq (vIfS (vOr (vNot (vTest (vApp ph_is_kinds (vCons (vVar 1) vNil)))) (vNot (vTest (vApp ph_is_whole (vCons (vVar 2) vNil))))) (vRet (vConst (.bool false))) vNext) (vSeq (vIfS (vNot (vTest (vChain gLe gLe (vConst (.int 2)) (vVar 2) (vConst (.int 3))))) (vRet (vConst (.bool false))) vNext) (vSeq (vIfS (vOr (vNot (vTest (vIsi "tuple" (vVar 3)))) (vNot (vTest (vChain gLe gLe (vConst (.int 1)) (vCall gLen (vCons (vVar 3) vNil)) (vConst (.int 4)))))) (vRet (vConst (.bool false))) vNext) (vRet (vCall gAll (vCons (vComp (vItems (vVar 3)) (wName 4) vTrue (vApp ph_is_tree (vCons (vVar 4) (vCons (vVar 1) (vCons (vVar 2) vNil)))) [4]) vNil)))))) (fS K a tr) = .ok (.rt (.bool false), δ)) : ph_is_forest [.tuple [K, a, tr]] = .ok (.bool false) :=
  runP_at (r := .ok (.rt (.bool false), δ)) rfl (fst_at K a tr h) rfl
theorem no_whole (hk : ph_is_kinds [K] = .ok (.bool true)) : ph_is_forest [.tuple [K, .bool true, tr]] = .ok (.bool false) := by
  have w : ph_is_whole [.bool true] = .ok (.bool false) := by kernel_rfl
  refine forest_no (δ := fS K (.bool true) tr) (seq_rt ?_)
  simp only [hk, w, DL.e_g1, DL.e_g2, DL.e_g3, DL.e_g4, DL.e_g5, DL.e_g6, DL.e_g7, DL.e_g8, DL.e_w8, DL.e_g9, DL.e_w9, DL.e_g10, DL.e_w10, DL.e_g11, DL.e_w11, DL.e_g12, DL.e_w12, DL.e_o1, DL.e_u1, DL.e_o2, DL.e_u2, DL.e_o3, DL.e_u3, DL.e_o4, DL.e_u4, DL.e_o5, DL.e_u5, DL.e_o6, DL.e_u6, DL.e_o7, DL.e_u7, DL.e_o8, DL.e_u8, DL.e_o9, DL.e_u9, DL.e_o10, DL.e_u10, DL.e_o11, DL.e_u11, DL.e_o12, DL.e_u12, DL.e_o0, DL.e_u0, DL.runP, DL.runN, DL.startD, List.map, List.length, List.replicate, List.append_nil, List.cons_append, List.nil_append, DL.e_bo, DL.e_be, DL.e_bb, DL.e_ao, DL.e_ae, DL.e_no, DL.e_nb, DL.e_cd, DL.e_cn, DL.e_ct, DL.e_co, DL.e_ce, DL.e_op, DL.e_if, DL.e_seq, DL.vOr, DL.vAnd, DL.vNot, DL.vTest, DL.vIsi, DL.vCall, DL.vCons, DL.vNil, DL.vConst, DL.vRet, DL.vNext, DL.vApp, DL.vNeg, DL.vChain, DL.vAndV, DL.vOrV, DL.vNotV, DL.vIf, ite_true, ite_false, if_true, if_false, Nat.reduceAdd, Nat.reduceSub, Nat.reduceEqDiff, reduceIte, Bool.true_and, Bool.and_true, Bool.not_true, Bool.not_false, Bool.false_eq_true, DL.endP, DL.endN, DL.cz2, DL.cz3, DL.cz4, DL.cz5, DL.cz6, DL.cz7, DL.cz8, DL.cz9, Int.natCast_add, Int.natCast_zero, Int.natCast_one, decide_true, decide_false, eq_self, not_true, not_false_eq_true, Bool.not_eq_true, DL.e_len_t, DL.e_len_l, DL.e_eq_ii, DL.e_ne_ii, DL.e_lt_ii, DL.e_le_ii, DL.e_gt_ii, DL.e_ge_ii, DL.e_ix_t0, DL.e_ix_t1, DL.e_ix_t2, DL.e_ix_t3, DL.e_ix_t4, DL.e_gcd, DL.p_none, DL.p_bool, DL.p_int, DL.p_str, DL.p_list, DL.p_tuple, DL.i_int_none, DL.i_int_bool, DL.i_int_int, DL.i_int_str, DL.i_int_list, DL.i_int_tuple, DL.i_bool_none, DL.i_bool_bool, DL.i_bool_int, DL.i_bool_str, DL.i_bool_list, DL.i_bool_tuple, DL.i_str_none, DL.i_str_bool, DL.i_str_int, DL.i_str_str, DL.i_str_list, DL.i_str_tuple, DL.i_tuple_none, DL.i_tuple_bool, DL.i_tuple_int, DL.i_tuple_str, DL.i_tuple_list, DL.i_tuple_tuple, DL.i_list_none, DL.i_list_bool, DL.i_list_int, DL.i_list_str, DL.i_list_list, DL.i_list_tuple, DL.e_v0, DL.e_t0, DL.e_s0_0, DL.e_s0_1, DL.e_s0_2, DL.e_v1, DL.e_t1, DL.e_s1_0, DL.e_s1_1, DL.e_s1_2, DL.e_s1_3, DL.e_v2, DL.e_t2, DL.e_s2_0, DL.e_s2_1, DL.e_s2_2, DL.e_s2_3, DL.e_v3, DL.e_t3, DL.e_s3_0, DL.e_s3_1, DL.e_s3_2, DL.e_s3_3, DL.e_v4, DL.e_t4, DL.e_s4_0, DL.e_s4_1, DL.e_s4_2, DL.e_s4_3, DL.e_v5, DL.e_t5, DL.e_s5_0, DL.e_s5_1, DL.e_s5_2, DL.e_s5_3, DL.e_v6, DL.e_t6, DL.e_s6_0, DL.e_s6_1, DL.e_s6_2, DL.e_s6_3, DL.e_v7, DL.e_t7, DL.e_s7_0, DL.e_s7_1, DL.e_s7_2, DL.e_s7_3]
theorem no_count {i : Int} (hk : ph_is_kinds [K] = .ok (.bool true)) (h : decide (2 ≤ i) = false ∨ (decide (2 ≤ i) = true ∧ decide (i ≤ 3) = false)) : ph_is_forest [.tuple [K, .int i, tr]] = .ok (.bool false) := by
  have w := m_whole i
  refine forest_no (δ := fS K (.int i) tr) (seq_nx (δ1 := fS K (.int i) tr) (by simp only [hk, w, DL.e_g1, DL.e_g2, DL.e_g3, DL.e_g4, DL.e_g5, DL.e_g6, DL.e_g7, DL.e_g8, DL.e_w8, DL.e_g9, DL.e_w9, DL.e_g10, DL.e_w10, DL.e_g11, DL.e_w11, DL.e_g12, DL.e_w12, DL.e_o1, DL.e_u1, DL.e_o2, DL.e_u2, DL.e_o3, DL.e_u3, DL.e_o4, DL.e_u4, DL.e_o5, DL.e_u5, DL.e_o6, DL.e_u6, DL.e_o7, DL.e_u7, DL.e_o8, DL.e_u8, DL.e_o9, DL.e_u9, DL.e_o10, DL.e_u10, DL.e_o11, DL.e_u11, DL.e_o12, DL.e_u12, DL.e_o0, DL.e_u0, DL.runP, DL.runN, DL.startD, List.map, List.length, List.replicate, List.append_nil, List.cons_append, List.nil_append, DL.e_bo, DL.e_be, DL.e_bb, DL.e_ao, DL.e_ae, DL.e_no, DL.e_nb, DL.e_cd, DL.e_cn, DL.e_ct, DL.e_co, DL.e_ce, DL.e_op, DL.e_if, DL.e_seq, DL.vOr, DL.vAnd, DL.vNot, DL.vTest, DL.vIsi, DL.vCall, DL.vCons, DL.vNil, DL.vConst, DL.vRet, DL.vNext, DL.vApp, DL.vNeg, DL.vChain, DL.vAndV, DL.vOrV, DL.vNotV, DL.vIf, ite_true, ite_false, if_true, if_false, Nat.reduceAdd, Nat.reduceSub, Nat.reduceEqDiff, reduceIte, Bool.true_and, Bool.and_true, Bool.not_true, Bool.not_false, Bool.false_eq_true, DL.endP, DL.endN, DL.cz2, DL.cz3, DL.cz4, DL.cz5, DL.cz6, DL.cz7, DL.cz8, DL.cz9, Int.natCast_add, Int.natCast_zero, Int.natCast_one, decide_true, decide_false, eq_self, not_true, not_false_eq_true, Bool.not_eq_true, DL.e_len_t, DL.e_len_l, DL.e_eq_ii, DL.e_ne_ii, DL.e_lt_ii, DL.e_le_ii, DL.e_gt_ii, DL.e_ge_ii, DL.e_ix_t0, DL.e_ix_t1, DL.e_ix_t2, DL.e_ix_t3, DL.e_ix_t4, DL.e_gcd, DL.p_none, DL.p_bool, DL.p_int, DL.p_str, DL.p_list, DL.p_tuple, DL.i_int_none, DL.i_int_bool, DL.i_int_int, DL.i_int_str, DL.i_int_list, DL.i_int_tuple, DL.i_bool_none, DL.i_bool_bool, DL.i_bool_int, DL.i_bool_str, DL.i_bool_list, DL.i_bool_tuple, DL.i_str_none, DL.i_str_bool, DL.i_str_int, DL.i_str_str, DL.i_str_list, DL.i_str_tuple, DL.i_tuple_none, DL.i_tuple_bool, DL.i_tuple_int, DL.i_tuple_str, DL.i_tuple_list, DL.i_tuple_tuple, DL.i_list_none, DL.i_list_bool, DL.i_list_int, DL.i_list_str, DL.i_list_list, DL.i_list_tuple, DL.e_v0, DL.e_t0, DL.e_s0_0, DL.e_s0_1, DL.e_s0_2, DL.e_v1, DL.e_t1, DL.e_s1_0, DL.e_s1_1, DL.e_s1_2, DL.e_s1_3, DL.e_v2, DL.e_t2, DL.e_s2_0, DL.e_s2_1, DL.e_s2_2, DL.e_s2_3, DL.e_v3, DL.e_t3, DL.e_s3_0, DL.e_s3_1, DL.e_s3_2, DL.e_s3_3, DL.e_v4, DL.e_t4, DL.e_s4_0, DL.e_s4_1, DL.e_s4_2, DL.e_s4_3, DL.e_v5, DL.e_t5, DL.e_s5_0, DL.e_s5_1, DL.e_s5_2, DL.e_s5_3, DL.e_v6, DL.e_t6, DL.e_s6_0, DL.e_s6_1, DL.e_s6_2, DL.e_s6_3, DL.e_v7, DL.e_t7, DL.e_s7_0, DL.e_s7_1, DL.e_s7_2, DL.e_s7_3]) (seq_rt ?_))
  rcases h with h | ⟨h1, h2⟩
  · simp only [h, DL.e_g1, DL.e_g2, DL.e_g3, DL.e_g4, DL.e_g5, DL.e_g6, DL.e_g7, DL.e_g8, DL.e_w8, DL.e_g9, DL.e_w9, DL.e_g10, DL.e_w10, DL.e_g11, DL.e_w11, DL.e_g12, DL.e_w12, DL.e_o1, DL.e_u1, DL.e_o2, DL.e_u2, DL.e_o3, DL.e_u3, DL.e_o4, DL.e_u4, DL.e_o5, DL.e_u5, DL.e_o6, DL.e_u6, DL.e_o7, DL.e_u7, DL.e_o8, DL.e_u8, DL.e_o9, DL.e_u9, DL.e_o10, DL.e_u10, DL.e_o11, DL.e_u11, DL.e_o12, DL.e_u12, DL.e_o0, DL.e_u0, DL.runP, DL.runN, DL.startD, List.map, List.length, List.replicate, List.append_nil, List.cons_append, List.nil_append, DL.e_bo, DL.e_be, DL.e_bb, DL.e_ao, DL.e_ae, DL.e_no, DL.e_nb, DL.e_cd, DL.e_cn, DL.e_ct, DL.e_co, DL.e_ce, DL.e_op, DL.e_if, DL.e_seq, DL.vOr, DL.vAnd, DL.vNot, DL.vTest, DL.vIsi, DL.vCall, DL.vCons, DL.vNil, DL.vConst, DL.vRet, DL.vNext, DL.vApp, DL.vNeg, DL.vChain, DL.vAndV, DL.vOrV, DL.vNotV, DL.vIf, ite_true, ite_false, if_true, if_false, Nat.reduceAdd, Nat.reduceSub, Nat.reduceEqDiff, reduceIte, Bool.true_and, Bool.and_true, Bool.not_true, Bool.not_false, Bool.false_eq_true, DL.endP, DL.endN, DL.cz2, DL.cz3, DL.cz4, DL.cz5, DL.cz6, DL.cz7, DL.cz8, DL.cz9, Int.natCast_add, Int.natCast_zero, Int.natCast_one, decide_true, decide_false, eq_self, not_true, not_false_eq_true, Bool.not_eq_true, DL.e_len_t, DL.e_len_l, DL.e_eq_ii, DL.e_ne_ii, DL.e_lt_ii, DL.e_le_ii, DL.e_gt_ii, DL.e_ge_ii, DL.e_ix_t0, DL.e_ix_t1, DL.e_ix_t2, DL.e_ix_t3, DL.e_ix_t4, DL.e_gcd, DL.p_none, DL.p_bool, DL.p_int, DL.p_str, DL.p_list, DL.p_tuple, DL.i_int_none, DL.i_int_bool, DL.i_int_int, DL.i_int_str, DL.i_int_list, DL.i_int_tuple, DL.i_bool_none, DL.i_bool_bool, DL.i_bool_int, DL.i_bool_str, DL.i_bool_list, DL.i_bool_tuple, DL.i_str_none, DL.i_str_bool, DL.i_str_int, DL.i_str_str, DL.i_str_list, DL.i_str_tuple, DL.i_tuple_none, DL.i_tuple_bool, DL.i_tuple_int, DL.i_tuple_str, DL.i_tuple_list, DL.i_tuple_tuple, DL.i_list_none, DL.i_list_bool, DL.i_list_int, DL.i_list_str, DL.i_list_list, DL.i_list_tuple, DL.e_v0, DL.e_t0, DL.e_s0_0, DL.e_s0_1, DL.e_s0_2, DL.e_v1, DL.e_t1, DL.e_s1_0, DL.e_s1_1, DL.e_s1_2, DL.e_s1_3, DL.e_v2, DL.e_t2, DL.e_s2_0, DL.e_s2_1, DL.e_s2_2, DL.e_s2_3, DL.e_v3, DL.e_t3, DL.e_s3_0, DL.e_s3_1, DL.e_s3_2, DL.e_s3_3, DL.e_v4, DL.e_t4, DL.e_s4_0, DL.e_s4_1, DL.e_s4_2, DL.e_s4_3, DL.e_v5, DL.e_t5, DL.e_s5_0, DL.e_s5_1, DL.e_s5_2, DL.e_s5_3, DL.e_v6, DL.e_t6, DL.e_s6_0, DL.e_s6_1, DL.e_s6_2, DL.e_s6_3, DL.e_v7, DL.e_t7, DL.e_s7_0, DL.e_s7_1, DL.e_s7_2, DL.e_s7_3]
  · simp only [h1, h2, DL.e_g1, DL.e_g2, DL.e_g3, DL.e_g4, DL.e_g5, DL.e_g6, DL.e_g7, DL.e_g8, DL.e_w8, DL.e_g9, DL.e_w9, DL.e_g10, DL.e_w10, DL.e_g11, DL.e_w11, DL.e_g12, DL.e_w12, DL.e_o1, DL.e_u1, DL.e_o2, DL.e_u2, DL.e_o3, DL.e_u3, DL.e_o4, DL.e_u4, DL.e_o5, DL.e_u5, DL.e_o6, DL.e_u6, DL.e_o7, DL.e_u7, DL.e_o8, DL.e_u8, DL.e_o9, DL.e_u9, DL.e_o10, DL.e_u10, DL.e_o11, DL.e_u11, DL.e_o12, DL.e_u12, DL.e_o0, DL.e_u0, DL.runP, DL.runN, DL.startD, List.map, List.length, List.replicate, List.append_nil, List.cons_append, List.nil_append, DL.e_bo, DL.e_be, DL.e_bb, DL.e_ao, DL.e_ae, DL.e_no, DL.e_nb, DL.e_cd, DL.e_cn, DL.e_ct, DL.e_co, DL.e_ce, DL.e_op, DL.e_if, DL.e_seq, DL.vOr, DL.vAnd, DL.vNot, DL.vTest, DL.vIsi, DL.vCall, DL.vCons, DL.vNil, DL.vConst, DL.vRet, DL.vNext, DL.vApp, DL.vNeg, DL.vChain, DL.vAndV, DL.vOrV, DL.vNotV, DL.vIf, ite_true, ite_false, if_true, if_false, Nat.reduceAdd, Nat.reduceSub, Nat.reduceEqDiff, reduceIte, Bool.true_and, Bool.and_true, Bool.not_true, Bool.not_false, Bool.false_eq_true, DL.endP, DL.endN, DL.cz2, DL.cz3, DL.cz4, DL.cz5, DL.cz6, DL.cz7, DL.cz8, DL.cz9, Int.natCast_add, Int.natCast_zero, Int.natCast_one, decide_true, decide_false, eq_self, not_true, not_false_eq_true, Bool.not_eq_true, DL.e_len_t, DL.e_len_l, DL.e_eq_ii, DL.e_ne_ii, DL.e_lt_ii, DL.e_le_ii, DL.e_gt_ii, DL.e_ge_ii, DL.e_ix_t0, DL.e_ix_t1, DL.e_ix_t2, DL.e_ix_t3, DL.e_ix_t4, DL.e_gcd, DL.p_none, DL.p_bool, DL.p_int, DL.p_str, DL.p_list, DL.p_tuple, DL.i_int_none, DL.i_int_bool, DL.i_int_int, DL.i_int_str, DL.i_int_list, DL.i_int_tuple, DL.i_bool_none, DL.i_bool_bool, DL.i_bool_int, DL.i_bool_str, DL.i_bool_list, DL.i_bool_tuple, DL.i_str_none, DL.i_str_bool, DL.i_str_int, DL.i_str_str, DL.i_str_list, DL.i_str_tuple, DL.i_tuple_none, DL.i_tuple_bool, DL.i_tuple_int, DL.i_tuple_str, DL.i_tuple_list, DL.i_tuple_tuple, DL.i_list_none, DL.i_list_bool, DL.i_list_int, DL.i_list_str, DL.i_list_list, DL.i_list_tuple, DL.e_v0, DL.e_t0, DL.e_s0_0, DL.e_s0_1, DL.e_s0_2, DL.e_v1, DL.e_t1, DL.e_s1_0, DL.e_s1_1, DL.e_s1_2, DL.e_s1_3, DL.e_v2, DL.e_t2, DL.e_s2_0, DL.e_s2_1, DL.e_s2_2, DL.e_s2_3, DL.e_v3, DL.e_t3, DL.e_s3_0, DL.e_s3_1, DL.e_s3_2, DL.e_s3_3, DL.e_v4, DL.e_t4, DL.e_s4_0, DL.e_s4_1, DL.e_s4_2, DL.e_s4_3, DL.e_v5, DL.e_t5, DL.e_s5_0, DL.e_s5_1, DL.e_s5_2, DL.e_s5_3, DL.e_v6, DL.e_t6, DL.e_s6_0, DL.e_s6_1, DL.e_s6_2, DL.e_s6_3, DL.e_v7, DL.e_t7, DL.e_s7_0, DL.e_s7_1, DL.e_s7_2, DL.e_s7_3]
theorem no_trees {i : Int} (hk : ph_is_kinds [K] = .ok (.bool true)) (h1 : decide (2 ≤ i) = true) (h2 : decide (i ≤ 3) = true) (ht : (plainD tr = true ∧ isiD "tuple" tr = false) ∨ ∃ xs, tr = .tuple xs ∧ (xs = [] ∨ decide ((xs.length : Int) ≤ 4) = false)) : ph_is_forest [.tuple [K, .int i, tr]] = .ok (.bool false) := by
  have w := m_whole i
  refine forest_no (δ := fS K (.int i) tr) (seq_nx (δ1 := fS K (.int i) tr) (by simp only [hk, w, DL.e_g1, DL.e_g2, DL.e_g3, DL.e_g4, DL.e_g5, DL.e_g6, DL.e_g7, DL.e_g8, DL.e_w8, DL.e_g9, DL.e_w9, DL.e_g10, DL.e_w10, DL.e_g11, DL.e_w11, DL.e_g12, DL.e_w12, DL.e_o1, DL.e_u1, DL.e_o2, DL.e_u2, DL.e_o3, DL.e_u3, DL.e_o4, DL.e_u4, DL.e_o5, DL.e_u5, DL.e_o6, DL.e_u6, DL.e_o7, DL.e_u7, DL.e_o8, DL.e_u8, DL.e_o9, DL.e_u9, DL.e_o10, DL.e_u10, DL.e_o11, DL.e_u11, DL.e_o12, DL.e_u12, DL.e_o0, DL.e_u0, DL.runP, DL.runN, DL.startD, List.map, List.length, List.replicate, List.append_nil, List.cons_append, List.nil_append, DL.e_bo, DL.e_be, DL.e_bb, DL.e_ao, DL.e_ae, DL.e_no, DL.e_nb, DL.e_cd, DL.e_cn, DL.e_ct, DL.e_co, DL.e_ce, DL.e_op, DL.e_if, DL.e_seq, DL.vOr, DL.vAnd, DL.vNot, DL.vTest, DL.vIsi, DL.vCall, DL.vCons, DL.vNil, DL.vConst, DL.vRet, DL.vNext, DL.vApp, DL.vNeg, DL.vChain, DL.vAndV, DL.vOrV, DL.vNotV, DL.vIf, ite_true, ite_false, if_true, if_false, Nat.reduceAdd, Nat.reduceSub, Nat.reduceEqDiff, reduceIte, Bool.true_and, Bool.and_true, Bool.not_true, Bool.not_false, Bool.false_eq_true, DL.endP, DL.endN, DL.cz2, DL.cz3, DL.cz4, DL.cz5, DL.cz6, DL.cz7, DL.cz8, DL.cz9, Int.natCast_add, Int.natCast_zero, Int.natCast_one, decide_true, decide_false, eq_self, not_true, not_false_eq_true, Bool.not_eq_true, DL.e_len_t, DL.e_len_l, DL.e_eq_ii, DL.e_ne_ii, DL.e_lt_ii, DL.e_le_ii, DL.e_gt_ii, DL.e_ge_ii, DL.e_ix_t0, DL.e_ix_t1, DL.e_ix_t2, DL.e_ix_t3, DL.e_ix_t4, DL.e_gcd, DL.p_none, DL.p_bool, DL.p_int, DL.p_str, DL.p_list, DL.p_tuple, DL.i_int_none, DL.i_int_bool, DL.i_int_int, DL.i_int_str, DL.i_int_list, DL.i_int_tuple, DL.i_bool_none, DL.i_bool_bool, DL.i_bool_int, DL.i_bool_str, DL.i_bool_list, DL.i_bool_tuple, DL.i_str_none, DL.i_str_bool, DL.i_str_int, DL.i_str_str, DL.i_str_list, DL.i_str_tuple, DL.i_tuple_none, DL.i_tuple_bool, DL.i_tuple_int, DL.i_tuple_str, DL.i_tuple_list, DL.i_tuple_tuple, DL.i_list_none, DL.i_list_bool, DL.i_list_int, DL.i_list_str, DL.i_list_list, DL.i_list_tuple, DL.e_v0, DL.e_t0, DL.e_s0_0, DL.e_s0_1, DL.e_s0_2, DL.e_v1, DL.e_t1, DL.e_s1_0, DL.e_s1_1, DL.e_s1_2, DL.e_s1_3, DL.e_v2, DL.e_t2, DL.e_s2_0, DL.e_s2_1, DL.e_s2_2, DL.e_s2_3, DL.e_v3, DL.e_t3, DL.e_s3_0, DL.e_s3_1, DL.e_s3_2, DL.e_s3_3, DL.e_v4, DL.e_t4, DL.e_s4_0, DL.e_s4_1, DL.e_s4_2, DL.e_s4_3, DL.e_v5, DL.e_t5, DL.e_s5_0, DL.e_s5_1, DL.e_s5_2, DL.e_s5_3, DL.e_v6, DL.e_t6, DL.e_s6_0, DL.e_s6_1, DL.e_s6_2, DL.e_s6_3, DL.e_v7, DL.e_t7, DL.e_s7_0, DL.e_s7_1, DL.e_s7_2, DL.e_s7_3]) (seq_nx (δ1 := fS K (.int i) tr) (by simp only [h1, h2, DL.e_g1, DL.e_g2, DL.e_g3, DL.e_g4, DL.e_g5, DL.e_g6, DL.e_g7, DL.e_g8, DL.e_w8, DL.e_g9, DL.e_w9, DL.e_g10, DL.e_w10, DL.e_g11, DL.e_w11, DL.e_g12, DL.e_w12, DL.e_o1, DL.e_u1, DL.e_o2, DL.e_u2, DL.e_o3, DL.e_u3, DL.e_o4, DL.e_u4, DL.e_o5, DL.e_u5, DL.e_o6, DL.e_u6, DL.e_o7, DL.e_u7, DL.e_o8, DL.e_u8, DL.e_o9, DL.e_u9, DL.e_o10, DL.e_u10, DL.e_o11, DL.e_u11, DL.e_o12, DL.e_u12, DL.e_o0, DL.e_u0, DL.runP, DL.runN, DL.startD, List.map, List.length, List.replicate, List.append_nil, List.cons_append, List.nil_append, DL.e_bo, DL.e_be, DL.e_bb, DL.e_ao, DL.e_ae, DL.e_no, DL.e_nb, DL.e_cd, DL.e_cn, DL.e_ct, DL.e_co, DL.e_ce, DL.e_op, DL.e_if, DL.e_seq, DL.vOr, DL.vAnd, DL.vNot, DL.vTest, DL.vIsi, DL.vCall, DL.vCons, DL.vNil, DL.vConst, DL.vRet, DL.vNext, DL.vApp, DL.vNeg, DL.vChain, DL.vAndV, DL.vOrV, DL.vNotV, DL.vIf, ite_true, ite_false, if_true, if_false, Nat.reduceAdd, Nat.reduceSub, Nat.reduceEqDiff, reduceIte, Bool.true_and, Bool.and_true, Bool.not_true, Bool.not_false, Bool.false_eq_true, DL.endP, DL.endN, DL.cz2, DL.cz3, DL.cz4, DL.cz5, DL.cz6, DL.cz7, DL.cz8, DL.cz9, Int.natCast_add, Int.natCast_zero, Int.natCast_one, decide_true, decide_false, eq_self, not_true, not_false_eq_true, Bool.not_eq_true, DL.e_len_t, DL.e_len_l, DL.e_eq_ii, DL.e_ne_ii, DL.e_lt_ii, DL.e_le_ii, DL.e_gt_ii, DL.e_ge_ii, DL.e_ix_t0, DL.e_ix_t1, DL.e_ix_t2, DL.e_ix_t3, DL.e_ix_t4, DL.e_gcd, DL.p_none, DL.p_bool, DL.p_int, DL.p_str, DL.p_list, DL.p_tuple, DL.i_int_none, DL.i_int_bool, DL.i_int_int, DL.i_int_str, DL.i_int_list, DL.i_int_tuple, DL.i_bool_none, DL.i_bool_bool, DL.i_bool_int, DL.i_bool_str, DL.i_bool_list, DL.i_bool_tuple, DL.i_str_none, DL.i_str_bool, DL.i_str_int, DL.i_str_str, DL.i_str_list, DL.i_str_tuple, DL.i_tuple_none, DL.i_tuple_bool, DL.i_tuple_int, DL.i_tuple_str, DL.i_tuple_list, DL.i_tuple_tuple, DL.i_list_none, DL.i_list_bool, DL.i_list_int, DL.i_list_str, DL.i_list_list, DL.i_list_tuple, DL.e_v0, DL.e_t0, DL.e_s0_0, DL.e_s0_1, DL.e_s0_2, DL.e_v1, DL.e_t1, DL.e_s1_0, DL.e_s1_1, DL.e_s1_2, DL.e_s1_3, DL.e_v2, DL.e_t2, DL.e_s2_0, DL.e_s2_1, DL.e_s2_2, DL.e_s2_3, DL.e_v3, DL.e_t3, DL.e_s3_0, DL.e_s3_1, DL.e_s3_2, DL.e_s3_3, DL.e_v4, DL.e_t4, DL.e_s4_0, DL.e_s4_1, DL.e_s4_2, DL.e_s4_3, DL.e_v5, DL.e_t5, DL.e_s5_0, DL.e_s5_1, DL.e_s5_2, DL.e_s5_3, DL.e_v6, DL.e_t6, DL.e_s6_0, DL.e_s6_1, DL.e_s6_2, DL.e_s6_3, DL.e_v7, DL.e_t7, DL.e_s7_0, DL.e_s7_1, DL.e_s7_2, DL.e_s7_3]) (seq_rt ?_)))
  rcases ht with ⟨hp, h⟩ | ⟨xs, rfl, rfl | h⟩
  · simp only [hp, h, DL.e_g1, DL.e_g2, DL.e_g3, DL.e_g4, DL.e_g5, DL.e_g6, DL.e_g7, DL.e_g8, DL.e_w8, DL.e_g9, DL.e_w9, DL.e_g10, DL.e_w10, DL.e_g11, DL.e_w11, DL.e_g12, DL.e_w12, DL.e_o1, DL.e_u1, DL.e_o2, DL.e_u2, DL.e_o3, DL.e_u3, DL.e_o4, DL.e_u4, DL.e_o5, DL.e_u5, DL.e_o6, DL.e_u6, DL.e_o7, DL.e_u7, DL.e_o8, DL.e_u8, DL.e_o9, DL.e_u9, DL.e_o10, DL.e_u10, DL.e_o11, DL.e_u11, DL.e_o12, DL.e_u12, DL.e_o0, DL.e_u0, DL.runP, DL.runN, DL.startD, List.map, List.length, List.replicate, List.append_nil, List.cons_append, List.nil_append, DL.e_bo, DL.e_be, DL.e_bb, DL.e_ao, DL.e_ae, DL.e_no, DL.e_nb, DL.e_cd, DL.e_cn, DL.e_ct, DL.e_co, DL.e_ce, DL.e_op, DL.e_if, DL.e_seq, DL.vOr, DL.vAnd, DL.vNot, DL.vTest, DL.vIsi, DL.vCall, DL.vCons, DL.vNil, DL.vConst, DL.vRet, DL.vNext, DL.vApp, DL.vNeg, DL.vChain, DL.vAndV, DL.vOrV, DL.vNotV, DL.vIf, ite_true, ite_false, if_true, if_false, Nat.reduceAdd, Nat.reduceSub, Nat.reduceEqDiff, reduceIte, Bool.true_and, Bool.and_true, Bool.not_true, Bool.not_false, Bool.false_eq_true, DL.endP, DL.endN, DL.cz2, DL.cz3, DL.cz4, DL.cz5, DL.cz6, DL.cz7, DL.cz8, DL.cz9, Int.natCast_add, Int.natCast_zero, Int.natCast_one, decide_true, decide_false, eq_self, not_true, not_false_eq_true, Bool.not_eq_true, DL.e_len_t, DL.e_len_l, DL.e_eq_ii, DL.e_ne_ii, DL.e_lt_ii, DL.e_le_ii, DL.e_gt_ii, DL.e_ge_ii, DL.e_ix_t0, DL.e_ix_t1, DL.e_ix_t2, DL.e_ix_t3, DL.e_ix_t4, DL.e_gcd, DL.p_none, DL.p_bool, DL.p_int, DL.p_str, DL.p_list, DL.p_tuple, DL.i_int_none, DL.i_int_bool, DL.i_int_int, DL.i_int_str, DL.i_int_list, DL.i_int_tuple, DL.i_bool_none, DL.i_bool_bool, DL.i_bool_int, DL.i_bool_str, DL.i_bool_list, DL.i_bool_tuple, DL.i_str_none, DL.i_str_bool, DL.i_str_int, DL.i_str_str, DL.i_str_list, DL.i_str_tuple, DL.i_tuple_none, DL.i_tuple_bool, DL.i_tuple_int, DL.i_tuple_str, DL.i_tuple_list, DL.i_tuple_tuple, DL.i_list_none, DL.i_list_bool, DL.i_list_int, DL.i_list_str, DL.i_list_list, DL.i_list_tuple, DL.e_v0, DL.e_t0, DL.e_s0_0, DL.e_s0_1, DL.e_s0_2, DL.e_v1, DL.e_t1, DL.e_s1_0, DL.e_s1_1, DL.e_s1_2, DL.e_s1_3, DL.e_v2, DL.e_t2, DL.e_s2_0, DL.e_s2_1, DL.e_s2_2, DL.e_s2_3, DL.e_v3, DL.e_t3, DL.e_s3_0, DL.e_s3_1, DL.e_s3_2, DL.e_s3_3, DL.e_v4, DL.e_t4, DL.e_s4_0, DL.e_s4_1, DL.e_s4_2, DL.e_s4_3, DL.e_v5, DL.e_t5, DL.e_s5_0, DL.e_s5_1, DL.e_s5_2, DL.e_s5_3, DL.e_v6, DL.e_t6, DL.e_s6_0, DL.e_s6_1, DL.e_s6_2, DL.e_s6_3, DL.e_v7, DL.e_t7, DL.e_s7_0, DL.e_s7_1, DL.e_s7_2, DL.e_s7_3]
  · have q : decide ((1 : Int) ≤ 0) = false := by decide
    simp only [len0, q, DL.e_g1, DL.e_g2, DL.e_g3, DL.e_g4, DL.e_g5, DL.e_g6, DL.e_g7, DL.e_g8, DL.e_w8, DL.e_g9, DL.e_w9, DL.e_g10, DL.e_w10, DL.e_g11, DL.e_w11, DL.e_g12, DL.e_w12, DL.e_o1, DL.e_u1, DL.e_o2, DL.e_u2, DL.e_o3, DL.e_u3, DL.e_o4, DL.e_u4, DL.e_o5, DL.e_u5, DL.e_o6, DL.e_u6, DL.e_o7, DL.e_u7, DL.e_o8, DL.e_u8, DL.e_o9, DL.e_u9, DL.e_o10, DL.e_u10, DL.e_o11, DL.e_u11, DL.e_o12, DL.e_u12, DL.e_o0, DL.e_u0, DL.runP, DL.runN, DL.startD, List.map, List.length, List.replicate, List.append_nil, List.cons_append, List.nil_append, DL.e_bo, DL.e_be, DL.e_bb, DL.e_ao, DL.e_ae, DL.e_no, DL.e_nb, DL.e_cd, DL.e_cn, DL.e_ct, DL.e_co, DL.e_ce, DL.e_op, DL.e_if, DL.e_seq, DL.vOr, DL.vAnd, DL.vNot, DL.vTest, DL.vIsi, DL.vCall, DL.vCons, DL.vNil, DL.vConst, DL.vRet, DL.vNext, DL.vApp, DL.vNeg, DL.vChain, DL.vAndV, DL.vOrV, DL.vNotV, DL.vIf, ite_true, ite_false, if_true, if_false, Nat.reduceAdd, Nat.reduceSub, Nat.reduceEqDiff, reduceIte, Bool.true_and, Bool.and_true, Bool.not_true, Bool.not_false, Bool.false_eq_true, DL.endP, DL.endN, DL.cz2, DL.cz3, DL.cz4, DL.cz5, DL.cz6, DL.cz7, DL.cz8, DL.cz9, Int.natCast_add, Int.natCast_zero, Int.natCast_one, decide_true, decide_false, eq_self, not_true, not_false_eq_true, Bool.not_eq_true, DL.e_len_t, DL.e_len_l, DL.e_eq_ii, DL.e_ne_ii, DL.e_lt_ii, DL.e_le_ii, DL.e_gt_ii, DL.e_ge_ii, DL.e_ix_t0, DL.e_ix_t1, DL.e_ix_t2, DL.e_ix_t3, DL.e_ix_t4, DL.e_gcd, DL.p_none, DL.p_bool, DL.p_int, DL.p_str, DL.p_list, DL.p_tuple, DL.i_int_none, DL.i_int_bool, DL.i_int_int, DL.i_int_str, DL.i_int_list, DL.i_int_tuple, DL.i_bool_none, DL.i_bool_bool, DL.i_bool_int, DL.i_bool_str, DL.i_bool_list, DL.i_bool_tuple, DL.i_str_none, DL.i_str_bool, DL.i_str_int, DL.i_str_str, DL.i_str_list, DL.i_str_tuple, DL.i_tuple_none, DL.i_tuple_bool, DL.i_tuple_int, DL.i_tuple_str, DL.i_tuple_list, DL.i_tuple_tuple, DL.i_list_none, DL.i_list_bool, DL.i_list_int, DL.i_list_str, DL.i_list_list, DL.i_list_tuple, DL.e_v0, DL.e_t0, DL.e_s0_0, DL.e_s0_1, DL.e_s0_2, DL.e_v1, DL.e_t1, DL.e_s1_0, DL.e_s1_1, DL.e_s1_2, DL.e_s1_3, DL.e_v2, DL.e_t2, DL.e_s2_0, DL.e_s2_1, DL.e_s2_2, DL.e_s2_3, DL.e_v3, DL.e_t3, DL.e_s3_0, DL.e_s3_1, DL.e_s3_2, DL.e_s3_3, DL.e_v4, DL.e_t4, DL.e_s4_0, DL.e_s4_1, DL.e_s4_2, DL.e_s4_3, DL.e_v5, DL.e_t5, DL.e_s5_0, DL.e_s5_1, DL.e_s5_2, DL.e_s5_3, DL.e_v6, DL.e_t6, DL.e_s6_0, DL.e_s6_1, DL.e_s6_2, DL.e_s6_3, DL.e_v7, DL.e_t7, DL.e_s7_0, DL.e_s7_1, DL.e_s7_2, DL.e_s7_3]
  · by_cases c : 1 ≤ (xs.length : Int)
    · have q := decide_eq_true c
      simp only [q, h, DL.e_g1, DL.e_g2, DL.e_g3, DL.e_g4, DL.e_g5, DL.e_g6, DL.e_g7, DL.e_g8, DL.e_w8, DL.e_g9, DL.e_w9, DL.e_g10, DL.e_w10, DL.e_g11, DL.e_w11, DL.e_g12, DL.e_w12, DL.e_o1, DL.e_u1, DL.e_o2, DL.e_u2, DL.e_o3, DL.e_u3, DL.e_o4, DL.e_u4, DL.e_o5, DL.e_u5, DL.e_o6, DL.e_u6, DL.e_o7, DL.e_u7, DL.e_o8, DL.e_u8, DL.e_o9, DL.e_u9, DL.e_o10, DL.e_u10, DL.e_o11, DL.e_u11, DL.e_o12, DL.e_u12, DL.e_o0, DL.e_u0, DL.runP, DL.runN, DL.startD, List.map, List.length, List.replicate, List.append_nil, List.cons_append, List.nil_append, DL.e_bo, DL.e_be, DL.e_bb, DL.e_ao, DL.e_ae, DL.e_no, DL.e_nb, DL.e_cd, DL.e_cn, DL.e_ct, DL.e_co, DL.e_ce, DL.e_op, DL.e_if, DL.e_seq, DL.vOr, DL.vAnd, DL.vNot, DL.vTest, DL.vIsi, DL.vCall, DL.vCons, DL.vNil, DL.vConst, DL.vRet, DL.vNext, DL.vApp, DL.vNeg, DL.vChain, DL.vAndV, DL.vOrV, DL.vNotV, DL.vIf, ite_true, ite_false, if_true, if_false, Nat.reduceAdd, Nat.reduceSub, Nat.reduceEqDiff, reduceIte, Bool.true_and, Bool.and_true, Bool.not_true, Bool.not_false, Bool.false_eq_true, DL.endP, DL.endN, DL.cz2, DL.cz3, DL.cz4, DL.cz5, DL.cz6, DL.cz7, DL.cz8, DL.cz9, Int.natCast_add, Int.natCast_zero, Int.natCast_one, decide_true, decide_false, eq_self, not_true, not_false_eq_true, Bool.not_eq_true, DL.e_len_t, DL.e_len_l, DL.e_eq_ii, DL.e_ne_ii, DL.e_lt_ii, DL.e_le_ii, DL.e_gt_ii, DL.e_ge_ii, DL.e_ix_t0, DL.e_ix_t1, DL.e_ix_t2, DL.e_ix_t3, DL.e_ix_t4, DL.e_gcd, DL.p_none, DL.p_bool, DL.p_int, DL.p_str, DL.p_list, DL.p_tuple, DL.i_int_none, DL.i_int_bool, DL.i_int_int, DL.i_int_str, DL.i_int_list, DL.i_int_tuple, DL.i_bool_none, DL.i_bool_bool, DL.i_bool_int, DL.i_bool_str, DL.i_bool_list, DL.i_bool_tuple, DL.i_str_none, DL.i_str_bool, DL.i_str_int, DL.i_str_str, DL.i_str_list, DL.i_str_tuple, DL.i_tuple_none, DL.i_tuple_bool, DL.i_tuple_int, DL.i_tuple_str, DL.i_tuple_list, DL.i_tuple_tuple, DL.i_list_none, DL.i_list_bool, DL.i_list_int, DL.i_list_str, DL.i_list_list, DL.i_list_tuple, DL.e_v0, DL.e_t0, DL.e_s0_0, DL.e_s0_1, DL.e_s0_2, DL.e_v1, DL.e_t1, DL.e_s1_0, DL.e_s1_1, DL.e_s1_2, DL.e_s1_3, DL.e_v2, DL.e_t2, DL.e_s2_0, DL.e_s2_1, DL.e_s2_2, DL.e_s2_3, DL.e_v3, DL.e_t3, DL.e_s3_0, DL.e_s3_1, DL.e_s3_2, DL.e_s3_3, DL.e_v4, DL.e_t4, DL.e_s4_0, DL.e_s4_1, DL.e_s4_2, DL.e_s4_3, DL.e_v5, DL.e_t5, DL.e_s5_0, DL.e_s5_1, DL.e_s5_2, DL.e_s5_3, DL.e_v6, DL.e_t6, DL.e_s6_0, DL.e_s6_1, DL.e_s6_2, DL.e_s6_3, DL.e_v7, DL.e_t7, DL.e_s7_0, DL.e_s7_1, DL.e_s7_2, DL.e_s7_3]
    · have q := decide_eq_false c
      simp only [q, DL.e_g1, DL.e_g2, DL.e_g3, DL.e_g4, DL.e_g5, DL.e_g6, DL.e_g7, DL.e_g8, DL.e_w8, DL.e_g9, DL.e_w9, DL.e_g10, DL.e_w10, DL.e_g11, DL.e_w11, DL.e_g12, DL.e_w12, DL.e_o1, DL.e_u1, DL.e_o2, DL.e_u2, DL.e_o3, DL.e_u3, DL.e_o4, DL.e_u4, DL.e_o5, DL.e_u5, DL.e_o6, DL.e_u6, DL.e_o7, DL.e_u7, DL.e_o8, DL.e_u8, DL.e_o9, DL.e_u9, DL.e_o10, DL.e_u10, DL.e_o11, DL.e_u11, DL.e_o12, DL.e_u12, DL.e_o0, DL.e_u0, DL.runP, DL.runN, DL.startD, List.map, List.length, List.replicate, List.append_nil, List.cons_append, List.nil_append, DL.e_bo, DL.e_be, DL.e_bb, DL.e_ao, DL.e_ae, DL.e_no, DL.e_nb, DL.e_cd, DL.e_cn, DL.e_ct, DL.e_co, DL.e_ce, DL.e_op, DL.e_if, DL.e_seq, DL.vOr, DL.vAnd, DL.vNot, DL.vTest, DL.vIsi, DL.vCall, DL.vCons, DL.vNil, DL.vConst, DL.vRet, DL.vNext, DL.vApp, DL.vNeg, DL.vChain, DL.vAndV, DL.vOrV, DL.vNotV, DL.vIf, ite_true, ite_false, if_true, if_false, Nat.reduceAdd, Nat.reduceSub, Nat.reduceEqDiff, reduceIte, Bool.true_and, Bool.and_true, Bool.not_true, Bool.not_false, Bool.false_eq_true, DL.endP, DL.endN, DL.cz2, DL.cz3, DL.cz4, DL.cz5, DL.cz6, DL.cz7, DL.cz8, DL.cz9, Int.natCast_add, Int.natCast_zero, Int.natCast_one, decide_true, decide_false, eq_self, not_true, not_false_eq_true, Bool.not_eq_true, DL.e_len_t, DL.e_len_l, DL.e_eq_ii, DL.e_ne_ii, DL.e_lt_ii, DL.e_le_ii, DL.e_gt_ii, DL.e_ge_ii, DL.e_ix_t0, DL.e_ix_t1, DL.e_ix_t2, DL.e_ix_t3, DL.e_ix_t4, DL.e_gcd, DL.p_none, DL.p_bool, DL.p_int, DL.p_str, DL.p_list, DL.p_tuple, DL.i_int_none, DL.i_int_bool, DL.i_int_int, DL.i_int_str, DL.i_int_list, DL.i_int_tuple, DL.i_bool_none, DL.i_bool_bool, DL.i_bool_int, DL.i_bool_str, DL.i_bool_list, DL.i_bool_tuple, DL.i_str_none, DL.i_str_bool, DL.i_str_int, DL.i_str_str, DL.i_str_list, DL.i_str_tuple, DL.i_tuple_none, DL.i_tuple_bool, DL.i_tuple_int, DL.i_tuple_str, DL.i_tuple_list, DL.i_tuple_tuple, DL.i_list_none, DL.i_list_bool, DL.i_list_int, DL.i_list_str, DL.i_list_list, DL.i_list_tuple, DL.e_v0, DL.e_t0, DL.e_s0_0, DL.e_s0_1, DL.e_s0_2, DL.e_v1, DL.e_t1, DL.e_s1_0, DL.e_s1_1, DL.e_s1_2, DL.e_s1_3, DL.e_v2, DL.e_t2, DL.e_s2_0, DL.e_s2_1, DL.e_s2_2, DL.e_s2_3, DL.e_v3, DL.e_t3, DL.e_s3_0, DL.e_s3_1, DL.e_s3_2, DL.e_s3_3, DL.e_v4, DL.e_t4, DL.e_s4_0, DL.e_s4_1, DL.e_s4_2, DL.e_s4_3, DL.e_v5, DL.e_t5, DL.e_s5_0, DL.e_s5_1, DL.e_s5_2, DL.e_s5_3, DL.e_v6, DL.e_t6, DL.e_s6_0, DL.e_s6_1, DL.e_s6_2, DL.e_s6_3, DL.e_v7, DL.e_t7, DL.e_s7_0, DL.e_s7_1, DL.e_s7_2, DL.e_s7_3]
theorem no_tree {i : Int} {t : PyData} (hk : ph_is_kinds [K] = .ok (.bool true)) (h1 : decide (2 ≤ i) = true) (h2 : decide (i ≤ 3) = true) (ht : ph_is_tree [t, K, .int i] = .ok (.bool false)) : ph_is_forest [.tuple [K, .int i, .tuple [t]]] = .ok (.bool false) := by
  have w := m_whole i
  have q1 : decide ((1 : Int) ≤ 1) = true := by decide
  have q4 : decide ((1 : Int) ≤ 4) = true := by decide
  have l1 : gLen [.tuple [t]] = .ok (.int 1) := rfl
  refine forest_no (δ := fS K (.int i) (.tuple [t])) (seq_nx (δ1 := fS K (.int i) (.tuple [t])) (by simp only [hk, w, DL.e_g1, DL.e_g2, DL.e_g3, DL.e_g4, DL.e_g5, DL.e_g6, DL.e_g7, DL.e_g8, DL.e_w8, DL.e_g9, DL.e_w9, DL.e_g10, DL.e_w10, DL.e_g11, DL.e_w11, DL.e_g12, DL.e_w12, DL.e_o1, DL.e_u1, DL.e_o2, DL.e_u2, DL.e_o3, DL.e_u3, DL.e_o4, DL.e_u4, DL.e_o5, DL.e_u5, DL.e_o6, DL.e_u6, DL.e_o7, DL.e_u7, DL.e_o8, DL.e_u8, DL.e_o9, DL.e_u9, DL.e_o10, DL.e_u10, DL.e_o11, DL.e_u11, DL.e_o12, DL.e_u12, DL.e_o0, DL.e_u0, DL.runP, DL.runN, DL.startD, List.map, List.length, List.replicate, List.append_nil, List.cons_append, List.nil_append, DL.e_bo, DL.e_be, DL.e_bb, DL.e_ao, DL.e_ae, DL.e_no, DL.e_nb, DL.e_cd, DL.e_cn, DL.e_ct, DL.e_co, DL.e_ce, DL.e_op, DL.e_if, DL.e_seq, DL.vOr, DL.vAnd, DL.vNot, DL.vTest, DL.vIsi, DL.vCall, DL.vCons, DL.vNil, DL.vConst, DL.vRet, DL.vNext, DL.vApp, DL.vNeg, DL.vChain, DL.vAndV, DL.vOrV, DL.vNotV, DL.vIf, ite_true, ite_false, if_true, if_false, Nat.reduceAdd, Nat.reduceSub, Nat.reduceEqDiff, reduceIte, Bool.true_and, Bool.and_true, Bool.not_true, Bool.not_false, Bool.false_eq_true, DL.endP, DL.endN, DL.cz2, DL.cz3, DL.cz4, DL.cz5, DL.cz6, DL.cz7, DL.cz8, DL.cz9, Int.natCast_add, Int.natCast_zero, Int.natCast_one, decide_true, decide_false, eq_self, not_true, not_false_eq_true, Bool.not_eq_true, DL.e_len_t, DL.e_len_l, DL.e_eq_ii, DL.e_ne_ii, DL.e_lt_ii, DL.e_le_ii, DL.e_gt_ii, DL.e_ge_ii, DL.e_ix_t0, DL.e_ix_t1, DL.e_ix_t2, DL.e_ix_t3, DL.e_ix_t4, DL.e_gcd, DL.p_none, DL.p_bool, DL.p_int, DL.p_str, DL.p_list, DL.p_tuple, DL.i_int_none, DL.i_int_bool, DL.i_int_int, DL.i_int_str, DL.i_int_list, DL.i_int_tuple, DL.i_bool_none, DL.i_bool_bool, DL.i_bool_int, DL.i_bool_str, DL.i_bool_list, DL.i_bool_tuple, DL.i_str_none, DL.i_str_bool, DL.i_str_int, DL.i_str_str, DL.i_str_list, DL.i_str_tuple, DL.i_tuple_none, DL.i_tuple_bool, DL.i_tuple_int, DL.i_tuple_str, DL.i_tuple_list, DL.i_tuple_tuple, DL.i_list_none, DL.i_list_bool, DL.i_list_int, DL.i_list_str, DL.i_list_list, DL.i_list_tuple, DL.e_v0, DL.e_t0, DL.e_s0_0, DL.e_s0_1, DL.e_s0_2, DL.e_v1, DL.e_t1, DL.e_s1_0, DL.e_s1_1, DL.e_s1_2, DL.e_s1_3, DL.e_v2, DL.e_t2, DL.e_s2_0, DL.e_s2_1, DL.e_s2_2, DL.e_s2_3, DL.e_v3, DL.e_t3, DL.e_s3_0, DL.e_s3_1, DL.e_s3_2, DL.e_s3_3, DL.e_v4, DL.e_t4, DL.e_s4_0, DL.e_s4_1, DL.e_s4_2, DL.e_s4_3, DL.e_v5, DL.e_t5, DL.e_s5_0, DL.e_s5_1, DL.e_s5_2, DL.e_s5_3, DL.e_v6, DL.e_t6, DL.e_s6_0, DL.e_s6_1, DL.e_s6_2, DL.e_s6_3, DL.e_v7, DL.e_t7, DL.e_s7_0, DL.e_s7_1, DL.e_s7_2, DL.e_s7_3]) (seq_nx (δ1 := fS K (.int i) (.tuple [t])) (by simp only [h1, h2, DL.e_g1, DL.e_g2, DL.e_g3, DL.e_g4, DL.e_g5, DL.e_g6, DL.e_g7, DL.e_g8, DL.e_w8, DL.e_g9, DL.e_w9, DL.e_g10, DL.e_w10, DL.e_g11, DL.e_w11, DL.e_g12, DL.e_w12, DL.e_o1, DL.e_u1, DL.e_o2, DL.e_u2, DL.e_o3, DL.e_u3, DL.e_o4, DL.e_u4, DL.e_o5, DL.e_u5, DL.e_o6, DL.e_u6, DL.e_o7, DL.e_u7, DL.e_o8, DL.e_u8, DL.e_o9, DL.e_u9, DL.e_o10, DL.e_u10, DL.e_o11, DL.e_u11, DL.e_o12, DL.e_u12, DL.e_o0, DL.e_u0, DL.runP, DL.runN, DL.startD, List.map, List.length, List.replicate, List.append_nil, List.cons_append, List.nil_append, DL.e_bo, DL.e_be, DL.e_bb, DL.e_ao, DL.e_ae, DL.e_no, DL.e_nb, DL.e_cd, DL.e_cn, DL.e_ct, DL.e_co, DL.e_ce, DL.e_op, DL.e_if, DL.e_seq, DL.vOr, DL.vAnd, DL.vNot, DL.vTest, DL.vIsi, DL.vCall, DL.vCons, DL.vNil, DL.vConst, DL.vRet, DL.vNext, DL.vApp, DL.vNeg, DL.vChain, DL.vAndV, DL.vOrV, DL.vNotV, DL.vIf, ite_true, ite_false, if_true, if_false, Nat.reduceAdd, Nat.reduceSub, Nat.reduceEqDiff, reduceIte, Bool.true_and, Bool.and_true, Bool.not_true, Bool.not_false, Bool.false_eq_true, DL.endP, DL.endN, DL.cz2, DL.cz3, DL.cz4, DL.cz5, DL.cz6, DL.cz7, DL.cz8, DL.cz9, Int.natCast_add, Int.natCast_zero, Int.natCast_one, decide_true, decide_false, eq_self, not_true, not_false_eq_true, Bool.not_eq_true, DL.e_len_t, DL.e_len_l, DL.e_eq_ii, DL.e_ne_ii, DL.e_lt_ii, DL.e_le_ii, DL.e_gt_ii, DL.e_ge_ii, DL.e_ix_t0, DL.e_ix_t1, DL.e_ix_t2, DL.e_ix_t3, DL.e_ix_t4, DL.e_gcd, DL.p_none, DL.p_bool, DL.p_int, DL.p_str, DL.p_list, DL.p_tuple, DL.i_int_none, DL.i_int_bool, DL.i_int_int, DL.i_int_str, DL.i_int_list, DL.i_int_tuple, DL.i_bool_none, DL.i_bool_bool, DL.i_bool_int, DL.i_bool_str, DL.i_bool_list, DL.i_bool_tuple, DL.i_str_none, DL.i_str_bool, DL.i_str_int, DL.i_str_str, DL.i_str_list, DL.i_str_tuple, DL.i_tuple_none, DL.i_tuple_bool, DL.i_tuple_int, DL.i_tuple_str, DL.i_tuple_list, DL.i_tuple_tuple, DL.i_list_none, DL.i_list_bool, DL.i_list_int, DL.i_list_str, DL.i_list_list, DL.i_list_tuple, DL.e_v0, DL.e_t0, DL.e_s0_0, DL.e_s0_1, DL.e_s0_2, DL.e_v1, DL.e_t1, DL.e_s1_0, DL.e_s1_1, DL.e_s1_2, DL.e_s1_3, DL.e_v2, DL.e_t2, DL.e_s2_0, DL.e_s2_1, DL.e_s2_2, DL.e_s2_3, DL.e_v3, DL.e_t3, DL.e_s3_0, DL.e_s3_1, DL.e_s3_2, DL.e_s3_3, DL.e_v4, DL.e_t4, DL.e_s4_0, DL.e_s4_1, DL.e_s4_2, DL.e_s4_3, DL.e_v5, DL.e_t5, DL.e_s5_0, DL.e_s5_1, DL.e_s5_2, DL.e_s5_3, DL.e_v6, DL.e_t6, DL.e_s6_0, DL.e_s6_1, DL.e_s6_2, DL.e_s6_3, DL.e_v7, DL.e_t7, DL.e_s7_0, DL.e_s7_1, DL.e_s7_2, DL.e_s7_3]) (seq_nx (δ1 := fS K (.int i) (.tuple [t])) (by simp only [l1, q1, q4, DL.e_g1, DL.e_g2, DL.e_g3, DL.e_g4, DL.e_g5, DL.e_g6, DL.e_g7, DL.e_g8, DL.e_w8, DL.e_g9, DL.e_w9, DL.e_g10, DL.e_w10, DL.e_g11, DL.e_w11, DL.e_g12, DL.e_w12, DL.e_o1, DL.e_u1, DL.e_o2, DL.e_u2, DL.e_o3, DL.e_u3, DL.e_o4, DL.e_u4, DL.e_o5, DL.e_u5, DL.e_o6, DL.e_u6, DL.e_o7, DL.e_u7, DL.e_o8, DL.e_u8, DL.e_o9, DL.e_u9, DL.e_o10, DL.e_u10, DL.e_o11, DL.e_u11, DL.e_o12, DL.e_u12, DL.e_o0, DL.e_u0, DL.runP, DL.runN, DL.startD, List.map, List.length, List.replicate, List.append_nil, List.cons_append, List.nil_append, DL.e_bo, DL.e_be, DL.e_bb, DL.e_ao, DL.e_ae, DL.e_no, DL.e_nb, DL.e_cd, DL.e_cn, DL.e_ct, DL.e_co, DL.e_ce, DL.e_op, DL.e_if, DL.e_seq, DL.vOr, DL.vAnd, DL.vNot, DL.vTest, DL.vIsi, DL.vCall, DL.vCons, DL.vNil, DL.vConst, DL.vRet, DL.vNext, DL.vApp, DL.vNeg, DL.vChain, DL.vAndV, DL.vOrV, DL.vNotV, DL.vIf, ite_true, ite_false, if_true, if_false, Nat.reduceAdd, Nat.reduceSub, Nat.reduceEqDiff, reduceIte, Bool.true_and, Bool.and_true, Bool.not_true, Bool.not_false, Bool.false_eq_true, DL.endP, DL.endN, DL.cz2, DL.cz3, DL.cz4, DL.cz5, DL.cz6, DL.cz7, DL.cz8, DL.cz9, Int.natCast_add, Int.natCast_zero, Int.natCast_one, decide_true, decide_false, eq_self, not_true, not_false_eq_true, Bool.not_eq_true, DL.e_len_t, DL.e_len_l, DL.e_eq_ii, DL.e_ne_ii, DL.e_lt_ii, DL.e_le_ii, DL.e_gt_ii, DL.e_ge_ii, DL.e_ix_t0, DL.e_ix_t1, DL.e_ix_t2, DL.e_ix_t3, DL.e_ix_t4, DL.e_gcd, DL.p_none, DL.p_bool, DL.p_int, DL.p_str, DL.p_list, DL.p_tuple, DL.i_int_none, DL.i_int_bool, DL.i_int_int, DL.i_int_str, DL.i_int_list, DL.i_int_tuple, DL.i_bool_none, DL.i_bool_bool, DL.i_bool_int, DL.i_bool_str, DL.i_bool_list, DL.i_bool_tuple, DL.i_str_none, DL.i_str_bool, DL.i_str_int, DL.i_str_str, DL.i_str_list, DL.i_str_tuple, DL.i_tuple_none, DL.i_tuple_bool, DL.i_tuple_int, DL.i_tuple_str, DL.i_tuple_list, DL.i_tuple_tuple, DL.i_list_none, DL.i_list_bool, DL.i_list_int, DL.i_list_str, DL.i_list_list, DL.i_list_tuple, DL.e_v0, DL.e_t0, DL.e_s0_0, DL.e_s0_1, DL.e_s0_2, DL.e_v1, DL.e_t1, DL.e_s1_0, DL.e_s1_1, DL.e_s1_2, DL.e_s1_3, DL.e_v2, DL.e_t2, DL.e_s2_0, DL.e_s2_1, DL.e_s2_2, DL.e_s2_3, DL.e_v3, DL.e_t3, DL.e_s3_0, DL.e_s3_1, DL.e_s3_2, DL.e_s3_3, DL.e_v4, DL.e_t4, DL.e_s4_0, DL.e_s4_1, DL.e_s4_2, DL.e_s4_3, DL.e_v5, DL.e_t5, DL.e_s5_0, DL.e_s5_1, DL.e_s5_2, DL.e_s5_3, DL.e_v6, DL.e_t6, DL.e_s6_0, DL.e_s6_1, DL.e_s6_2, DL.e_s6_3, DL.e_v7, DL.e_t7, DL.e_s7_0, DL.e_s7_1, DL.e_s7_2, DL.e_s7_3]) ?_)))
  have c := comp_pure (wi := vItems (vVar 3)) (g := wName 4) (t := vTrue) (f := vApp ph_is_tree (vCons (vVar 4) (vCons (vVar 1) (vCons (vVar 2) vNil)))) (vs := [4]) (δ := fS K (.int i) (.tuple [t])) (ds := [t]) (fun d => some (.bool false)) rfl rfl (sz (by simp)) fun d hd => by
    rw [List.mem_singleton.mp hd]
    refine ⟨[.d (.tuple [K, .int i, .tuple [t]]), .d K, .d (.int i), .d (.tuple [t]), .d t], rfl, true, [.d (.tuple [K, .int i, .tuple [t]]), .d K, .d (.int i), .d (.tuple [t]), .d t], rfl, rfl, [.d (.tuple [K, .int i, .tuple [t]]), .d K, .d (.int i), .d (.tuple [t]), .d t], ?_, rfl⟩
    simp only [ht, DL.e_g1, DL.e_g2, DL.e_g3, DL.e_g4, DL.e_g5, DL.e_g6, DL.e_g7, DL.e_g8, DL.e_w8, DL.e_g9, DL.e_w9, DL.e_g10, DL.e_w10, DL.e_g11, DL.e_w11, DL.e_g12, DL.e_w12, DL.e_o1, DL.e_u1, DL.e_o2, DL.e_u2, DL.e_o3, DL.e_u3, DL.e_o4, DL.e_u4, DL.e_o5, DL.e_u5, DL.e_o6, DL.e_u6, DL.e_o7, DL.e_u7, DL.e_o8, DL.e_u8, DL.e_o9, DL.e_u9, DL.e_o10, DL.e_u10, DL.e_o11, DL.e_u11, DL.e_o12, DL.e_u12, DL.e_o0, DL.e_u0, DL.runP, DL.runN, DL.startD, List.map, List.length, List.replicate, List.append_nil, List.cons_append, List.nil_append, DL.e_bo, DL.e_be, DL.e_bb, DL.e_ao, DL.e_ae, DL.e_no, DL.e_nb, DL.e_cd, DL.e_cn, DL.e_ct, DL.e_co, DL.e_ce, DL.e_op, DL.e_if, DL.e_seq, DL.vOr, DL.vAnd, DL.vNot, DL.vTest, DL.vIsi, DL.vCall, DL.vCons, DL.vNil, DL.vConst, DL.vRet, DL.vNext, DL.vApp, DL.vNeg, DL.vChain, DL.vAndV, DL.vOrV, DL.vNotV, DL.vIf, ite_true, ite_false, if_true, if_false, Nat.reduceAdd, Nat.reduceSub, Nat.reduceEqDiff, reduceIte, Bool.true_and, Bool.and_true, Bool.not_true, Bool.not_false, Bool.false_eq_true, DL.endP, DL.endN, DL.cz2, DL.cz3, DL.cz4, DL.cz5, DL.cz6, DL.cz7, DL.cz8, DL.cz9, Int.natCast_add, Int.natCast_zero, Int.natCast_one, decide_true, decide_false, eq_self, not_true, not_false_eq_true, Bool.not_eq_true, DL.e_len_t, DL.e_len_l, DL.e_eq_ii, DL.e_ne_ii, DL.e_lt_ii, DL.e_le_ii, DL.e_gt_ii, DL.e_ge_ii, DL.e_ix_t0, DL.e_ix_t1, DL.e_ix_t2, DL.e_ix_t3, DL.e_ix_t4, DL.e_gcd, DL.p_none, DL.p_bool, DL.p_int, DL.p_str, DL.p_list, DL.p_tuple, DL.i_int_none, DL.i_int_bool, DL.i_int_int, DL.i_int_str, DL.i_int_list, DL.i_int_tuple, DL.i_bool_none, DL.i_bool_bool, DL.i_bool_int, DL.i_bool_str, DL.i_bool_list, DL.i_bool_tuple, DL.i_str_none, DL.i_str_bool, DL.i_str_int, DL.i_str_str, DL.i_str_list, DL.i_str_tuple, DL.i_tuple_none, DL.i_tuple_bool, DL.i_tuple_int, DL.i_tuple_str, DL.i_tuple_list, DL.i_tuple_tuple, DL.i_list_none, DL.i_list_bool, DL.i_list_int, DL.i_list_str, DL.i_list_list, DL.i_list_tuple, DL.e_v0, DL.e_t0, DL.e_s0_0, DL.e_s0_1, DL.e_s0_2, DL.e_v1, DL.e_t1, DL.e_s1_0, DL.e_s1_1, DL.e_s1_2, DL.e_s1_3, DL.e_v2, DL.e_t2, DL.e_s2_0, DL.e_s2_1, DL.e_s2_2, DL.e_s2_3, DL.e_v3, DL.e_t3, DL.e_s3_0, DL.e_s3_1, DL.e_s3_2, DL.e_s3_3, DL.e_v4, DL.e_t4, DL.e_s4_0, DL.e_s4_1, DL.e_s4_2, DL.e_s4_3, DL.e_v5, DL.e_t5, DL.e_s5_0, DL.e_s5_1, DL.e_s5_2, DL.e_s5_3, DL.e_v6, DL.e_t6, DL.e_s6_0, DL.e_s6_1, DL.e_s6_2, DL.e_s6_3, DL.e_v7, DL.e_t7, DL.e_s7_0, DL.e_s7_1, DL.e_s7_2, DL.e_s7_3]
  have g : gAll [.list ([t].filterMap fun d => some (.bool false))] = .ok (.bool false) := rfl
  generalize [t].filterMap (fun d => some (PyData.bool false)) = q at c g
  unfold fS at c ⊢
  simp only [c, g, DL.e_g1, DL.e_g2, DL.e_g3, DL.e_g4, DL.e_g5, DL.e_g6, DL.e_g7, DL.e_g8, DL.e_w8, DL.e_g9, DL.e_w9, DL.e_g10, DL.e_w10, DL.e_g11, DL.e_w11, DL.e_g12, DL.e_w12, DL.e_o1, DL.e_u1, DL.e_o2, DL.e_u2, DL.e_o3, DL.e_u3, DL.e_o4, DL.e_u4, DL.e_o5, DL.e_u5, DL.e_o6, DL.e_u6, DL.e_o7, DL.e_u7, DL.e_o8, DL.e_u8, DL.e_o9, DL.e_u9, DL.e_o10, DL.e_u10, DL.e_o11, DL.e_u11, DL.e_o12, DL.e_u12, DL.e_o0, DL.e_u0, DL.runP, DL.runN, DL.startD, List.map, List.length, List.replicate, List.append_nil, List.cons_append, List.nil_append, DL.e_bo, DL.e_be, DL.e_bb, DL.e_ao, DL.e_ae, DL.e_no, DL.e_nb, DL.e_cd, DL.e_cn, DL.e_ct, DL.e_co, DL.e_ce, DL.e_op, DL.e_if, DL.e_seq, DL.vOr, DL.vAnd, DL.vNot, DL.vTest, DL.vIsi, DL.vCall, DL.vCons, DL.vNil, DL.vConst, DL.vRet, DL.vNext, DL.vApp, DL.vNeg, DL.vChain, DL.vAndV, DL.vOrV, DL.vNotV, DL.vIf, ite_true, ite_false, if_true, if_false, Nat.reduceAdd, Nat.reduceSub, Nat.reduceEqDiff, reduceIte, Bool.true_and, Bool.and_true, Bool.not_true, Bool.not_false, Bool.false_eq_true, DL.endP, DL.endN, DL.cz2, DL.cz3, DL.cz4, DL.cz5, DL.cz6, DL.cz7, DL.cz8, DL.cz9, Int.natCast_add, Int.natCast_zero, Int.natCast_one, decide_true, decide_false, eq_self, not_true, not_false_eq_true, Bool.not_eq_true, DL.e_len_t, DL.e_len_l, DL.e_eq_ii, DL.e_ne_ii, DL.e_lt_ii, DL.e_le_ii, DL.e_gt_ii, DL.e_ge_ii, DL.e_ix_t0, DL.e_ix_t1, DL.e_ix_t2, DL.e_ix_t3, DL.e_ix_t4, DL.e_gcd, DL.p_none, DL.p_bool, DL.p_int, DL.p_str, DL.p_list, DL.p_tuple, DL.i_int_none, DL.i_int_bool, DL.i_int_int, DL.i_int_str, DL.i_int_list, DL.i_int_tuple, DL.i_bool_none, DL.i_bool_bool, DL.i_bool_int, DL.i_bool_str, DL.i_bool_list, DL.i_bool_tuple, DL.i_str_none, DL.i_str_bool, DL.i_str_int, DL.i_str_str, DL.i_str_list, DL.i_str_tuple, DL.i_tuple_none, DL.i_tuple_bool, DL.i_tuple_int, DL.i_tuple_str, DL.i_tuple_list, DL.i_tuple_tuple, DL.i_list_none, DL.i_list_bool, DL.i_list_int, DL.i_list_str, DL.i_list_list, DL.i_list_tuple, DL.e_v0, DL.e_t0, DL.e_s0_0, DL.e_s0_1, DL.e_s0_2, DL.e_v1, DL.e_t1, DL.e_s1_0, DL.e_s1_1, DL.e_s1_2, DL.e_s1_3, DL.e_v2, DL.e_t2, DL.e_s2_0, DL.e_s2_1, DL.e_s2_2, DL.e_s2_3, DL.e_v3, DL.e_t3, DL.e_s3_0, DL.e_s3_1, DL.e_s3_2, DL.e_s3_3, DL.e_v4, DL.e_t4, DL.e_s4_0, DL.e_s4_1, DL.e_s4_2, DL.e_s4_3, DL.e_v5, DL.e_t5, DL.e_s5_0, DL.e_s5_1, DL.e_s5_2, DL.e_s5_3, DL.e_v6, DL.e_t6, DL.e_s6_0, DL.e_s6_1, DL.e_s6_2, DL.e_s6_3, DL.e_v7, DL.e_t7, DL.e_s7_0, DL.e_s7_1, DL.e_s7_2, DL.e_s7_3]
end
theorem all_noB {ds : List PyData} (h : (ds.all fun b => noB (ph_is_forest [b])) = true) : ∀ b ∈ ds, ph_is_forest [b] = .ok (.bool false) := fun b hb => noB_eq (List.all_eq_true.mp h b hb)
theorem bad_no {ks ts : List PyData} {ans : Int} (hF : ForestV ks ans ts) : ∃ B, ph__law_bad_forests [fT ks ans ts] = .ok (.list B) ∧ B.length ≤ 100 ∧ ∀ b ∈ B, ph_is_forest [b] = .ok (.bool false) := by
  have hk := m_is_kinds hF.sv hF.k1 hF.k3
  have mid : ∀ n : Nat, n = 2 ∨ n = 3 → (∀ b ∈ bd1 n ks ts, ph_is_forest [b] = .ok (.bool false)) → (∀ b ∈ bd2 n, ph_is_forest [b] = .ok (.bool false)) → (∀ t ∈ bdT n, ph_is_tree [t, .tuple ks, .int (n : Int)] = .ok (.bool false)) → (∀ b ∈ bd4 n, ph_is_forest [b] = .ok (.bool false)) → ∀ b ∈ badL n ks ts, ph_is_forest [b] = .ok (.bool false) := fun n hn h1 h2 hT h4 b hb => by
    have q1 : decide (2 ≤ (n : Int)) = true := decide_eq_true (by omega)
    have q2 : decide ((n : Int) ≤ 3) = true := decide_eq_true (by omega)
    unfold badL at hb
    rcases List.mem_append.mp hb with hb | hb
    · rcases List.mem_append.mp hb with hb | hb
      · rcases List.mem_append.mp hb with hb | hb
        · rcases List.mem_append.mp hb with hb | hb
          · exact h1 b hb
          · exact h2 b hb
        · simp only [bd3, List.mem_cons, List.not_mem_nil, or_false] at hb
          rcases hb with rfl | rfl | rfl | rfl | rfl | rfl
          · exact no_count hk (.inl (by decide))
          · exact no_count hk (.inr ⟨by decide, by decide⟩)
          · exact no_whole hk
          · exact no_trees hk q1 q2 (.inr ⟨_, rfl, .inl rfl⟩)
          · exact no_trees hk q1 q2 (.inr ⟨_, rfl, .inr rfl⟩)
          · exact no_trees hk q1 q2 (.inl ⟨rfl, i_tuple_list _⟩)
      · obtain ⟨t, ht, rfl⟩ := List.mem_map.mp hb
        exact no_tree hk q1 q2 (hT t ht)
    · exact h4 b hb
  rcases hF.an with rfl | rfl
  · exact ⟨_, bad_eq2 ks ts, by show 38 ≤ 100; decide, mid 2 (.inl rfl) (all_noB (bd1_no ks ts).1) (all_noB bd2_no.1) (fun t ht => noB_eq (List.all_eq_true.mp (bdT_no (.tuple ks)).1 t ht)) (all_noB bd4_no.1)⟩
  · exact ⟨_, bad_eq3 ks ts, by show 38 ≤ 100; decide, mid 3 (.inr rfl) (all_noB (bd1_no ks ts).2) (all_noB bd2_no.2) (fun t ht => noB_eq (List.all_eq_true.mp (bdT_no (.tuple ks)).2 t ht)) (all_noB bd4_no.2)⟩
/-! what a wrong forest meets -/
theorem bad_check {b : PyData} (h : ph_is_forest [b] = .ok (.bool false)) : ph_check_forest [b] = .err "InvalidForest" := by
  refine runP_at (r := .err "InvalidForest") rfl ?_ rfl
  show b_check_forest [.d b] = _
  unfold b_check_forest
  simp only [h, DL.e_g1, DL.e_g2, DL.e_g3, DL.e_g4, DL.e_g5, DL.e_g6, DL.e_g7, DL.e_g8, DL.e_w8, DL.e_g9, DL.e_w9, DL.e_g10, DL.e_w10, DL.e_g11, DL.e_w11, DL.e_g12, DL.e_w12, DL.e_o1, DL.e_u1, DL.e_o2, DL.e_u2, DL.e_o3, DL.e_u3, DL.e_o4, DL.e_u4, DL.e_o5, DL.e_u5, DL.e_o6, DL.e_u6, DL.e_o7, DL.e_u7, DL.e_o8, DL.e_u8, DL.e_o9, DL.e_u9, DL.e_o10, DL.e_u10, DL.e_o11, DL.e_u11, DL.e_o12, DL.e_u12, DL.e_o0, DL.e_u0, DL.runP, DL.runN, DL.startD, List.map, List.length, List.replicate, List.append_nil, List.cons_append, List.nil_append, DL.e_bo, DL.e_be, DL.e_bb, DL.e_ao, DL.e_ae, DL.e_no, DL.e_nb, DL.e_cd, DL.e_cn, DL.e_ct, DL.e_co, DL.e_ce, DL.e_op, DL.e_if, DL.e_seq, DL.vOr, DL.vAnd, DL.vNot, DL.vTest, DL.vIsi, DL.vCall, DL.vCons, DL.vNil, DL.vConst, DL.vRet, DL.vNext, DL.vApp, DL.vNeg, DL.vChain, DL.vAndV, DL.vOrV, DL.vNotV, DL.vIf, ite_true, ite_false, if_true, if_false, Nat.reduceAdd, Nat.reduceSub, Nat.reduceEqDiff, reduceIte, Bool.true_and, Bool.and_true, Bool.not_true, Bool.not_false, Bool.false_eq_true, DL.endP, DL.endN, DL.cz2, DL.cz3, DL.cz4, DL.cz5, DL.cz6, DL.cz7, DL.cz8, DL.cz9, Int.natCast_add, Int.natCast_zero, Int.natCast_one, decide_true, decide_false, eq_self, not_true, not_false_eq_true, Bool.not_eq_true, DL.e_len_t, DL.e_len_l, DL.e_eq_ii, DL.e_ne_ii, DL.e_lt_ii, DL.e_le_ii, DL.e_gt_ii, DL.e_ge_ii, DL.e_ix_t0, DL.e_ix_t1, DL.e_ix_t2, DL.e_ix_t3, DL.e_ix_t4, DL.e_gcd, DL.p_none, DL.p_bool, DL.p_int, DL.p_str, DL.p_list, DL.p_tuple, DL.i_int_none, DL.i_int_bool, DL.i_int_int, DL.i_int_str, DL.i_int_list, DL.i_int_tuple, DL.i_bool_none, DL.i_bool_bool, DL.i_bool_int, DL.i_bool_str, DL.i_bool_list, DL.i_bool_tuple, DL.i_str_none, DL.i_str_bool, DL.i_str_int, DL.i_str_str, DL.i_str_list, DL.i_str_tuple, DL.i_tuple_none, DL.i_tuple_bool, DL.i_tuple_int, DL.i_tuple_str, DL.i_tuple_list, DL.i_tuple_tuple, DL.i_list_none, DL.i_list_bool, DL.i_list_int, DL.i_list_str, DL.i_list_list, DL.i_list_tuple, DL.e_v0, DL.e_t0, DL.e_s0_0, DL.e_s0_1, DL.e_s0_2, DL.e_v1, DL.e_t1, DL.e_s1_0, DL.e_s1_1, DL.e_s1_2, DL.e_s1_3, DL.e_v2, DL.e_t2, DL.e_s2_0, DL.e_s2_1, DL.e_s2_2, DL.e_s2_3, DL.e_v3, DL.e_t3, DL.e_s3_0, DL.e_s3_1, DL.e_s3_2, DL.e_s3_3, DL.e_v4, DL.e_t4, DL.e_s4_0, DL.e_s4_1, DL.e_s4_2, DL.e_s4_3, DL.e_v5, DL.e_t5, DL.e_s5_0, DL.e_s5_1, DL.e_s5_2, DL.e_s5_3, DL.e_v6, DL.e_t6, DL.e_s6_0, DL.e_s6_1, DL.e_s6_2, DL.e_s6_3, DL.e_v7, DL.e_t7, DL.e_s7_0, DL.e_s7_1, DL.e_s7_2, DL.e_s7_3]
  rfl
theorem bad_count {b : PyData} (h : ph_is_forest [b] = .ok (.bool false)) : ph_count_leaves [b] = .err "InvalidForest" := by
  have c := bad_check h
  refine runP_at (r := .err "InvalidForest") rfl ?_ rfl
  show b_count_leaves [.d b, .no] = _
  unfold b_count_leaves
  refine seq_err ?_
  simp only [vDrop, c, DL.e_g1, DL.e_g2, DL.e_g3, DL.e_g4, DL.e_g5, DL.e_g6, DL.e_g7, DL.e_g8, DL.e_w8, DL.e_g9, DL.e_w9, DL.e_g10, DL.e_w10, DL.e_g11, DL.e_w11, DL.e_g12, DL.e_w12, DL.e_o1, DL.e_u1, DL.e_o2, DL.e_u2, DL.e_o3, DL.e_u3, DL.e_o4, DL.e_u4, DL.e_o5, DL.e_u5, DL.e_o6, DL.e_u6, DL.e_o7, DL.e_u7, DL.e_o8, DL.e_u8, DL.e_o9, DL.e_u9, DL.e_o10, DL.e_u10, DL.e_o11, DL.e_u11, DL.e_o12, DL.e_u12, DL.e_o0, DL.e_u0, DL.runP, DL.runN, DL.startD, List.map, List.length, List.replicate, List.append_nil, List.cons_append, List.nil_append, DL.e_bo, DL.e_be, DL.e_bb, DL.e_ao, DL.e_ae, DL.e_no, DL.e_nb, DL.e_cd, DL.e_cn, DL.e_ct, DL.e_co, DL.e_ce, DL.e_op, DL.e_if, DL.e_seq, DL.vOr, DL.vAnd, DL.vNot, DL.vTest, DL.vIsi, DL.vCall, DL.vCons, DL.vNil, DL.vConst, DL.vRet, DL.vNext, DL.vApp, DL.vNeg, DL.vChain, DL.vAndV, DL.vOrV, DL.vNotV, DL.vIf, ite_true, ite_false, if_true, if_false, Nat.reduceAdd, Nat.reduceSub, Nat.reduceEqDiff, reduceIte, Bool.true_and, Bool.and_true, Bool.not_true, Bool.not_false, Bool.false_eq_true, DL.endP, DL.endN, DL.cz2, DL.cz3, DL.cz4, DL.cz5, DL.cz6, DL.cz7, DL.cz8, DL.cz9, Int.natCast_add, Int.natCast_zero, Int.natCast_one, decide_true, decide_false, eq_self, not_true, not_false_eq_true, Bool.not_eq_true, DL.e_len_t, DL.e_len_l, DL.e_eq_ii, DL.e_ne_ii, DL.e_lt_ii, DL.e_le_ii, DL.e_gt_ii, DL.e_ge_ii, DL.e_ix_t0, DL.e_ix_t1, DL.e_ix_t2, DL.e_ix_t3, DL.e_ix_t4, DL.e_gcd, DL.p_none, DL.p_bool, DL.p_int, DL.p_str, DL.p_list, DL.p_tuple, DL.i_int_none, DL.i_int_bool, DL.i_int_int, DL.i_int_str, DL.i_int_list, DL.i_int_tuple, DL.i_bool_none, DL.i_bool_bool, DL.i_bool_int, DL.i_bool_str, DL.i_bool_list, DL.i_bool_tuple, DL.i_str_none, DL.i_str_bool, DL.i_str_int, DL.i_str_str, DL.i_str_list, DL.i_str_tuple, DL.i_tuple_none, DL.i_tuple_bool, DL.i_tuple_int, DL.i_tuple_str, DL.i_tuple_list, DL.i_tuple_tuple, DL.i_list_none, DL.i_list_bool, DL.i_list_int, DL.i_list_str, DL.i_list_list, DL.i_list_tuple, DL.e_v0, DL.e_t0, DL.e_s0_0, DL.e_s0_1, DL.e_s0_2, DL.e_v1, DL.e_t1, DL.e_s1_0, DL.e_s1_1, DL.e_s1_2, DL.e_s1_3, DL.e_v2, DL.e_t2, DL.e_s2_0, DL.e_s2_1, DL.e_s2_2, DL.e_s2_3, DL.e_v3, DL.e_t3, DL.e_s3_0, DL.e_s3_1, DL.e_s3_2, DL.e_s3_3, DL.e_v4, DL.e_t4, DL.e_s4_0, DL.e_s4_1, DL.e_s4_2, DL.e_s4_3, DL.e_v5, DL.e_t5, DL.e_s5_0, DL.e_s5_1, DL.e_s5_2, DL.e_s5_3, DL.e_v6, DL.e_t6, DL.e_s6_0, DL.e_s6_1, DL.e_s6_2, DL.e_s6_3, DL.e_v7, DL.e_t7, DL.e_s7_0, DL.e_s7_1, DL.e_s7_2, DL.e_s7_3]
theorem bad_form {b : PyData} (h : ph_is_forest [b] = .ok (.bool false)) : ph_votes_form [b] = .err "InvalidForest" := by
  have c := bad_check h
  refine runP_at (r := .err "InvalidForest") rfl ?_ rfl
  show b_votes_form [.d b] = _
  unfold b_votes_form
  refine seq_err ?_
  simp only [vDrop, c, DL.e_g1, DL.e_g2, DL.e_g3, DL.e_g4, DL.e_g5, DL.e_g6, DL.e_g7, DL.e_g8, DL.e_w8, DL.e_g9, DL.e_w9, DL.e_g10, DL.e_w10, DL.e_g11, DL.e_w11, DL.e_g12, DL.e_w12, DL.e_o1, DL.e_u1, DL.e_o2, DL.e_u2, DL.e_o3, DL.e_u3, DL.e_o4, DL.e_u4, DL.e_o5, DL.e_u5, DL.e_o6, DL.e_u6, DL.e_o7, DL.e_u7, DL.e_o8, DL.e_u8, DL.e_o9, DL.e_u9, DL.e_o10, DL.e_u10, DL.e_o11, DL.e_u11, DL.e_o12, DL.e_u12, DL.e_o0, DL.e_u0, DL.runP, DL.runN, DL.startD, List.map, List.length, List.replicate, List.append_nil, List.cons_append, List.nil_append, DL.e_bo, DL.e_be, DL.e_bb, DL.e_ao, DL.e_ae, DL.e_no, DL.e_nb, DL.e_cd, DL.e_cn, DL.e_ct, DL.e_co, DL.e_ce, DL.e_op, DL.e_if, DL.e_seq, DL.vOr, DL.vAnd, DL.vNot, DL.vTest, DL.vIsi, DL.vCall, DL.vCons, DL.vNil, DL.vConst, DL.vRet, DL.vNext, DL.vApp, DL.vNeg, DL.vChain, DL.vAndV, DL.vOrV, DL.vNotV, DL.vIf, ite_true, ite_false, if_true, if_false, Nat.reduceAdd, Nat.reduceSub, Nat.reduceEqDiff, reduceIte, Bool.true_and, Bool.and_true, Bool.not_true, Bool.not_false, Bool.false_eq_true, DL.endP, DL.endN, DL.cz2, DL.cz3, DL.cz4, DL.cz5, DL.cz6, DL.cz7, DL.cz8, DL.cz9, Int.natCast_add, Int.natCast_zero, Int.natCast_one, decide_true, decide_false, eq_self, not_true, not_false_eq_true, Bool.not_eq_true, DL.e_len_t, DL.e_len_l, DL.e_eq_ii, DL.e_ne_ii, DL.e_lt_ii, DL.e_le_ii, DL.e_gt_ii, DL.e_ge_ii, DL.e_ix_t0, DL.e_ix_t1, DL.e_ix_t2, DL.e_ix_t3, DL.e_ix_t4, DL.e_gcd, DL.p_none, DL.p_bool, DL.p_int, DL.p_str, DL.p_list, DL.p_tuple, DL.i_int_none, DL.i_int_bool, DL.i_int_int, DL.i_int_str, DL.i_int_list, DL.i_int_tuple, DL.i_bool_none, DL.i_bool_bool, DL.i_bool_int, DL.i_bool_str, DL.i_bool_list, DL.i_bool_tuple, DL.i_str_none, DL.i_str_bool, DL.i_str_int, DL.i_str_str, DL.i_str_list, DL.i_str_tuple, DL.i_tuple_none, DL.i_tuple_bool, DL.i_tuple_int, DL.i_tuple_str, DL.i_tuple_list, DL.i_tuple_tuple, DL.i_list_none, DL.i_list_bool, DL.i_list_int, DL.i_list_str, DL.i_list_list, DL.i_list_tuple, DL.e_v0, DL.e_t0, DL.e_s0_0, DL.e_s0_1, DL.e_s0_2, DL.e_v1, DL.e_t1, DL.e_s1_0, DL.e_s1_1, DL.e_s1_2, DL.e_s1_3, DL.e_v2, DL.e_t2, DL.e_s2_0, DL.e_s2_1, DL.e_s2_2, DL.e_s2_3, DL.e_v3, DL.e_t3, DL.e_s3_0, DL.e_s3_1, DL.e_s3_2, DL.e_s3_3, DL.e_v4, DL.e_t4, DL.e_s4_0, DL.e_s4_1, DL.e_s4_2, DL.e_s4_3, DL.e_v5, DL.e_t5, DL.e_s5_0, DL.e_s5_1, DL.e_s5_2, DL.e_s5_3, DL.e_v6, DL.e_t6, DL.e_s6_0, DL.e_s6_1, DL.e_s6_2, DL.e_s6_3, DL.e_v7, DL.e_t7, DL.e_s7_0, DL.e_s7_1, DL.e_s7_2, DL.e_s7_3]
/-! the leaves, counted -/
theorem ee1 : gEq (.str "leaf") (.str "leaf") = .ok (.bool true) := by kernel_rfl
theorem Bd.eleaf {k w b : PyData} (h : Bd k w b) : gEq w (.str "leaf") = .ok (.bool false) := by
  rcases h with ⟨_, rfl, _⟩ | ⟨_, _, _, rfl, _⟩ <;> kernel_rfl
theorem m_tests {ks : List PyData} {ans : Int} : ∀ (n c : Nat) (t : PyData), TreeV ks ans c t → c ≤ n → c ≤ 100 → ∃ L, ph__law_tests n [t] = .ok (.list L) ∧ L.length + 1 = c
  | 0, c, t, h, hn, _ => by have := h.pos; omega
  | n + 1, _, _, .leafC vs hv, _, _ => by
    have z0 : 0 ≤ sizeLine := Nat.zero_le _
    refine ⟨[], runP_at (r := .ok (.rt (.list []), [.d (.tuple [.str "leaf", .tuple vs])])) rfl ?_ rfl, rfl⟩
    show b__law_tests (ph__law_tests n) [.d (.tuple [.str "leaf", .tuple vs])] = _
    unfold b__law_tests
    refine seq_rt ?_
    simp only [ee1, vLst, z0, DL.e_g1, DL.e_g2, DL.e_g3, DL.e_g4, DL.e_g5, DL.e_g6, DL.e_g7, DL.e_g8, DL.e_w8, DL.e_g9, DL.e_w9, DL.e_g10, DL.e_w10, DL.e_g11, DL.e_w11, DL.e_g12, DL.e_w12, DL.e_o1, DL.e_u1, DL.e_o2, DL.e_u2, DL.e_o3, DL.e_u3, DL.e_o4, DL.e_u4, DL.e_o5, DL.e_u5, DL.e_o6, DL.e_u6, DL.e_o7, DL.e_u7, DL.e_o8, DL.e_u8, DL.e_o9, DL.e_u9, DL.e_o10, DL.e_u10, DL.e_o11, DL.e_u11, DL.e_o12, DL.e_u12, DL.e_o0, DL.e_u0, DL.runP, DL.runN, DL.startD, List.map, List.length, List.replicate, List.append_nil, List.cons_append, List.nil_append, DL.e_bo, DL.e_be, DL.e_bb, DL.e_ao, DL.e_ae, DL.e_no, DL.e_nb, DL.e_cd, DL.e_cn, DL.e_ct, DL.e_co, DL.e_ce, DL.e_op, DL.e_if, DL.e_seq, DL.vOr, DL.vAnd, DL.vNot, DL.vTest, DL.vIsi, DL.vCall, DL.vCons, DL.vNil, DL.vConst, DL.vRet, DL.vNext, DL.vApp, DL.vNeg, DL.vChain, DL.vAndV, DL.vOrV, DL.vNotV, DL.vIf, ite_true, ite_false, if_true, if_false, Nat.reduceAdd, Nat.reduceSub, Nat.reduceEqDiff, reduceIte, Bool.true_and, Bool.and_true, Bool.not_true, Bool.not_false, Bool.false_eq_true, DL.endP, DL.endN, DL.cz2, DL.cz3, DL.cz4, DL.cz5, DL.cz6, DL.cz7, DL.cz8, DL.cz9, Int.natCast_add, Int.natCast_zero, Int.natCast_one, decide_true, decide_false, eq_self, not_true, not_false_eq_true, Bool.not_eq_true, DL.e_len_t, DL.e_len_l, DL.e_eq_ii, DL.e_ne_ii, DL.e_lt_ii, DL.e_le_ii, DL.e_gt_ii, DL.e_ge_ii, DL.e_ix_t0, DL.e_ix_t1, DL.e_ix_t2, DL.e_ix_t3, DL.e_ix_t4, DL.e_gcd, DL.p_none, DL.p_bool, DL.p_int, DL.p_str, DL.p_list, DL.p_tuple, DL.i_int_none, DL.i_int_bool, DL.i_int_int, DL.i_int_str, DL.i_int_list, DL.i_int_tuple, DL.i_bool_none, DL.i_bool_bool, DL.i_bool_int, DL.i_bool_str, DL.i_bool_list, DL.i_bool_tuple, DL.i_str_none, DL.i_str_bool, DL.i_str_int, DL.i_str_str, DL.i_str_list, DL.i_str_tuple, DL.i_tuple_none, DL.i_tuple_bool, DL.i_tuple_int, DL.i_tuple_str, DL.i_tuple_list, DL.i_tuple_tuple, DL.i_list_none, DL.i_list_bool, DL.i_list_int, DL.i_list_str, DL.i_list_list, DL.i_list_tuple, DL.e_v0, DL.e_t0, DL.e_s0_0, DL.e_s0_1, DL.e_s0_2, DL.e_v1, DL.e_t1, DL.e_s1_0, DL.e_s1_1, DL.e_s1_2, DL.e_s1_3, DL.e_v2, DL.e_t2, DL.e_s2_0, DL.e_s2_1, DL.e_s2_2, DL.e_s2_3, DL.e_v3, DL.e_t3, DL.e_s3_0, DL.e_s3_1, DL.e_s3_2, DL.e_s3_3, DL.e_v4, DL.e_t4, DL.e_s4_0, DL.e_s4_1, DL.e_s4_2, DL.e_s4_3, DL.e_v5, DL.e_t5, DL.e_s5_0, DL.e_s5_1, DL.e_s5_2, DL.e_s5_3, DL.e_v6, DL.e_t6, DL.e_s6_0, DL.e_s6_1, DL.e_s6_2, DL.e_s6_3, DL.e_v7, DL.e_t7, DL.e_s7_0, DL.e_s7_1, DL.e_s7_2, DL.e_s7_3]
  | n + 1, _, _, .testC w k b x y p c d h0 h1 hk hb hx hy, hn, hc => by
    have cx := hx.pos
    have cy := hy.pos
    obtain ⟨L1, e1, l1⟩ := m_tests n c x hx (by omega) (by omega)
    obtain ⟨L2, e2, l2⟩ := m_tests n d y hy (by omega) (by omega)
    have e := hb.eleaf
    have s1 : 1 ≤ sizeLine := sz (by decide)
    have s2 : 2 ≤ sizeLine := sz (by decide)
    have a1 : gAdd (.list [.tuple [.int p, b]]) (.list L1) = .ok (.list ([.tuple [.int p, b]] ++ L1)) := if_pos (e := Res.bad) (sz (by simp only [List.length]; omega))
    have a2 : gAdd (.list ([.tuple [.int p, b]] ++ L1)) (.list L2) = .ok (.list ([.tuple [.int p, b]] ++ L1 ++ L2)) := if_pos (e := Res.bad) (sz (by rw [List.length_append]; simp only [List.length]; omega))
    refine ⟨[.tuple [.int p, b]] ++ L1 ++ L2, ?_, by rw [List.length_append, List.length_append]; simp only [List.length]; omega⟩
    generalize [PyData.tuple [.int p, b]] ++ L1 ++ L2 = M at a2
    generalize hM : [PyData.tuple [.int p, b]] ++ L1 = M1 at a1 a2
    refine runP_at (r := .ok (.rt (.list M), [.d (.tuple [w, .int p, b, x, y])])) rfl ?_ rfl
    show b__law_tests (ph__law_tests n) [.d (.tuple [w, .int p, b, x, y])] = _
    unfold b__law_tests
    refine seq_nx (δ1 := [.d (.tuple [w, .int p, b, x, y])]) (by simp only [e, DL.e_g1, DL.e_g2, DL.e_g3, DL.e_g4, DL.e_g5, DL.e_g6, DL.e_g7, DL.e_g8, DL.e_w8, DL.e_g9, DL.e_w9, DL.e_g10, DL.e_w10, DL.e_g11, DL.e_w11, DL.e_g12, DL.e_w12, DL.e_o1, DL.e_u1, DL.e_o2, DL.e_u2, DL.e_o3, DL.e_u3, DL.e_o4, DL.e_u4, DL.e_o5, DL.e_u5, DL.e_o6, DL.e_u6, DL.e_o7, DL.e_u7, DL.e_o8, DL.e_u8, DL.e_o9, DL.e_u9, DL.e_o10, DL.e_u10, DL.e_o11, DL.e_u11, DL.e_o12, DL.e_u12, DL.e_o0, DL.e_u0, DL.runP, DL.runN, DL.startD, List.map, List.length, List.replicate, List.append_nil, List.cons_append, List.nil_append, DL.e_bo, DL.e_be, DL.e_bb, DL.e_ao, DL.e_ae, DL.e_no, DL.e_nb, DL.e_cd, DL.e_cn, DL.e_ct, DL.e_co, DL.e_ce, DL.e_op, DL.e_if, DL.e_seq, DL.vOr, DL.vAnd, DL.vNot, DL.vTest, DL.vIsi, DL.vCall, DL.vCons, DL.vNil, DL.vConst, DL.vRet, DL.vNext, DL.vApp, DL.vNeg, DL.vChain, DL.vAndV, DL.vOrV, DL.vNotV, DL.vIf, ite_true, ite_false, if_true, if_false, Nat.reduceAdd, Nat.reduceSub, Nat.reduceEqDiff, reduceIte, Bool.true_and, Bool.and_true, Bool.not_true, Bool.not_false, Bool.false_eq_true, DL.endP, DL.endN, DL.cz2, DL.cz3, DL.cz4, DL.cz5, DL.cz6, DL.cz7, DL.cz8, DL.cz9, Int.natCast_add, Int.natCast_zero, Int.natCast_one, decide_true, decide_false, eq_self, not_true, not_false_eq_true, Bool.not_eq_true, DL.e_len_t, DL.e_len_l, DL.e_eq_ii, DL.e_ne_ii, DL.e_lt_ii, DL.e_le_ii, DL.e_gt_ii, DL.e_ge_ii, DL.e_ix_t0, DL.e_ix_t1, DL.e_ix_t2, DL.e_ix_t3, DL.e_ix_t4, DL.e_gcd, DL.p_none, DL.p_bool, DL.p_int, DL.p_str, DL.p_list, DL.p_tuple, DL.i_int_none, DL.i_int_bool, DL.i_int_int, DL.i_int_str, DL.i_int_list, DL.i_int_tuple, DL.i_bool_none, DL.i_bool_bool, DL.i_bool_int, DL.i_bool_str, DL.i_bool_list, DL.i_bool_tuple, DL.i_str_none, DL.i_str_bool, DL.i_str_int, DL.i_str_str, DL.i_str_list, DL.i_str_tuple, DL.i_tuple_none, DL.i_tuple_bool, DL.i_tuple_int, DL.i_tuple_str, DL.i_tuple_list, DL.i_tuple_tuple, DL.i_list_none, DL.i_list_bool, DL.i_list_int, DL.i_list_str, DL.i_list_list, DL.i_list_tuple, DL.e_v0, DL.e_t0, DL.e_s0_0, DL.e_s0_1, DL.e_s0_2, DL.e_v1, DL.e_t1, DL.e_s1_0, DL.e_s1_1, DL.e_s1_2, DL.e_s1_3, DL.e_v2, DL.e_t2, DL.e_s2_0, DL.e_s2_1, DL.e_s2_2, DL.e_s2_3, DL.e_v3, DL.e_t3, DL.e_s3_0, DL.e_s3_1, DL.e_s3_2, DL.e_s3_3, DL.e_v4, DL.e_t4, DL.e_s4_0, DL.e_s4_1, DL.e_s4_2, DL.e_s4_3, DL.e_v5, DL.e_t5, DL.e_s5_0, DL.e_s5_1, DL.e_s5_2, DL.e_s5_3, DL.e_v6, DL.e_t6, DL.e_s6_0, DL.e_s6_1, DL.e_s6_2, DL.e_s6_3, DL.e_v7, DL.e_t7, DL.e_s7_0, DL.e_s7_1, DL.e_s7_2, DL.e_s7_3]) ?_
    simp only [vLst, vTup, s1, s2, e1, a1, e2, a2, DL.e_g1, DL.e_g2, DL.e_g3, DL.e_g4, DL.e_g5, DL.e_g6, DL.e_g7, DL.e_g8, DL.e_w8, DL.e_g9, DL.e_w9, DL.e_g10, DL.e_w10, DL.e_g11, DL.e_w11, DL.e_g12, DL.e_w12, DL.e_o1, DL.e_u1, DL.e_o2, DL.e_u2, DL.e_o3, DL.e_u3, DL.e_o4, DL.e_u4, DL.e_o5, DL.e_u5, DL.e_o6, DL.e_u6, DL.e_o7, DL.e_u7, DL.e_o8, DL.e_u8, DL.e_o9, DL.e_u9, DL.e_o10, DL.e_u10, DL.e_o11, DL.e_u11, DL.e_o12, DL.e_u12, DL.e_o0, DL.e_u0, DL.runP, DL.runN, DL.startD, List.map, List.length, List.replicate, List.append_nil, List.cons_append, List.nil_append, DL.e_bo, DL.e_be, DL.e_bb, DL.e_ao, DL.e_ae, DL.e_no, DL.e_nb, DL.e_cd, DL.e_cn, DL.e_ct, DL.e_co, DL.e_ce, DL.e_op, DL.e_if, DL.e_seq, DL.vOr, DL.vAnd, DL.vNot, DL.vTest, DL.vIsi, DL.vCall, DL.vCons, DL.vNil, DL.vConst, DL.vRet, DL.vNext, DL.vApp, DL.vNeg, DL.vChain, DL.vAndV, DL.vOrV, DL.vNotV, DL.vIf, ite_true, ite_false, if_true, if_false, Nat.reduceAdd, Nat.reduceSub, Nat.reduceEqDiff, reduceIte, Bool.true_and, Bool.and_true, Bool.not_true, Bool.not_false, Bool.false_eq_true, DL.endP, DL.endN, DL.cz2, DL.cz3, DL.cz4, DL.cz5, DL.cz6, DL.cz7, DL.cz8, DL.cz9, Int.natCast_add, Int.natCast_zero, Int.natCast_one, decide_true, decide_false, eq_self, not_true, not_false_eq_true, Bool.not_eq_true, DL.e_len_t, DL.e_len_l, DL.e_eq_ii, DL.e_ne_ii, DL.e_lt_ii, DL.e_le_ii, DL.e_gt_ii, DL.e_ge_ii, DL.e_ix_t0, DL.e_ix_t1, DL.e_ix_t2, DL.e_ix_t3, DL.e_ix_t4, DL.e_gcd, DL.p_none, DL.p_bool, DL.p_int, DL.p_str, DL.p_list, DL.p_tuple, DL.i_int_none, DL.i_int_bool, DL.i_int_int, DL.i_int_str, DL.i_int_list, DL.i_int_tuple, DL.i_bool_none, DL.i_bool_bool, DL.i_bool_int, DL.i_bool_str, DL.i_bool_list, DL.i_bool_tuple, DL.i_str_none, DL.i_str_bool, DL.i_str_int, DL.i_str_str, DL.i_str_list, DL.i_str_tuple, DL.i_tuple_none, DL.i_tuple_bool, DL.i_tuple_int, DL.i_tuple_str, DL.i_tuple_list, DL.i_tuple_tuple, DL.i_list_none, DL.i_list_bool, DL.i_list_int, DL.i_list_str, DL.i_list_list, DL.i_list_tuple, DL.e_v0, DL.e_t0, DL.e_s0_0, DL.e_s0_1, DL.e_s0_2, DL.e_v1, DL.e_t1, DL.e_s1_0, DL.e_s1_1, DL.e_s1_2, DL.e_s1_3, DL.e_v2, DL.e_t2, DL.e_s2_0, DL.e_s2_1, DL.e_s2_2, DL.e_s2_3, DL.e_v3, DL.e_t3, DL.e_s3_0, DL.e_s3_1, DL.e_s3_2, DL.e_s3_3, DL.e_v4, DL.e_t4, DL.e_s4_0, DL.e_s4_1, DL.e_s4_2, DL.e_s4_3, DL.e_v5, DL.e_t5, DL.e_s5_0, DL.e_s5_1, DL.e_s5_2, DL.e_s5_3, DL.e_v6, DL.e_t6, DL.e_s6_0, DL.e_s6_1, DL.e_s6_2, DL.e_s6_3, DL.e_v7, DL.e_t7, DL.e_s7_0, DL.e_s7_1, DL.e_s7_2, DL.e_s7_3]
/-- how many leaves each tree has -/
inductive Cnt : List PyData → List Int → Prop
  | nil : Cnt [] []
  | cons {t : PyData} {ts : List PyData} {c : Int} {cs : List Int} (h1 : ph_leaves_of 9 [t] = .ok (.int c)) (h2 : ∃ L, ph__law_tests 9 [t] = .ok (.list L) ∧ (L.length : Int) + 1 = c) (r : Cnt ts cs) : Cnt (t :: ts) (c :: cs)
theorem cnt_of {ks : List PyData} {ans : Int} : ∀ ts : List PyData, (∀ t ∈ ts, ∃ c, TreeV ks ans c t ∧ 1 ≤ c ∧ c ≤ 8) → ∃ cs, Cnt ts cs
  | [], _ => ⟨[], .nil⟩
  | t :: ts, h => by
    obtain ⟨cs, hr⟩ := cnt_of ts fun x hx => h x (List.mem_cons_of_mem _ hx)
    obtain ⟨c, hc, _, h8⟩ := h t List.mem_cons_self
    obtain ⟨L, e, l⟩ := m_tests 9 c t hc (by omega) (by omega)
    exact ⟨(c : Int) :: cs, .cons (m_leaves 9 c t hc (by omega)) ⟨L, e, by omega⟩ hr⟩
def rB (d : PyData) : Option PyData := match ph_leaves_of 9 [d] with
  | .ok y => some y
  | _ => none
theorem Cnt.map {ts : List PyData} {cs : List Int} (h : Cnt ts cs) : ts.filterMap rB = cs.map .int := by
  induction h with
  | nil => rfl
  | cons h1 _ _ ih =>
    rw [List.filterMap_cons]
    unfold rB at ih ⊢
    rw [h1]
    dsimp only
    rw [ih, List.map_cons]
theorem Cnt.each {ts : List PyData} {cs : List Int} (h : Cnt ts cs) : ∀ t ∈ ts, ∃ c : Int, ph_leaves_of 9 [t] = .ok (.int c) ∧ ∃ L, ph__law_tests 9 [t] = .ok (.list L) ∧ (L.length : Int) + 1 = c := by
  induction h with
  | nil => intro t z; simp at z
  | cons h1 h2 _ ih =>
    intro t z
    rcases List.mem_cons.mp z with rfl | z
    · exact ⟨_, h1, h2⟩
    · exact ih t z
theorem sum_ints (cs : List Int) : gSum [.list (cs.map .int)] = .ok (.int cs.sum) := by
  show (match intsOf (cs.map PyData.int) with | some ns => Res.ok (PyData.int ns.sum) | none => .bad) = _
  rw [intsOf_map] <;> rfl
theorem check_ok {ks ts : List PyData} {ans : Int} (h : ForestV ks ans ts) : ph_check_forest [fT ks ans ts] = .ok .none := by
  have f := m_is_forest h
  refine runP_at (r := .ok (.nx, [.d (fT ks ans ts)])) rfl ?_ rfl
  show b_check_forest [.d (fT ks ans ts)] = _
  unfold b_check_forest
  simp only [f, DL.e_g1, DL.e_g2, DL.e_g3, DL.e_g4, DL.e_g5, DL.e_g6, DL.e_g7, DL.e_g8, DL.e_w8, DL.e_g9, DL.e_w9, DL.e_g10, DL.e_w10, DL.e_g11, DL.e_w11, DL.e_g12, DL.e_w12, DL.e_o1, DL.e_u1, DL.e_o2, DL.e_u2, DL.e_o3, DL.e_u3, DL.e_o4, DL.e_u4, DL.e_o5, DL.e_u5, DL.e_o6, DL.e_u6, DL.e_o7, DL.e_u7, DL.e_o8, DL.e_u8, DL.e_o9, DL.e_u9, DL.e_o10, DL.e_u10, DL.e_o11, DL.e_u11, DL.e_o12, DL.e_u12, DL.e_o0, DL.e_u0, DL.runP, DL.runN, DL.startD, List.map, List.length, List.replicate, List.append_nil, List.cons_append, List.nil_append, DL.e_bo, DL.e_be, DL.e_bb, DL.e_ao, DL.e_ae, DL.e_no, DL.e_nb, DL.e_cd, DL.e_cn, DL.e_ct, DL.e_co, DL.e_ce, DL.e_op, DL.e_if, DL.e_seq, DL.vOr, DL.vAnd, DL.vNot, DL.vTest, DL.vIsi, DL.vCall, DL.vCons, DL.vNil, DL.vConst, DL.vRet, DL.vNext, DL.vApp, DL.vNeg, DL.vChain, DL.vAndV, DL.vOrV, DL.vNotV, DL.vIf, ite_true, ite_false, if_true, if_false, Nat.reduceAdd, Nat.reduceSub, Nat.reduceEqDiff, reduceIte, Bool.true_and, Bool.and_true, Bool.not_true, Bool.not_false, Bool.false_eq_true, DL.endP, DL.endN, DL.cz2, DL.cz3, DL.cz4, DL.cz5, DL.cz6, DL.cz7, DL.cz8, DL.cz9, Int.natCast_add, Int.natCast_zero, Int.natCast_one, decide_true, decide_false, eq_self, not_true, not_false_eq_true, Bool.not_eq_true, DL.e_len_t, DL.e_len_l, DL.e_eq_ii, DL.e_ne_ii, DL.e_lt_ii, DL.e_le_ii, DL.e_gt_ii, DL.e_ge_ii, DL.e_ix_t0, DL.e_ix_t1, DL.e_ix_t2, DL.e_ix_t3, DL.e_ix_t4, DL.e_gcd, DL.p_none, DL.p_bool, DL.p_int, DL.p_str, DL.p_list, DL.p_tuple, DL.i_int_none, DL.i_int_bool, DL.i_int_int, DL.i_int_str, DL.i_int_list, DL.i_int_tuple, DL.i_bool_none, DL.i_bool_bool, DL.i_bool_int, DL.i_bool_str, DL.i_bool_list, DL.i_bool_tuple, DL.i_str_none, DL.i_str_bool, DL.i_str_int, DL.i_str_str, DL.i_str_list, DL.i_str_tuple, DL.i_tuple_none, DL.i_tuple_bool, DL.i_tuple_int, DL.i_tuple_str, DL.i_tuple_list, DL.i_tuple_tuple, DL.i_list_none, DL.i_list_bool, DL.i_list_int, DL.i_list_str, DL.i_list_list, DL.i_list_tuple, DL.e_v0, DL.e_t0, DL.e_s0_0, DL.e_s0_1, DL.e_s0_2, DL.e_v1, DL.e_t1, DL.e_s1_0, DL.e_s1_1, DL.e_s1_2, DL.e_s1_3, DL.e_v2, DL.e_t2, DL.e_s2_0, DL.e_s2_1, DL.e_s2_2, DL.e_s2_3, DL.e_v3, DL.e_t3, DL.e_s3_0, DL.e_s3_1, DL.e_s3_2, DL.e_s3_3, DL.e_v4, DL.e_t4, DL.e_s4_0, DL.e_s4_1, DL.e_s4_2, DL.e_s4_3, DL.e_v5, DL.e_t5, DL.e_s5_0, DL.e_s5_1, DL.e_s5_2, DL.e_s5_3, DL.e_v6, DL.e_t6, DL.e_s6_0, DL.e_s6_1, DL.e_s6_2, DL.e_s6_3, DL.e_v7, DL.e_t7, DL.e_s7_0, DL.e_s7_1, DL.e_s7_2, DL.e_s7_3]
theorem m_count {ks ts : List PyData} {ans : Int} (hF : ForestV ks ans ts) {cs : List Int} (h : Cnt ts cs) : ph_count_leaves [fT ks ans ts] = .ok (.int cs.sum) := by
  have ck := check_ok hF
  have t4 := hF.t4
  have s := sum_ints cs
  have c := comp_pure (wi := vItems (vOp gIx (vVar 0) (vConst (.int 2)))) (g := wName 1) (t := vTrue) (f := vApp (ph_leaves_of 9) (vCons (vVar 1) vNil)) (vs := [1]) (δ := [.d (fT ks ans ts), .no]) (ds := ts) rB rfl rfl (sz (by omega)) fun d hd => by
    obtain ⟨c, hc, _⟩ := h.each d hd
    have e : rB d = some (.int c) := by unfold rB; rw [hc]
    rw [e]
    refine ⟨[.d (fT ks ans ts), .d d], rfl, true, [.d (fT ks ans ts), .d d], rfl, rfl, [.d (fT ks ans ts), .d d], ?_, rfl⟩
    simp only [hc, DL.e_g1, DL.e_g2, DL.e_g3, DL.e_g4, DL.e_g5, DL.e_g6, DL.e_g7, DL.e_g8, DL.e_w8, DL.e_g9, DL.e_w9, DL.e_g10, DL.e_w10, DL.e_g11, DL.e_w11, DL.e_g12, DL.e_w12, DL.e_o1, DL.e_u1, DL.e_o2, DL.e_u2, DL.e_o3, DL.e_u3, DL.e_o4, DL.e_u4, DL.e_o5, DL.e_u5, DL.e_o6, DL.e_u6, DL.e_o7, DL.e_u7, DL.e_o8, DL.e_u8, DL.e_o9, DL.e_u9, DL.e_o10, DL.e_u10, DL.e_o11, DL.e_u11, DL.e_o12, DL.e_u12, DL.e_o0, DL.e_u0, DL.runP, DL.runN, DL.startD, List.map, List.length, List.replicate, List.append_nil, List.cons_append, List.nil_append, DL.e_bo, DL.e_be, DL.e_bb, DL.e_ao, DL.e_ae, DL.e_no, DL.e_nb, DL.e_cd, DL.e_cn, DL.e_ct, DL.e_co, DL.e_ce, DL.e_op, DL.e_if, DL.e_seq, DL.vOr, DL.vAnd, DL.vNot, DL.vTest, DL.vIsi, DL.vCall, DL.vCons, DL.vNil, DL.vConst, DL.vRet, DL.vNext, DL.vApp, DL.vNeg, DL.vChain, DL.vAndV, DL.vOrV, DL.vNotV, DL.vIf, ite_true, ite_false, if_true, if_false, Nat.reduceAdd, Nat.reduceSub, Nat.reduceEqDiff, reduceIte, Bool.true_and, Bool.and_true, Bool.not_true, Bool.not_false, Bool.false_eq_true, DL.endP, DL.endN, DL.cz2, DL.cz3, DL.cz4, DL.cz5, DL.cz6, DL.cz7, DL.cz8, DL.cz9, Int.natCast_add, Int.natCast_zero, Int.natCast_one, decide_true, decide_false, eq_self, not_true, not_false_eq_true, Bool.not_eq_true, DL.e_len_t, DL.e_len_l, DL.e_eq_ii, DL.e_ne_ii, DL.e_lt_ii, DL.e_le_ii, DL.e_gt_ii, DL.e_ge_ii, DL.e_ix_t0, DL.e_ix_t1, DL.e_ix_t2, DL.e_ix_t3, DL.e_ix_t4, DL.e_gcd, DL.p_none, DL.p_bool, DL.p_int, DL.p_str, DL.p_list, DL.p_tuple, DL.i_int_none, DL.i_int_bool, DL.i_int_int, DL.i_int_str, DL.i_int_list, DL.i_int_tuple, DL.i_bool_none, DL.i_bool_bool, DL.i_bool_int, DL.i_bool_str, DL.i_bool_list, DL.i_bool_tuple, DL.i_str_none, DL.i_str_bool, DL.i_str_int, DL.i_str_str, DL.i_str_list, DL.i_str_tuple, DL.i_tuple_none, DL.i_tuple_bool, DL.i_tuple_int, DL.i_tuple_str, DL.i_tuple_list, DL.i_tuple_tuple, DL.i_list_none, DL.i_list_bool, DL.i_list_int, DL.i_list_str, DL.i_list_list, DL.i_list_tuple, DL.e_v0, DL.e_t0, DL.e_s0_0, DL.e_s0_1, DL.e_s0_2, DL.e_v1, DL.e_t1, DL.e_s1_0, DL.e_s1_1, DL.e_s1_2, DL.e_s1_3, DL.e_v2, DL.e_t2, DL.e_s2_0, DL.e_s2_1, DL.e_s2_2, DL.e_s2_3, DL.e_v3, DL.e_t3, DL.e_s3_0, DL.e_s3_1, DL.e_s3_2, DL.e_s3_3, DL.e_v4, DL.e_t4, DL.e_s4_0, DL.e_s4_1, DL.e_s4_2, DL.e_s4_3, DL.e_v5, DL.e_t5, DL.e_s5_0, DL.e_s5_1, DL.e_s5_2, DL.e_s5_3, DL.e_v6, DL.e_t6, DL.e_s6_0, DL.e_s6_1, DL.e_s6_2, DL.e_s6_3, DL.e_v7, DL.e_t7, DL.e_s7_0, DL.e_s7_1, DL.e_s7_2, DL.e_s7_3]
  rw [h.map] at c
  generalize cs.map PyData.int = q at c s
  refine runP_at (r := .ok (.rt (.int cs.sum), [.d (fT ks ans ts), .no])) rfl ?_ rfl
  show b_count_leaves [.d (fT ks ans ts), .no] = _
  unfold b_count_leaves
  refine seq_nx (δ1 := [.d (fT ks ans ts), .no]) (by simp only [vDrop, ck, DL.e_g1, DL.e_g2, DL.e_g3, DL.e_g4, DL.e_g5, DL.e_g6, DL.e_g7, DL.e_g8, DL.e_w8, DL.e_g9, DL.e_w9, DL.e_g10, DL.e_w10, DL.e_g11, DL.e_w11, DL.e_g12, DL.e_w12, DL.e_o1, DL.e_u1, DL.e_o2, DL.e_u2, DL.e_o3, DL.e_u3, DL.e_o4, DL.e_u4, DL.e_o5, DL.e_u5, DL.e_o6, DL.e_u6, DL.e_o7, DL.e_u7, DL.e_o8, DL.e_u8, DL.e_o9, DL.e_u9, DL.e_o10, DL.e_u10, DL.e_o11, DL.e_u11, DL.e_o12, DL.e_u12, DL.e_o0, DL.e_u0, DL.runP, DL.runN, DL.startD, List.map, List.length, List.replicate, List.append_nil, List.cons_append, List.nil_append, DL.e_bo, DL.e_be, DL.e_bb, DL.e_ao, DL.e_ae, DL.e_no, DL.e_nb, DL.e_cd, DL.e_cn, DL.e_ct, DL.e_co, DL.e_ce, DL.e_op, DL.e_if, DL.e_seq, DL.vOr, DL.vAnd, DL.vNot, DL.vTest, DL.vIsi, DL.vCall, DL.vCons, DL.vNil, DL.vConst, DL.vRet, DL.vNext, DL.vApp, DL.vNeg, DL.vChain, DL.vAndV, DL.vOrV, DL.vNotV, DL.vIf, ite_true, ite_false, if_true, if_false, Nat.reduceAdd, Nat.reduceSub, Nat.reduceEqDiff, reduceIte, Bool.true_and, Bool.and_true, Bool.not_true, Bool.not_false, Bool.false_eq_true, DL.endP, DL.endN, DL.cz2, DL.cz3, DL.cz4, DL.cz5, DL.cz6, DL.cz7, DL.cz8, DL.cz9, Int.natCast_add, Int.natCast_zero, Int.natCast_one, decide_true, decide_false, eq_self, not_true, not_false_eq_true, Bool.not_eq_true, DL.e_len_t, DL.e_len_l, DL.e_eq_ii, DL.e_ne_ii, DL.e_lt_ii, DL.e_le_ii, DL.e_gt_ii, DL.e_ge_ii, DL.e_ix_t0, DL.e_ix_t1, DL.e_ix_t2, DL.e_ix_t3, DL.e_ix_t4, DL.e_gcd, DL.p_none, DL.p_bool, DL.p_int, DL.p_str, DL.p_list, DL.p_tuple, DL.i_int_none, DL.i_int_bool, DL.i_int_int, DL.i_int_str, DL.i_int_list, DL.i_int_tuple, DL.i_bool_none, DL.i_bool_bool, DL.i_bool_int, DL.i_bool_str, DL.i_bool_list, DL.i_bool_tuple, DL.i_str_none, DL.i_str_bool, DL.i_str_int, DL.i_str_str, DL.i_str_list, DL.i_str_tuple, DL.i_tuple_none, DL.i_tuple_bool, DL.i_tuple_int, DL.i_tuple_str, DL.i_tuple_list, DL.i_tuple_tuple, DL.i_list_none, DL.i_list_bool, DL.i_list_int, DL.i_list_str, DL.i_list_list, DL.i_list_tuple, DL.e_v0, DL.e_t0, DL.e_s0_0, DL.e_s0_1, DL.e_s0_2, DL.e_v1, DL.e_t1, DL.e_s1_0, DL.e_s1_1, DL.e_s1_2, DL.e_s1_3, DL.e_v2, DL.e_t2, DL.e_s2_0, DL.e_s2_1, DL.e_s2_2, DL.e_s2_3, DL.e_v3, DL.e_t3, DL.e_s3_0, DL.e_s3_1, DL.e_s3_2, DL.e_s3_3, DL.e_v4, DL.e_t4, DL.e_s4_0, DL.e_s4_1, DL.e_s4_2, DL.e_s4_3, DL.e_v5, DL.e_t5, DL.e_s5_0, DL.e_s5_1, DL.e_s5_2, DL.e_s5_3, DL.e_v6, DL.e_t6, DL.e_s6_0, DL.e_s6_1, DL.e_s6_2, DL.e_s6_3, DL.e_v7, DL.e_t7, DL.e_s7_0, DL.e_s7_1, DL.e_s7_2, DL.e_s7_3]) ?_
  simp only [c, s, DL.e_g1, DL.e_g2, DL.e_g3, DL.e_g4, DL.e_g5, DL.e_g6, DL.e_g7, DL.e_g8, DL.e_w8, DL.e_g9, DL.e_w9, DL.e_g10, DL.e_w10, DL.e_g11, DL.e_w11, DL.e_g12, DL.e_w12, DL.e_o1, DL.e_u1, DL.e_o2, DL.e_u2, DL.e_o3, DL.e_u3, DL.e_o4, DL.e_u4, DL.e_o5, DL.e_u5, DL.e_o6, DL.e_u6, DL.e_o7, DL.e_u7, DL.e_o8, DL.e_u8, DL.e_o9, DL.e_u9, DL.e_o10, DL.e_u10, DL.e_o11, DL.e_u11, DL.e_o12, DL.e_u12, DL.e_o0, DL.e_u0, DL.runP, DL.runN, DL.startD, List.map, List.length, List.replicate, List.append_nil, List.cons_append, List.nil_append, DL.e_bo, DL.e_be, DL.e_bb, DL.e_ao, DL.e_ae, DL.e_no, DL.e_nb, DL.e_cd, DL.e_cn, DL.e_ct, DL.e_co, DL.e_ce, DL.e_op, DL.e_if, DL.e_seq, DL.vOr, DL.vAnd, DL.vNot, DL.vTest, DL.vIsi, DL.vCall, DL.vCons, DL.vNil, DL.vConst, DL.vRet, DL.vNext, DL.vApp, DL.vNeg, DL.vChain, DL.vAndV, DL.vOrV, DL.vNotV, DL.vIf, ite_true, ite_false, if_true, if_false, Nat.reduceAdd, Nat.reduceSub, Nat.reduceEqDiff, reduceIte, Bool.true_and, Bool.and_true, Bool.not_true, Bool.not_false, Bool.false_eq_true, DL.endP, DL.endN, DL.cz2, DL.cz3, DL.cz4, DL.cz5, DL.cz6, DL.cz7, DL.cz8, DL.cz9, Int.natCast_add, Int.natCast_zero, Int.natCast_one, decide_true, decide_false, eq_self, not_true, not_false_eq_true, Bool.not_eq_true, DL.e_len_t, DL.e_len_l, DL.e_eq_ii, DL.e_ne_ii, DL.e_lt_ii, DL.e_le_ii, DL.e_gt_ii, DL.e_ge_ii, DL.e_ix_t0, DL.e_ix_t1, DL.e_ix_t2, DL.e_ix_t3, DL.e_ix_t4, DL.e_gcd, DL.p_none, DL.p_bool, DL.p_int, DL.p_str, DL.p_list, DL.p_tuple, DL.i_int_none, DL.i_int_bool, DL.i_int_int, DL.i_int_str, DL.i_int_list, DL.i_int_tuple, DL.i_bool_none, DL.i_bool_bool, DL.i_bool_int, DL.i_bool_str, DL.i_bool_list, DL.i_bool_tuple, DL.i_str_none, DL.i_str_bool, DL.i_str_int, DL.i_str_str, DL.i_str_list, DL.i_str_tuple, DL.i_tuple_none, DL.i_tuple_bool, DL.i_tuple_int, DL.i_tuple_str, DL.i_tuple_list, DL.i_tuple_tuple, DL.i_list_none, DL.i_list_bool, DL.i_list_int, DL.i_list_str, DL.i_list_list, DL.i_list_tuple, DL.e_v0, DL.e_t0, DL.e_s0_0, DL.e_s0_1, DL.e_s0_2, DL.e_v1, DL.e_t1, DL.e_s1_0, DL.e_s1_1, DL.e_s1_2, DL.e_s1_3, DL.e_v2, DL.e_t2, DL.e_s2_0, DL.e_s2_1, DL.e_s2_2, DL.e_s2_3, DL.e_v3, DL.e_t3, DL.e_s3_0, DL.e_s3_1, DL.e_s3_2, DL.e_s3_3, DL.e_v4, DL.e_t4, DL.e_s4_0, DL.e_s4_1, DL.e_s4_2, DL.e_s4_3, DL.e_v5, DL.e_t5, DL.e_s5_0, DL.e_s5_1, DL.e_s5_2, DL.e_s5_3, DL.e_v6, DL.e_t6, DL.e_s6_0, DL.e_s6_1, DL.e_s6_2, DL.e_s6_3, DL.e_v7, DL.e_t7, DL.e_s7_0, DL.e_s7_1, DL.e_s7_2, DL.e_s7_3]
/-! forests at the bounds -/
def lf3 : PyData := .tuple [.str "leaf", .tuple [.int 9, .int (-9), .int 0]]
def rowT : Nat → PyData
  | 0 => lf3
  | k + 1 => .tuple [.str "below", .int 0, .tuple [.int (k : Int), .int 1], lf3, rowT k]
theorem row8 : ph__law_row_tree [.int 8, lf3] = .ok (rowT 7) ∧ ph_is_forest [.tuple [.tuple [.str "0"], .int 3, .tuple [rowT 7, rowT 7, rowT 7, rowT 7]]] = .ok (.bool true) := ⟨by kernel_rfl, by kernel_rfl⟩
theorem row9 : ph__law_row_tree [.int 9, lf3] = .ok (rowT 8) ∧ ph_is_forest [.tuple [.tuple [.str "0"], .int 3, .tuple [rowT 8]]] = .ok (.bool false) := ⟨by kernel_rfl, by kernel_rfl⟩
def wideT : PyData := .tuple [.str "below", .int 0, .tuple [.int (-99), .int 4], .tuple [.str "among", .int 1, .str "abcd", lf3, lf3], lf3]
theorem wide1 : ph_is_forest [.tuple [.tuple [.str "0", .str "abcd", .str "yz"], .int 3, .tuple [wideT]]] = .ok (.bool true) := by kernel_rfl
theorem wide2 : ph_is_forest [.tuple [.tuple [.str "0", .str "abce", .str "yz"], .int 3, .tuple [wideT]]] = .ok (.bool false) := by kernel_rfl
end Vw
set_option linter.all false
set_option maxRecDepth 100000
set_option maxHeartbeats 1000000
namespace Vw
open PySem PySem.Spec L2 DL DQ
theorem ne_int (k : Int) : gNe (.int k) (.int k) = .ok (.bool false) := by rw [e_ne_ii, decide_eq_true rfl] <;> rfl
theorem ne_badF : gNe (.tuple [.str "error", .str "InvalidForest"]) (.tuple [.str "error", .str "InvalidForest"]) = .ok (.bool false) := by kernel_rfl
theorem told_err {names : List Str} {f : EvE} {δ : DSt} {c : Str} (h : f (noOwn δ) = .err c) (hc : c ∈ names) : vTold names f δ = .ok (.tuple [.str "error", .str c], δ) := by
  unfold vTold
  rw [h]
  exact if_pos hc
theorem in_names2 : ("InvalidForest" : Str) ∈ HT.errNames := by decide +kernel
theorem if2_f {t : EvT} {f g : EvS} {δ δ1 : DSt} {r : Res (Flw × DSt)} (h : t δ = .ok (false, δ1)) (h2 : g δ1 = r) : vIf2 t f g δ = r := by
  unfold vIf2
  rw [h, e_bo, if_neg Bool.false_ne_true]
  exact h2
theorem told_if {f : EvE} {δ : DSt} {c : Str} (h : f (noOwn δ) = .err c) (hc : c ∈ HT.errNames) (hn : gNe (.tuple [.str "error", .str c]) (.tuple [.str "error", .str c]) = .ok (.bool false)) (hs : 2 ≤ sizeLine) :
    (vTest (vOp gNe (vTold HT.errNames f) (vTup (vCons (vConst (.str ("error" : Str))) (vCons (vConst (.str c)) vNil))))) δ = .ok (false, δ) := by
  have t := told_err h hc
  simp only [t, vTup, hs, hn, DL.e_g1, DL.e_g2, DL.e_g3, DL.e_g4, DL.e_g5, DL.e_g6, DL.e_g7, DL.e_g8, DL.e_w8, DL.e_g9, DL.e_w9, DL.e_g10, DL.e_w10, DL.e_g11, DL.e_w11, DL.e_g12, DL.e_w12, DL.e_o1, DL.e_u1, DL.e_o2, DL.e_u2, DL.e_o3, DL.e_u3, DL.e_o4, DL.e_u4, DL.e_o5, DL.e_u5, DL.e_o6, DL.e_u6, DL.e_o7, DL.e_u7, DL.e_o8, DL.e_u8, DL.e_o9, DL.e_u9, DL.e_o10, DL.e_u10, DL.e_o11, DL.e_u11, DL.e_o12, DL.e_u12, DL.e_o0, DL.e_u0, DL.runP, DL.runN, DL.startD, List.map, List.length, List.replicate, List.append_nil, List.cons_append, List.nil_append, DL.e_bo, DL.e_be, DL.e_bb, DL.e_ao, DL.e_ae, DL.e_no, DL.e_nb, DL.e_cd, DL.e_cn, DL.e_ct, DL.e_co, DL.e_ce, DL.e_op, DL.e_if, DL.e_seq, DL.vOr, DL.vAnd, DL.vNot, DL.vTest, DL.vIsi, DL.vCall, DL.vCons, DL.vNil, DL.vConst, DL.vRet, DL.vNext, DL.vApp, DL.vNeg, DL.vChain, DL.vAndV, DL.vOrV, DL.vNotV, DL.vIf, ite_true, ite_false, if_true, if_false, Nat.reduceAdd, Nat.reduceSub, Nat.reduceEqDiff, reduceIte, Bool.true_and, Bool.and_true, Bool.not_true, Bool.not_false, Bool.false_eq_true, DL.endP, DL.endN, DL.cz2, DL.cz3, DL.cz4, DL.cz5, DL.cz6, DL.cz7, DL.cz8, DL.cz9, Int.natCast_add, Int.natCast_zero, Int.natCast_one, decide_true, decide_false, eq_self, not_true, not_false_eq_true, Bool.not_eq_true, DL.e_len_t, DL.e_len_l, DL.e_eq_ii, DL.e_ne_ii, DL.e_lt_ii, DL.e_le_ii, DL.e_gt_ii, DL.e_ge_ii, DL.e_ix_t0, DL.e_ix_t1, DL.e_ix_t2, DL.e_ix_t3, DL.e_ix_t4, DL.e_gcd, DL.p_none, DL.p_bool, DL.p_int, DL.p_str, DL.p_list, DL.p_tuple, DL.i_int_none, DL.i_int_bool, DL.i_int_int, DL.i_int_str, DL.i_int_list, DL.i_int_tuple, DL.i_bool_none, DL.i_bool_bool, DL.i_bool_int, DL.i_bool_str, DL.i_bool_list, DL.i_bool_tuple, DL.i_str_none, DL.i_str_bool, DL.i_str_int, DL.i_str_str, DL.i_str_list, DL.i_str_tuple, DL.i_tuple_none, DL.i_tuple_bool, DL.i_tuple_int, DL.i_tuple_str, DL.i_tuple_list, DL.i_tuple_tuple, DL.i_list_none, DL.i_list_bool, DL.i_list_int, DL.i_list_str, DL.i_list_list, DL.i_list_tuple, DL.e_v0, DL.e_t0, DL.e_s0_0, DL.e_s0_1, DL.e_s0_2, DL.e_v1, DL.e_t1, DL.e_s1_0, DL.e_s1_1, DL.e_s1_2, DL.e_s1_3, DL.e_v2, DL.e_t2, DL.e_s2_0, DL.e_s2_1, DL.e_s2_2, DL.e_s2_3, DL.e_v3, DL.e_t3, DL.e_s3_0, DL.e_s3_1, DL.e_s3_2, DL.e_s3_3, DL.e_v4, DL.e_t4, DL.e_s4_0, DL.e_s4_1, DL.e_s4_2, DL.e_s4_3, DL.e_v5, DL.e_t5, DL.e_s5_0, DL.e_s5_1, DL.e_s5_2, DL.e_s5_3, DL.e_v6, DL.e_t6, DL.e_s6_0, DL.e_s6_1, DL.e_s6_2, DL.e_s6_3, DL.e_v7, DL.e_t7, DL.e_s7_0, DL.e_s7_1, DL.e_s7_2, DL.e_s7_3]
abbrev lS (l : List PyData) (F : PyData) (s3 s4 s5 s6 : Sl) : DSt := [.no, .own l, .d F, s3, s4, s5, s6]
theorem bad_pair {ks ts : List PyData} {ans : Int} (hF : ForestV ks ans ts) {b : PyData} (h : ph_is_forest [b] = .ok (.bool false)) : ph_check_pair [fT ks ans ts, b] = .err "InvalidForest" := by
  have c0 := check_ok hF
  have c := bad_check h
  refine runP_at (r := .err "InvalidForest") rfl ?_ rfl
  show (vSeq _ _) [.d (fT ks ans ts), .d b] = _
  generalize fT ks ans ts = F at c0
  refine seq_nx (δ1 := [.d F, .d b]) (by simp only [vDrop, c0, DL.e_g1, DL.e_g2, DL.e_g3, DL.e_g4, DL.e_g5, DL.e_g6, DL.e_g7, DL.e_g8, DL.e_w8, DL.e_g9, DL.e_w9, DL.e_g10, DL.e_w10, DL.e_g11, DL.e_w11, DL.e_g12, DL.e_w12, DL.e_o1, DL.e_u1, DL.e_o2, DL.e_u2, DL.e_o3, DL.e_u3, DL.e_o4, DL.e_u4, DL.e_o5, DL.e_u5, DL.e_o6, DL.e_u6, DL.e_o7, DL.e_u7, DL.e_o8, DL.e_u8, DL.e_o9, DL.e_u9, DL.e_o10, DL.e_u10, DL.e_o11, DL.e_u11, DL.e_o12, DL.e_u12, DL.e_o0, DL.e_u0, DL.runP, DL.runN, DL.startD, List.map, List.length, List.replicate, List.append_nil, List.cons_append, List.nil_append, DL.e_bo, DL.e_be, DL.e_bb, DL.e_ao, DL.e_ae, DL.e_no, DL.e_nb, DL.e_cd, DL.e_cn, DL.e_ct, DL.e_co, DL.e_ce, DL.e_op, DL.e_if, DL.e_seq, DL.vOr, DL.vAnd, DL.vNot, DL.vTest, DL.vIsi, DL.vCall, DL.vCons, DL.vNil, DL.vConst, DL.vRet, DL.vNext, DL.vApp, DL.vNeg, DL.vChain, DL.vAndV, DL.vOrV, DL.vNotV, DL.vIf, ite_true, ite_false, if_true, if_false, Nat.reduceAdd, Nat.reduceSub, Nat.reduceEqDiff, reduceIte, Bool.true_and, Bool.and_true, Bool.not_true, Bool.not_false, Bool.false_eq_true, DL.endP, DL.endN, DL.cz2, DL.cz3, DL.cz4, DL.cz5, DL.cz6, DL.cz7, DL.cz8, DL.cz9, Int.natCast_add, Int.natCast_zero, Int.natCast_one, decide_true, decide_false, eq_self, not_true, not_false_eq_true, Bool.not_eq_true, DL.e_len_t, DL.e_len_l, DL.e_eq_ii, DL.e_ne_ii, DL.e_lt_ii, DL.e_le_ii, DL.e_gt_ii, DL.e_ge_ii, DL.e_ix_t0, DL.e_ix_t1, DL.e_ix_t2, DL.e_ix_t3, DL.e_ix_t4, DL.e_gcd, DL.p_none, DL.p_bool, DL.p_int, DL.p_str, DL.p_list, DL.p_tuple, DL.i_int_none, DL.i_int_bool, DL.i_int_int, DL.i_int_str, DL.i_int_list, DL.i_int_tuple, DL.i_bool_none, DL.i_bool_bool, DL.i_bool_int, DL.i_bool_str, DL.i_bool_list, DL.i_bool_tuple, DL.i_str_none, DL.i_str_bool, DL.i_str_int, DL.i_str_str, DL.i_str_list, DL.i_str_tuple, DL.i_tuple_none, DL.i_tuple_bool, DL.i_tuple_int, DL.i_tuple_str, DL.i_tuple_list, DL.i_tuple_tuple, DL.i_list_none, DL.i_list_bool, DL.i_list_int, DL.i_list_str, DL.i_list_list, DL.i_list_tuple, DL.e_v0, DL.e_t0, DL.e_s0_0, DL.e_s0_1, DL.e_s0_2, DL.e_v1, DL.e_t1, DL.e_s1_0, DL.e_s1_1, DL.e_s1_2, DL.e_s1_3, DL.e_v2, DL.e_t2, DL.e_s2_0, DL.e_s2_1, DL.e_s2_2, DL.e_s2_3, DL.e_v3, DL.e_t3, DL.e_s3_0, DL.e_s3_1, DL.e_s3_2, DL.e_s3_3, DL.e_v4, DL.e_t4, DL.e_s4_0, DL.e_s4_1, DL.e_s4_2, DL.e_s4_3, DL.e_v5, DL.e_t5, DL.e_s5_0, DL.e_s5_1, DL.e_s5_2, DL.e_s5_3, DL.e_v6, DL.e_t6, DL.e_s6_0, DL.e_s6_1, DL.e_s6_2, DL.e_s6_3, DL.e_v7, DL.e_t7, DL.e_s7_0, DL.e_s7_1, DL.e_s7_2, DL.e_s7_3]) (seq_err ?_)
  simp only [vDrop, c, DL.e_g1, DL.e_g2, DL.e_g3, DL.e_g4, DL.e_g5, DL.e_g6, DL.e_g7, DL.e_g8, DL.e_w8, DL.e_g9, DL.e_w9, DL.e_g10, DL.e_w10, DL.e_g11, DL.e_w11, DL.e_g12, DL.e_w12, DL.e_o1, DL.e_u1, DL.e_o2, DL.e_u2, DL.e_o3, DL.e_u3, DL.e_o4, DL.e_u4, DL.e_o5, DL.e_u5, DL.e_o6, DL.e_u6, DL.e_o7, DL.e_u7, DL.e_o8, DL.e_u8, DL.e_o9, DL.e_u9, DL.e_o10, DL.e_u10, DL.e_o11, DL.e_u11, DL.e_o12, DL.e_u12, DL.e_o0, DL.e_u0, DL.runP, DL.runN, DL.startD, List.map, List.length, List.replicate, List.append_nil, List.cons_append, List.nil_append, DL.e_bo, DL.e_be, DL.e_bb, DL.e_ao, DL.e_ae, DL.e_no, DL.e_nb, DL.e_cd, DL.e_cn, DL.e_ct, DL.e_co, DL.e_ce, DL.e_op, DL.e_if, DL.e_seq, DL.vOr, DL.vAnd, DL.vNot, DL.vTest, DL.vIsi, DL.vCall, DL.vCons, DL.vNil, DL.vConst, DL.vRet, DL.vNext, DL.vApp, DL.vNeg, DL.vChain, DL.vAndV, DL.vOrV, DL.vNotV, DL.vIf, ite_true, ite_false, if_true, if_false, Nat.reduceAdd, Nat.reduceSub, Nat.reduceEqDiff, reduceIte, Bool.true_and, Bool.and_true, Bool.not_true, Bool.not_false, Bool.false_eq_true, DL.endP, DL.endN, DL.cz2, DL.cz3, DL.cz4, DL.cz5, DL.cz6, DL.cz7, DL.cz8, DL.cz9, Int.natCast_add, Int.natCast_zero, Int.natCast_one, decide_true, decide_false, eq_self, not_true, not_false_eq_true, Bool.not_eq_true, DL.e_len_t, DL.e_len_l, DL.e_eq_ii, DL.e_ne_ii, DL.e_lt_ii, DL.e_le_ii, DL.e_gt_ii, DL.e_ge_ii, DL.e_ix_t0, DL.e_ix_t1, DL.e_ix_t2, DL.e_ix_t3, DL.e_ix_t4, DL.e_gcd, DL.p_none, DL.p_bool, DL.p_int, DL.p_str, DL.p_list, DL.p_tuple, DL.i_int_none, DL.i_int_bool, DL.i_int_int, DL.i_int_str, DL.i_int_list, DL.i_int_tuple, DL.i_bool_none, DL.i_bool_bool, DL.i_bool_int, DL.i_bool_str, DL.i_bool_list, DL.i_bool_tuple, DL.i_str_none, DL.i_str_bool, DL.i_str_int, DL.i_str_str, DL.i_str_list, DL.i_str_tuple, DL.i_tuple_none, DL.i_tuple_bool, DL.i_tuple_int, DL.i_tuple_str, DL.i_tuple_list, DL.i_tuple_tuple, DL.i_list_none, DL.i_list_bool, DL.i_list_int, DL.i_list_str, DL.i_list_list, DL.i_list_tuple, DL.e_v0, DL.e_t0, DL.e_s0_0, DL.e_s0_1, DL.e_s0_2, DL.e_v1, DL.e_t1, DL.e_s1_0, DL.e_s1_1, DL.e_s1_2, DL.e_s1_3, DL.e_v2, DL.e_t2, DL.e_s2_0, DL.e_s2_1, DL.e_s2_2, DL.e_s2_3, DL.e_v3, DL.e_t3, DL.e_s3_0, DL.e_s3_1, DL.e_s3_2, DL.e_s3_3, DL.e_v4, DL.e_t4, DL.e_s4_0, DL.e_s4_1, DL.e_s4_2, DL.e_s4_3, DL.e_v5, DL.e_t5, DL.e_s5_0, DL.e_s5_1, DL.e_s5_2, DL.e_s5_3, DL.e_v6, DL.e_t6, DL.e_s6_0, DL.e_s6_1, DL.e_s6_2, DL.e_s6_3, DL.e_v7, DL.e_t7, DL.e_s7_0, DL.e_s7_1, DL.e_s7_2, DL.e_s7_3]
theorem bad_joined {ks ts : List PyData} {ans : Int} (hF : ForestV ks ans ts) {b : PyData} (h : ph_is_forest [b] = .ok (.bool false)) : ph_joined [fT ks ans ts, b] = .err "InvalidForest" := by
  have c0 := bad_pair hF h
  refine runP_at (r := .err "InvalidForest") rfl ?_ rfl
  show (vSeq _ _) [.d (fT ks ans ts), .d b, .no, .no, .no, .no] = _
  generalize fT ks ans ts = F at c0
  refine seq_err ?_
  simp only [vDrop, c0, DL.e_g1, DL.e_g2, DL.e_g3, DL.e_g4, DL.e_g5, DL.e_g6, DL.e_g7, DL.e_g8, DL.e_w8, DL.e_g9, DL.e_w9, DL.e_g10, DL.e_w10, DL.e_g11, DL.e_w11, DL.e_g12, DL.e_w12, DL.e_o1, DL.e_u1, DL.e_o2, DL.e_u2, DL.e_o3, DL.e_u3, DL.e_o4, DL.e_u4, DL.e_o5, DL.e_u5, DL.e_o6, DL.e_u6, DL.e_o7, DL.e_u7, DL.e_o8, DL.e_u8, DL.e_o9, DL.e_u9, DL.e_o10, DL.e_u10, DL.e_o11, DL.e_u11, DL.e_o12, DL.e_u12, DL.e_o0, DL.e_u0, DL.runP, DL.runN, DL.startD, List.map, List.length, List.replicate, List.append_nil, List.cons_append, List.nil_append, DL.e_bo, DL.e_be, DL.e_bb, DL.e_ao, DL.e_ae, DL.e_no, DL.e_nb, DL.e_cd, DL.e_cn, DL.e_ct, DL.e_co, DL.e_ce, DL.e_op, DL.e_if, DL.e_seq, DL.vOr, DL.vAnd, DL.vNot, DL.vTest, DL.vIsi, DL.vCall, DL.vCons, DL.vNil, DL.vConst, DL.vRet, DL.vNext, DL.vApp, DL.vNeg, DL.vChain, DL.vAndV, DL.vOrV, DL.vNotV, DL.vIf, ite_true, ite_false, if_true, if_false, Nat.reduceAdd, Nat.reduceSub, Nat.reduceEqDiff, reduceIte, Bool.true_and, Bool.and_true, Bool.not_true, Bool.not_false, Bool.false_eq_true, DL.endP, DL.endN, DL.cz2, DL.cz3, DL.cz4, DL.cz5, DL.cz6, DL.cz7, DL.cz8, DL.cz9, Int.natCast_add, Int.natCast_zero, Int.natCast_one, decide_true, decide_false, eq_self, not_true, not_false_eq_true, Bool.not_eq_true, DL.e_len_t, DL.e_len_l, DL.e_eq_ii, DL.e_ne_ii, DL.e_lt_ii, DL.e_le_ii, DL.e_gt_ii, DL.e_ge_ii, DL.e_ix_t0, DL.e_ix_t1, DL.e_ix_t2, DL.e_ix_t3, DL.e_ix_t4, DL.e_gcd, DL.p_none, DL.p_bool, DL.p_int, DL.p_str, DL.p_list, DL.p_tuple, DL.i_int_none, DL.i_int_bool, DL.i_int_int, DL.i_int_str, DL.i_int_list, DL.i_int_tuple, DL.i_bool_none, DL.i_bool_bool, DL.i_bool_int, DL.i_bool_str, DL.i_bool_list, DL.i_bool_tuple, DL.i_str_none, DL.i_str_bool, DL.i_str_int, DL.i_str_str, DL.i_str_list, DL.i_str_tuple, DL.i_tuple_none, DL.i_tuple_bool, DL.i_tuple_int, DL.i_tuple_str, DL.i_tuple_list, DL.i_tuple_tuple, DL.i_list_none, DL.i_list_bool, DL.i_list_int, DL.i_list_str, DL.i_list_list, DL.i_list_tuple, DL.e_v0, DL.e_t0, DL.e_s0_0, DL.e_s0_1, DL.e_s0_2, DL.e_v1, DL.e_t1, DL.e_s1_0, DL.e_s1_1, DL.e_s1_2, DL.e_s1_3, DL.e_v2, DL.e_t2, DL.e_s2_0, DL.e_s2_1, DL.e_s2_2, DL.e_s2_3, DL.e_v3, DL.e_t3, DL.e_s3_0, DL.e_s3_1, DL.e_s3_2, DL.e_s3_3, DL.e_v4, DL.e_t4, DL.e_s4_0, DL.e_s4_1, DL.e_s4_2, DL.e_s4_3, DL.e_v5, DL.e_t5, DL.e_s5_0, DL.e_s5_1, DL.e_s5_2, DL.e_s5_3, DL.e_v6, DL.e_t6, DL.e_s6_0, DL.e_s6_1, DL.e_s6_2, DL.e_s6_3, DL.e_v7, DL.e_t7, DL.e_s7_0, DL.e_s7_1, DL.e_s7_2, DL.e_s7_3]
def badB : EvS := (vSeq (vIf2 (vOr (vTest (vApp ph_is_forest (vCons (vVar 3) vNil))) (vTest (vOp gNe (vTold HT.errNames (vApp ph_count_leaves (vCons (vVar 3) vNil))) (vTup (vCons (vConst (.str ("error" : Str))) (vCons (vConst (.str ("InvalidForest" : Str))) vNil)))))) (vRet (vConst (.bool false))) vNext) (vSeq (vIf2 (vTest (vOp gNe (vTold HT.errNames (vApp ph_votes_form (vCons (vVar 3) vNil))) (vTup (vCons (vConst (.str ("error" : Str))) (vCons (vConst (.str ("InvalidForest" : Str))) vNil))))) (vRet (vConst (.bool false))) vNext) (vIf2 (vTest (vOp gNe (vTold HT.errNames (vApp ph_joined (vCons (vVar 2) (vCons (vVar 3) vNil)))) (vTup (vCons (vConst (.str ("error" : Str))) (vCons (vConst (.str ("InvalidForest" : Str))) vNil))))) (vRet (vConst (.bool false))) vNext)))
theorem bad_at {ks ts : List PyData} {ans : Int} (hF : ForestV ks ans ts) {b : PyData} (hb : ph_is_forest [b] = .ok (.bool false)) (l : List PyData) (s4 s5 s6 : Sl) : badB (lS l (fT ks ans ts) (.d b) s4 s5 s6) = .ok (.nx, lS l (fT ks ans ts) (.d b) s4 s5 s6) := by
  have e1 := bad_count hb
  have e2 := bad_form hb
  have e3 := bad_joined hF hb
  generalize fT ks ans ts = F at e3
  have s2 : 2 ≤ sizeLine := sz (by decide)
  have no : ∃ x4 x5 x6, noOwn (lS l F (.d b) s4 s5 s6) = [.no, .no, .d F, .d b, x4, x5, x6] := ⟨_, _, _, rfl⟩
  obtain ⟨x4, x5, x6, no⟩ := no
  have t1 := told_if (c := "InvalidForest") (δ := lS l F (.d b) s4 s5 s6) (f := vApp ph_count_leaves (vCons (vVar 3) vNil)) (by rw [no]; simp only [e1, DL.e_g1, DL.e_g2, DL.e_g3, DL.e_g4, DL.e_g5, DL.e_g6, DL.e_g7, DL.e_g8, DL.e_w8, DL.e_g9, DL.e_w9, DL.e_g10, DL.e_w10, DL.e_g11, DL.e_w11, DL.e_g12, DL.e_w12, DL.e_o1, DL.e_u1, DL.e_o2, DL.e_u2, DL.e_o3, DL.e_u3, DL.e_o4, DL.e_u4, DL.e_o5, DL.e_u5, DL.e_o6, DL.e_u6, DL.e_o7, DL.e_u7, DL.e_o8, DL.e_u8, DL.e_o9, DL.e_u9, DL.e_o10, DL.e_u10, DL.e_o11, DL.e_u11, DL.e_o12, DL.e_u12, DL.e_o0, DL.e_u0, DL.runP, DL.runN, DL.startD, List.map, List.length, List.replicate, List.append_nil, List.cons_append, List.nil_append, DL.e_bo, DL.e_be, DL.e_bb, DL.e_ao, DL.e_ae, DL.e_no, DL.e_nb, DL.e_cd, DL.e_cn, DL.e_ct, DL.e_co, DL.e_ce, DL.e_op, DL.e_if, DL.e_seq, DL.vOr, DL.vAnd, DL.vNot, DL.vTest, DL.vIsi, DL.vCall, DL.vCons, DL.vNil, DL.vConst, DL.vRet, DL.vNext, DL.vApp, DL.vNeg, DL.vChain, DL.vAndV, DL.vOrV, DL.vNotV, DL.vIf, ite_true, ite_false, if_true, if_false, Nat.reduceAdd, Nat.reduceSub, Nat.reduceEqDiff, reduceIte, Bool.true_and, Bool.and_true, Bool.not_true, Bool.not_false, Bool.false_eq_true, DL.endP, DL.endN, DL.cz2, DL.cz3, DL.cz4, DL.cz5, DL.cz6, DL.cz7, DL.cz8, DL.cz9, Int.natCast_add, Int.natCast_zero, Int.natCast_one, decide_true, decide_false, eq_self, not_true, not_false_eq_true, Bool.not_eq_true, DL.e_len_t, DL.e_len_l, DL.e_eq_ii, DL.e_ne_ii, DL.e_lt_ii, DL.e_le_ii, DL.e_gt_ii, DL.e_ge_ii, DL.e_ix_t0, DL.e_ix_t1, DL.e_ix_t2, DL.e_ix_t3, DL.e_ix_t4, DL.e_gcd, DL.p_none, DL.p_bool, DL.p_int, DL.p_str, DL.p_list, DL.p_tuple, DL.i_int_none, DL.i_int_bool, DL.i_int_int, DL.i_int_str, DL.i_int_list, DL.i_int_tuple, DL.i_bool_none, DL.i_bool_bool, DL.i_bool_int, DL.i_bool_str, DL.i_bool_list, DL.i_bool_tuple, DL.i_str_none, DL.i_str_bool, DL.i_str_int, DL.i_str_str, DL.i_str_list, DL.i_str_tuple, DL.i_tuple_none, DL.i_tuple_bool, DL.i_tuple_int, DL.i_tuple_str, DL.i_tuple_list, DL.i_tuple_tuple, DL.i_list_none, DL.i_list_bool, DL.i_list_int, DL.i_list_str, DL.i_list_list, DL.i_list_tuple, DL.e_v0, DL.e_t0, DL.e_s0_0, DL.e_s0_1, DL.e_s0_2, DL.e_v1, DL.e_t1, DL.e_s1_0, DL.e_s1_1, DL.e_s1_2, DL.e_s1_3, DL.e_v2, DL.e_t2, DL.e_s2_0, DL.e_s2_1, DL.e_s2_2, DL.e_s2_3, DL.e_v3, DL.e_t3, DL.e_s3_0, DL.e_s3_1, DL.e_s3_2, DL.e_s3_3, DL.e_v4, DL.e_t4, DL.e_s4_0, DL.e_s4_1, DL.e_s4_2, DL.e_s4_3, DL.e_v5, DL.e_t5, DL.e_s5_0, DL.e_s5_1, DL.e_s5_2, DL.e_s5_3, DL.e_v6, DL.e_t6, DL.e_s6_0, DL.e_s6_1, DL.e_s6_2, DL.e_s6_3, DL.e_v7, DL.e_t7, DL.e_s7_0, DL.e_s7_1, DL.e_s7_2, DL.e_s7_3]) in_names2 ne_badF s2
  have t2 := told_if (c := "InvalidForest") (δ := lS l F (.d b) s4 s5 s6) (f := vApp ph_votes_form (vCons (vVar 3) vNil)) (by rw [no]; simp only [e2, DL.e_g1, DL.e_g2, DL.e_g3, DL.e_g4, DL.e_g5, DL.e_g6, DL.e_g7, DL.e_g8, DL.e_w8, DL.e_g9, DL.e_w9, DL.e_g10, DL.e_w10, DL.e_g11, DL.e_w11, DL.e_g12, DL.e_w12, DL.e_o1, DL.e_u1, DL.e_o2, DL.e_u2, DL.e_o3, DL.e_u3, DL.e_o4, DL.e_u4, DL.e_o5, DL.e_u5, DL.e_o6, DL.e_u6, DL.e_o7, DL.e_u7, DL.e_o8, DL.e_u8, DL.e_o9, DL.e_u9, DL.e_o10, DL.e_u10, DL.e_o11, DL.e_u11, DL.e_o12, DL.e_u12, DL.e_o0, DL.e_u0, DL.runP, DL.runN, DL.startD, List.map, List.length, List.replicate, List.append_nil, List.cons_append, List.nil_append, DL.e_bo, DL.e_be, DL.e_bb, DL.e_ao, DL.e_ae, DL.e_no, DL.e_nb, DL.e_cd, DL.e_cn, DL.e_ct, DL.e_co, DL.e_ce, DL.e_op, DL.e_if, DL.e_seq, DL.vOr, DL.vAnd, DL.vNot, DL.vTest, DL.vIsi, DL.vCall, DL.vCons, DL.vNil, DL.vConst, DL.vRet, DL.vNext, DL.vApp, DL.vNeg, DL.vChain, DL.vAndV, DL.vOrV, DL.vNotV, DL.vIf, ite_true, ite_false, if_true, if_false, Nat.reduceAdd, Nat.reduceSub, Nat.reduceEqDiff, reduceIte, Bool.true_and, Bool.and_true, Bool.not_true, Bool.not_false, Bool.false_eq_true, DL.endP, DL.endN, DL.cz2, DL.cz3, DL.cz4, DL.cz5, DL.cz6, DL.cz7, DL.cz8, DL.cz9, Int.natCast_add, Int.natCast_zero, Int.natCast_one, decide_true, decide_false, eq_self, not_true, not_false_eq_true, Bool.not_eq_true, DL.e_len_t, DL.e_len_l, DL.e_eq_ii, DL.e_ne_ii, DL.e_lt_ii, DL.e_le_ii, DL.e_gt_ii, DL.e_ge_ii, DL.e_ix_t0, DL.e_ix_t1, DL.e_ix_t2, DL.e_ix_t3, DL.e_ix_t4, DL.e_gcd, DL.p_none, DL.p_bool, DL.p_int, DL.p_str, DL.p_list, DL.p_tuple, DL.i_int_none, DL.i_int_bool, DL.i_int_int, DL.i_int_str, DL.i_int_list, DL.i_int_tuple, DL.i_bool_none, DL.i_bool_bool, DL.i_bool_int, DL.i_bool_str, DL.i_bool_list, DL.i_bool_tuple, DL.i_str_none, DL.i_str_bool, DL.i_str_int, DL.i_str_str, DL.i_str_list, DL.i_str_tuple, DL.i_tuple_none, DL.i_tuple_bool, DL.i_tuple_int, DL.i_tuple_str, DL.i_tuple_list, DL.i_tuple_tuple, DL.i_list_none, DL.i_list_bool, DL.i_list_int, DL.i_list_str, DL.i_list_list, DL.i_list_tuple, DL.e_v0, DL.e_t0, DL.e_s0_0, DL.e_s0_1, DL.e_s0_2, DL.e_v1, DL.e_t1, DL.e_s1_0, DL.e_s1_1, DL.e_s1_2, DL.e_s1_3, DL.e_v2, DL.e_t2, DL.e_s2_0, DL.e_s2_1, DL.e_s2_2, DL.e_s2_3, DL.e_v3, DL.e_t3, DL.e_s3_0, DL.e_s3_1, DL.e_s3_2, DL.e_s3_3, DL.e_v4, DL.e_t4, DL.e_s4_0, DL.e_s4_1, DL.e_s4_2, DL.e_s4_3, DL.e_v5, DL.e_t5, DL.e_s5_0, DL.e_s5_1, DL.e_s5_2, DL.e_s5_3, DL.e_v6, DL.e_t6, DL.e_s6_0, DL.e_s6_1, DL.e_s6_2, DL.e_s6_3, DL.e_v7, DL.e_t7, DL.e_s7_0, DL.e_s7_1, DL.e_s7_2, DL.e_s7_3]) in_names2 ne_badF s2
  have t3 := told_if (c := "InvalidForest") (δ := lS l F (.d b) s4 s5 s6) (f := vApp ph_joined (vCons (vVar 2) (vCons (vVar 3) vNil))) (by rw [no]; simp only [e3, DL.e_g1, DL.e_g2, DL.e_g3, DL.e_g4, DL.e_g5, DL.e_g6, DL.e_g7, DL.e_g8, DL.e_w8, DL.e_g9, DL.e_w9, DL.e_g10, DL.e_w10, DL.e_g11, DL.e_w11, DL.e_g12, DL.e_w12, DL.e_o1, DL.e_u1, DL.e_o2, DL.e_u2, DL.e_o3, DL.e_u3, DL.e_o4, DL.e_u4, DL.e_o5, DL.e_u5, DL.e_o6, DL.e_u6, DL.e_o7, DL.e_u7, DL.e_o8, DL.e_u8, DL.e_o9, DL.e_u9, DL.e_o10, DL.e_u10, DL.e_o11, DL.e_u11, DL.e_o12, DL.e_u12, DL.e_o0, DL.e_u0, DL.runP, DL.runN, DL.startD, List.map, List.length, List.replicate, List.append_nil, List.cons_append, List.nil_append, DL.e_bo, DL.e_be, DL.e_bb, DL.e_ao, DL.e_ae, DL.e_no, DL.e_nb, DL.e_cd, DL.e_cn, DL.e_ct, DL.e_co, DL.e_ce, DL.e_op, DL.e_if, DL.e_seq, DL.vOr, DL.vAnd, DL.vNot, DL.vTest, DL.vIsi, DL.vCall, DL.vCons, DL.vNil, DL.vConst, DL.vRet, DL.vNext, DL.vApp, DL.vNeg, DL.vChain, DL.vAndV, DL.vOrV, DL.vNotV, DL.vIf, ite_true, ite_false, if_true, if_false, Nat.reduceAdd, Nat.reduceSub, Nat.reduceEqDiff, reduceIte, Bool.true_and, Bool.and_true, Bool.not_true, Bool.not_false, Bool.false_eq_true, DL.endP, DL.endN, DL.cz2, DL.cz3, DL.cz4, DL.cz5, DL.cz6, DL.cz7, DL.cz8, DL.cz9, Int.natCast_add, Int.natCast_zero, Int.natCast_one, decide_true, decide_false, eq_self, not_true, not_false_eq_true, Bool.not_eq_true, DL.e_len_t, DL.e_len_l, DL.e_eq_ii, DL.e_ne_ii, DL.e_lt_ii, DL.e_le_ii, DL.e_gt_ii, DL.e_ge_ii, DL.e_ix_t0, DL.e_ix_t1, DL.e_ix_t2, DL.e_ix_t3, DL.e_ix_t4, DL.e_gcd, DL.p_none, DL.p_bool, DL.p_int, DL.p_str, DL.p_list, DL.p_tuple, DL.i_int_none, DL.i_int_bool, DL.i_int_int, DL.i_int_str, DL.i_int_list, DL.i_int_tuple, DL.i_bool_none, DL.i_bool_bool, DL.i_bool_int, DL.i_bool_str, DL.i_bool_list, DL.i_bool_tuple, DL.i_str_none, DL.i_str_bool, DL.i_str_int, DL.i_str_str, DL.i_str_list, DL.i_str_tuple, DL.i_tuple_none, DL.i_tuple_bool, DL.i_tuple_int, DL.i_tuple_str, DL.i_tuple_list, DL.i_tuple_tuple, DL.i_list_none, DL.i_list_bool, DL.i_list_int, DL.i_list_str, DL.i_list_list, DL.i_list_tuple, DL.e_v0, DL.e_t0, DL.e_s0_0, DL.e_s0_1, DL.e_s0_2, DL.e_v1, DL.e_t1, DL.e_s1_0, DL.e_s1_1, DL.e_s1_2, DL.e_s1_3, DL.e_v2, DL.e_t2, DL.e_s2_0, DL.e_s2_1, DL.e_s2_2, DL.e_s2_3, DL.e_v3, DL.e_t3, DL.e_s3_0, DL.e_s3_1, DL.e_s3_2, DL.e_s3_3, DL.e_v4, DL.e_t4, DL.e_s4_0, DL.e_s4_1, DL.e_s4_2, DL.e_s4_3, DL.e_v5, DL.e_t5, DL.e_s5_0, DL.e_s5_1, DL.e_s5_2, DL.e_s5_3, DL.e_v6, DL.e_t6, DL.e_s6_0, DL.e_s6_1, DL.e_s6_2, DL.e_s6_3, DL.e_v7, DL.e_t7, DL.e_s7_0, DL.e_s7_1, DL.e_s7_2, DL.e_s7_3]) in_names2 ne_badF s2
  unfold badB
  refine seq_nx (δ1 := lS l F (.d b) s4 s5 s6) (if2_f (δ1 := lS l F (.d b) s4 s5 s6) ?_ rfl) (seq_nx (δ1 := lS l F (.d b) s4 s5 s6) (if2_f t2 rfl) (if2_f t3 rfl))
  have f : (vTest (vApp ph_is_forest (vCons (vVar 3) vNil))) (lS l F (.d b) s4 s5 s6) = .ok (false, lS l F (.d b) s4 s5 s6) := by
    unfold lS
    simp only [hb, DL.e_g1, DL.e_g2, DL.e_g3, DL.e_g4, DL.e_g5, DL.e_g6, DL.e_g7, DL.e_g8, DL.e_w8, DL.e_g9, DL.e_w9, DL.e_g10, DL.e_w10, DL.e_g11, DL.e_w11, DL.e_g12, DL.e_w12, DL.e_o1, DL.e_u1, DL.e_o2, DL.e_u2, DL.e_o3, DL.e_u3, DL.e_o4, DL.e_u4, DL.e_o5, DL.e_u5, DL.e_o6, DL.e_u6, DL.e_o7, DL.e_u7, DL.e_o8, DL.e_u8, DL.e_o9, DL.e_u9, DL.e_o10, DL.e_u10, DL.e_o11, DL.e_u11, DL.e_o12, DL.e_u12, DL.e_o0, DL.e_u0, DL.runP, DL.runN, DL.startD, List.map, List.length, List.replicate, List.append_nil, List.cons_append, List.nil_append, DL.e_bo, DL.e_be, DL.e_bb, DL.e_ao, DL.e_ae, DL.e_no, DL.e_nb, DL.e_cd, DL.e_cn, DL.e_ct, DL.e_co, DL.e_ce, DL.e_op, DL.e_if, DL.e_seq, DL.vOr, DL.vAnd, DL.vNot, DL.vTest, DL.vIsi, DL.vCall, DL.vCons, DL.vNil, DL.vConst, DL.vRet, DL.vNext, DL.vApp, DL.vNeg, DL.vChain, DL.vAndV, DL.vOrV, DL.vNotV, DL.vIf, ite_true, ite_false, if_true, if_false, Nat.reduceAdd, Nat.reduceSub, Nat.reduceEqDiff, reduceIte, Bool.true_and, Bool.and_true, Bool.not_true, Bool.not_false, Bool.false_eq_true, DL.endP, DL.endN, DL.cz2, DL.cz3, DL.cz4, DL.cz5, DL.cz6, DL.cz7, DL.cz8, DL.cz9, Int.natCast_add, Int.natCast_zero, Int.natCast_one, decide_true, decide_false, eq_self, not_true, not_false_eq_true, Bool.not_eq_true, DL.e_len_t, DL.e_len_l, DL.e_eq_ii, DL.e_ne_ii, DL.e_lt_ii, DL.e_le_ii, DL.e_gt_ii, DL.e_ge_ii, DL.e_ix_t0, DL.e_ix_t1, DL.e_ix_t2, DL.e_ix_t3, DL.e_ix_t4, DL.e_gcd, DL.p_none, DL.p_bool, DL.p_int, DL.p_str, DL.p_list, DL.p_tuple, DL.i_int_none, DL.i_int_bool, DL.i_int_int, DL.i_int_str, DL.i_int_list, DL.i_int_tuple, DL.i_bool_none, DL.i_bool_bool, DL.i_bool_int, DL.i_bool_str, DL.i_bool_list, DL.i_bool_tuple, DL.i_str_none, DL.i_str_bool, DL.i_str_int, DL.i_str_str, DL.i_str_list, DL.i_str_tuple, DL.i_tuple_none, DL.i_tuple_bool, DL.i_tuple_int, DL.i_tuple_str, DL.i_tuple_list, DL.i_tuple_tuple, DL.i_list_none, DL.i_list_bool, DL.i_list_int, DL.i_list_str, DL.i_list_list, DL.i_list_tuple, DL.e_v0, DL.e_t0, DL.e_s0_0, DL.e_s0_1, DL.e_s0_2, DL.e_v1, DL.e_t1, DL.e_s1_0, DL.e_s1_1, DL.e_s1_2, DL.e_s1_3, DL.e_v2, DL.e_t2, DL.e_s2_0, DL.e_s2_1, DL.e_s2_2, DL.e_s2_3, DL.e_v3, DL.e_t3, DL.e_s3_0, DL.e_s3_1, DL.e_s3_2, DL.e_s3_3, DL.e_v4, DL.e_t4, DL.e_s4_0, DL.e_s4_1, DL.e_s4_2, DL.e_s4_3, DL.e_v5, DL.e_t5, DL.e_s5_0, DL.e_s5_1, DL.e_s5_2, DL.e_s5_3, DL.e_v6, DL.e_t6, DL.e_s6_0, DL.e_s6_1, DL.e_s6_2, DL.e_s6_3, DL.e_v7, DL.e_t7, DL.e_s7_0, DL.e_s7_1, DL.e_s7_2, DL.e_s7_3]
  unfold vOr
  rw [f, e_bo, if_neg Bool.false_ne_true]
  exact t1
theorem bads {ks ts : List PyData} {ans : Int} (hF : ForestV ks ans ts) (l : List PyData) (s4 s5 s6 : Sl) : ∀ (bs : List PyData) (s3 : Sl), (∀ b ∈ bs, ph_is_forest [b] = .ok (.bool false)) → ∃ t3, vForL (wName 3) badB bs (lS l (fT ks ans ts) s3 s4 s5 s6) = .ok (.nx, lS l (fT ks ans ts) t3 s4 s5 s6)
  | [], s3, _ => ⟨s3, rfl⟩
  | b :: bs, s3, h => by
    have h1 := bad_at hF (h b List.mem_cons_self) l s4 s5 s6
    obtain ⟨t3, h2⟩ := bads hF l s4 s5 s6 bs (.d b) fun x hx => h x (List.mem_cons_of_mem _ hx)
    refine ⟨t3, ?_⟩
    unfold lS at h1 h2 ⊢
    rw [vForL, wName, e_g3, e_no, e_bo, h1, e_bo]
    exact h2
/-- the law's own count -/
def rK (d : PyData) : Option PyData := match ph__law_tests 9 [d] with
  | .ok (.list L) => some (.int ((L.length : Int) + 1))
  | _ => none
theorem Cnt.map2 {ts : List PyData} {cs : List Int} (h : Cnt ts cs) : ts.filterMap rK = cs.map .int := by
  induction h with
  | nil => rfl
  | cons _ h2 _ ih =>
    obtain ⟨L, e, hl⟩ := h2
    rw [List.filterMap_cons]
    unfold rK at ih ⊢
    rw [e]
    dsimp only
    rw [ih, List.map_cons, hl]
theorem law_count {ks ts : List PyData} {ans : Int} {cs : List Int} (h : Cnt ts cs) (t4 : ts.length ≤ 4) (l : List PyData) (s3 s4 s5 : Sl) :
    (vCall gSum (vCons (vComp (vItems (vOp gIx (vVar 2) (vConst (.int 2)))) (wName 6) vTrue (vOp gAdd (vCall gLen (vCons (vApp (ph__law_tests 9) (vCons (vVar 6) vNil)) vNil)) (vConst (.int 1))) [6]) vNil)) (lS l (fT ks ans ts) .no .no .no .no) = .ok (.int cs.sum, lS l (fT ks ans ts) .no .no .no .no) := by
  have s := sum_ints cs
  have c := comp_pure (wi := vItems (vOp gIx (vVar 2) (vConst (.int 2)))) (g := wName 6) (t := vTrue) (f := vOp gAdd (vCall gLen (vCons (vApp (ph__law_tests 9) (vCons (vVar 6) vNil)) vNil)) (vConst (.int 1))) (vs := [6]) (δ := lS l (fT ks ans ts) .no .no .no .no) (ds := ts) rK rfl rfl (sz (by omega)) fun d hd => by
    obtain ⟨c, _, L, hL, hl⟩ := h.each d hd
    have e : rK d = some (.int ((L.length : Int) + 1)) := by unfold rK; rw [hL]
    have ll : gLen [.list L] = .ok (.int (L.length : Int)) := rfl
    rw [e]
    generalize (L.length : Int) = n at ll
    refine ⟨lS l (fT ks ans ts) .no .no .no (.d d), rfl, true, lS l (fT ks ans ts) .no .no .no (.d d), rfl, rfl, lS l (fT ks ans ts) .no .no .no (.d d), ?_, rfl⟩
    unfold lS
    simp only [hL, ll, e_add, DL.e_g1, DL.e_g2, DL.e_g3, DL.e_g4, DL.e_g5, DL.e_g6, DL.e_g7, DL.e_g8, DL.e_w8, DL.e_g9, DL.e_w9, DL.e_g10, DL.e_w10, DL.e_g11, DL.e_w11, DL.e_g12, DL.e_w12, DL.e_o1, DL.e_u1, DL.e_o2, DL.e_u2, DL.e_o3, DL.e_u3, DL.e_o4, DL.e_u4, DL.e_o5, DL.e_u5, DL.e_o6, DL.e_u6, DL.e_o7, DL.e_u7, DL.e_o8, DL.e_u8, DL.e_o9, DL.e_u9, DL.e_o10, DL.e_u10, DL.e_o11, DL.e_u11, DL.e_o12, DL.e_u12, DL.e_o0, DL.e_u0, DL.runP, DL.runN, DL.startD, List.map, List.length, List.replicate, List.append_nil, List.cons_append, List.nil_append, DL.e_bo, DL.e_be, DL.e_bb, DL.e_ao, DL.e_ae, DL.e_no, DL.e_nb, DL.e_cd, DL.e_cn, DL.e_ct, DL.e_co, DL.e_ce, DL.e_op, DL.e_if, DL.e_seq, DL.vOr, DL.vAnd, DL.vNot, DL.vTest, DL.vIsi, DL.vCall, DL.vCons, DL.vNil, DL.vConst, DL.vRet, DL.vNext, DL.vApp, DL.vNeg, DL.vChain, DL.vAndV, DL.vOrV, DL.vNotV, DL.vIf, ite_true, ite_false, if_true, if_false, Nat.reduceAdd, Nat.reduceSub, Nat.reduceEqDiff, reduceIte, Bool.true_and, Bool.and_true, Bool.not_true, Bool.not_false, Bool.false_eq_true, DL.endP, DL.endN, DL.cz2, DL.cz3, DL.cz4, DL.cz5, DL.cz6, DL.cz7, DL.cz8, DL.cz9, Int.natCast_add, Int.natCast_zero, Int.natCast_one, decide_true, decide_false, eq_self, not_true, not_false_eq_true, Bool.not_eq_true, DL.e_len_t, DL.e_len_l, DL.e_eq_ii, DL.e_ne_ii, DL.e_lt_ii, DL.e_le_ii, DL.e_gt_ii, DL.e_ge_ii, DL.e_ix_t0, DL.e_ix_t1, DL.e_ix_t2, DL.e_ix_t3, DL.e_ix_t4, DL.e_gcd, DL.p_none, DL.p_bool, DL.p_int, DL.p_str, DL.p_list, DL.p_tuple, DL.i_int_none, DL.i_int_bool, DL.i_int_int, DL.i_int_str, DL.i_int_list, DL.i_int_tuple, DL.i_bool_none, DL.i_bool_bool, DL.i_bool_int, DL.i_bool_str, DL.i_bool_list, DL.i_bool_tuple, DL.i_str_none, DL.i_str_bool, DL.i_str_int, DL.i_str_str, DL.i_str_list, DL.i_str_tuple, DL.i_tuple_none, DL.i_tuple_bool, DL.i_tuple_int, DL.i_tuple_str, DL.i_tuple_list, DL.i_tuple_tuple, DL.i_list_none, DL.i_list_bool, DL.i_list_int, DL.i_list_str, DL.i_list_list, DL.i_list_tuple, DL.e_v0, DL.e_t0, DL.e_s0_0, DL.e_s0_1, DL.e_s0_2, DL.e_v1, DL.e_t1, DL.e_s1_0, DL.e_s1_1, DL.e_s1_2, DL.e_s1_3, DL.e_v2, DL.e_t2, DL.e_s2_0, DL.e_s2_1, DL.e_s2_2, DL.e_s2_3, DL.e_v3, DL.e_t3, DL.e_s3_0, DL.e_s3_1, DL.e_s3_2, DL.e_s3_3, DL.e_v4, DL.e_t4, DL.e_s4_0, DL.e_s4_1, DL.e_s4_2, DL.e_s4_3, DL.e_v5, DL.e_t5, DL.e_s5_0, DL.e_s5_1, DL.e_s5_2, DL.e_s5_3, DL.e_v6, DL.e_t6, DL.e_s6_0, DL.e_s6_1, DL.e_s6_2, DL.e_s6_3, DL.e_v7, DL.e_t7, DL.e_s7_0, DL.e_s7_1, DL.e_s7_2, DL.e_s7_3]
  rw [h.map2] at c
  generalize cs.map PyData.int = q at c s
  unfold lS at c ⊢
  simp only [c, s, DL.e_g1, DL.e_g2, DL.e_g3, DL.e_g4, DL.e_g5, DL.e_g6, DL.e_g7, DL.e_g8, DL.e_w8, DL.e_g9, DL.e_w9, DL.e_g10, DL.e_w10, DL.e_g11, DL.e_w11, DL.e_g12, DL.e_w12, DL.e_o1, DL.e_u1, DL.e_o2, DL.e_u2, DL.e_o3, DL.e_u3, DL.e_o4, DL.e_u4, DL.e_o5, DL.e_u5, DL.e_o6, DL.e_u6, DL.e_o7, DL.e_u7, DL.e_o8, DL.e_u8, DL.e_o9, DL.e_u9, DL.e_o10, DL.e_u10, DL.e_o11, DL.e_u11, DL.e_o12, DL.e_u12, DL.e_o0, DL.e_u0, DL.runP, DL.runN, DL.startD, List.map, List.length, List.replicate, List.append_nil, List.cons_append, List.nil_append, DL.e_bo, DL.e_be, DL.e_bb, DL.e_ao, DL.e_ae, DL.e_no, DL.e_nb, DL.e_cd, DL.e_cn, DL.e_ct, DL.e_co, DL.e_ce, DL.e_op, DL.e_if, DL.e_seq, DL.vOr, DL.vAnd, DL.vNot, DL.vTest, DL.vIsi, DL.vCall, DL.vCons, DL.vNil, DL.vConst, DL.vRet, DL.vNext, DL.vApp, DL.vNeg, DL.vChain, DL.vAndV, DL.vOrV, DL.vNotV, DL.vIf, ite_true, ite_false, if_true, if_false, Nat.reduceAdd, Nat.reduceSub, Nat.reduceEqDiff, reduceIte, Bool.true_and, Bool.and_true, Bool.not_true, Bool.not_false, Bool.false_eq_true, DL.endP, DL.endN, DL.cz2, DL.cz3, DL.cz4, DL.cz5, DL.cz6, DL.cz7, DL.cz8, DL.cz9, Int.natCast_add, Int.natCast_zero, Int.natCast_one, decide_true, decide_false, eq_self, not_true, not_false_eq_true, Bool.not_eq_true, DL.e_len_t, DL.e_len_l, DL.e_eq_ii, DL.e_ne_ii, DL.e_lt_ii, DL.e_le_ii, DL.e_gt_ii, DL.e_ge_ii, DL.e_ix_t0, DL.e_ix_t1, DL.e_ix_t2, DL.e_ix_t3, DL.e_ix_t4, DL.e_gcd, DL.p_none, DL.p_bool, DL.p_int, DL.p_str, DL.p_list, DL.p_tuple, DL.i_int_none, DL.i_int_bool, DL.i_int_int, DL.i_int_str, DL.i_int_list, DL.i_int_tuple, DL.i_bool_none, DL.i_bool_bool, DL.i_bool_int, DL.i_bool_str, DL.i_bool_list, DL.i_bool_tuple, DL.i_str_none, DL.i_str_bool, DL.i_str_int, DL.i_str_str, DL.i_str_list, DL.i_str_tuple, DL.i_tuple_none, DL.i_tuple_bool, DL.i_tuple_int, DL.i_tuple_str, DL.i_tuple_list, DL.i_tuple_tuple, DL.i_list_none, DL.i_list_bool, DL.i_list_int, DL.i_list_str, DL.i_list_list, DL.i_list_tuple, DL.e_v0, DL.e_t0, DL.e_s0_0, DL.e_s0_1, DL.e_s0_2, DL.e_v1, DL.e_t1, DL.e_s1_0, DL.e_s1_1, DL.e_s1_2, DL.e_s1_3, DL.e_v2, DL.e_t2, DL.e_s2_0, DL.e_s2_1, DL.e_s2_2, DL.e_s2_3, DL.e_v3, DL.e_t3, DL.e_s3_0, DL.e_s3_1, DL.e_s3_2, DL.e_s3_3, DL.e_v4, DL.e_t4, DL.e_s4_0, DL.e_s4_1, DL.e_s4_2, DL.e_s4_3, DL.e_v5, DL.e_t5, DL.e_s5_0, DL.e_s5_1, DL.e_s5_2, DL.e_s5_3, DL.e_v6, DL.e_t6, DL.e_s6_0, DL.e_s6_1, DL.e_s6_2, DL.e_s6_3, DL.e_v7, DL.e_t7, DL.e_s7_0, DL.e_s7_1, DL.e_s7_2, DL.e_s7_3]
theorem mul4 (t : PyData) : gMul (.tuple [t]) (.int 4) = .ok (.tuple [t, t, t, t]) := by kernel_rfl
theorem turn_ok : TurnOk := fun c => by
  obtain ⟨ks, ans, ts, l1, f1, f2, hF⟩ := m_forest (ls := [.int c, .int 0]) ⟨c, 0, rfl⟩ (tr := 4) (lv := 8) (by decide) (by decide)
  obtain ⟨cs, hc⟩ := cnt_of ts hF.tv
  have i1 := m_is_forest hF
  have c1 := m_count hF hc
  have c2 := law_count (ks := ks) (ans := ans) hc hF.t4 l1 .no .no .no
  have n1 := ne_int cs.sum
  obtain ⟨B, b1, b2, b3⟩ := bad_no hF
  obtain ⟨t3, q1⟩ := bads hF l1 .no .no .no B .no b3
  have s2 : 2 ≤ sizeLine := sz (by decide)
  have s1 : 1 ≤ sizeLine := sz (by decide)
  have s3 : 3 ≤ sizeLine := sz (by decide)
  have s5 : 5 ≤ sizeLine := sz (by decide)
  refine ⟨lS l1 (fT ks ans ts) t3 (.d lf3) (.d wideT) .no, ?_, rfl⟩
  show b_law [.no, .own [.int c, .int 0], .no, .no, .no, .no, .no] = _
  generalize fT ks ans ts = F at f1 i1 c1 c2 b1 q1
  unfold b_law
  refine seq_nx (δ1 := lS l1 F .no .no .no .no) ?_ ?_
  · unfold lS; simp only [vSet, vAppM, f1, DL.e_g1, DL.e_g2, DL.e_g3, DL.e_g4, DL.e_g5, DL.e_g6, DL.e_g7, DL.e_g8, DL.e_w8, DL.e_g9, DL.e_w9, DL.e_g10, DL.e_w10, DL.e_g11, DL.e_w11, DL.e_g12, DL.e_w12, DL.e_o1, DL.e_u1, DL.e_o2, DL.e_u2, DL.e_o3, DL.e_u3, DL.e_o4, DL.e_u4, DL.e_o5, DL.e_u5, DL.e_o6, DL.e_u6, DL.e_o7, DL.e_u7, DL.e_o8, DL.e_u8, DL.e_o9, DL.e_u9, DL.e_o10, DL.e_u10, DL.e_o11, DL.e_u11, DL.e_o12, DL.e_u12, DL.e_o0, DL.e_u0, DL.runP, DL.runN, DL.startD, List.map, List.length, List.replicate, List.append_nil, List.cons_append, List.nil_append, DL.e_bo, DL.e_be, DL.e_bb, DL.e_ao, DL.e_ae, DL.e_no, DL.e_nb, DL.e_cd, DL.e_cn, DL.e_ct, DL.e_co, DL.e_ce, DL.e_op, DL.e_if, DL.e_seq, DL.vOr, DL.vAnd, DL.vNot, DL.vTest, DL.vIsi, DL.vCall, DL.vCons, DL.vNil, DL.vConst, DL.vRet, DL.vNext, DL.vApp, DL.vNeg, DL.vChain, DL.vAndV, DL.vOrV, DL.vNotV, DL.vIf, ite_true, ite_false, if_true, if_false, Nat.reduceAdd, Nat.reduceSub, Nat.reduceEqDiff, reduceIte, Bool.true_and, Bool.and_true, Bool.not_true, Bool.not_false, Bool.false_eq_true, DL.endP, DL.endN, DL.cz2, DL.cz3, DL.cz4, DL.cz5, DL.cz6, DL.cz7, DL.cz8, DL.cz9, Int.natCast_add, Int.natCast_zero, Int.natCast_one, decide_true, decide_false, eq_self, not_true, not_false_eq_true, Bool.not_eq_true, DL.e_len_t, DL.e_len_l, DL.e_eq_ii, DL.e_ne_ii, DL.e_lt_ii, DL.e_le_ii, DL.e_gt_ii, DL.e_ge_ii, DL.e_ix_t0, DL.e_ix_t1, DL.e_ix_t2, DL.e_ix_t3, DL.e_ix_t4, DL.e_gcd, DL.p_none, DL.p_bool, DL.p_int, DL.p_str, DL.p_list, DL.p_tuple, DL.i_int_none, DL.i_int_bool, DL.i_int_int, DL.i_int_str, DL.i_int_list, DL.i_int_tuple, DL.i_bool_none, DL.i_bool_bool, DL.i_bool_int, DL.i_bool_str, DL.i_bool_list, DL.i_bool_tuple, DL.i_str_none, DL.i_str_bool, DL.i_str_int, DL.i_str_str, DL.i_str_list, DL.i_str_tuple, DL.i_tuple_none, DL.i_tuple_bool, DL.i_tuple_int, DL.i_tuple_str, DL.i_tuple_list, DL.i_tuple_tuple, DL.i_list_none, DL.i_list_bool, DL.i_list_int, DL.i_list_str, DL.i_list_list, DL.i_list_tuple, DL.e_v0, DL.e_t0, DL.e_s0_0, DL.e_s0_1, DL.e_s0_2, DL.e_v1, DL.e_t1, DL.e_s1_0, DL.e_s1_1, DL.e_s1_2, DL.e_s1_3, DL.e_v2, DL.e_t2, DL.e_s2_0, DL.e_s2_1, DL.e_s2_2, DL.e_s2_3, DL.e_v3, DL.e_t3, DL.e_s3_0, DL.e_s3_1, DL.e_s3_2, DL.e_s3_3, DL.e_v4, DL.e_t4, DL.e_s4_0, DL.e_s4_1, DL.e_s4_2, DL.e_s4_3, DL.e_v5, DL.e_t5, DL.e_s5_0, DL.e_s5_1, DL.e_s5_2, DL.e_s5_3, DL.e_v6, DL.e_t6, DL.e_s6_0, DL.e_s6_1, DL.e_s6_2, DL.e_s6_3, DL.e_v7, DL.e_t7, DL.e_s7_0, DL.e_s7_1, DL.e_s7_2, DL.e_s7_3]
  refine seq_nx (δ1 := lS l1 F .no .no .no .no) ?_ ?_
  · unfold lS; simp only [i1, DL.e_g1, DL.e_g2, DL.e_g3, DL.e_g4, DL.e_g5, DL.e_g6, DL.e_g7, DL.e_g8, DL.e_w8, DL.e_g9, DL.e_w9, DL.e_g10, DL.e_w10, DL.e_g11, DL.e_w11, DL.e_g12, DL.e_w12, DL.e_o1, DL.e_u1, DL.e_o2, DL.e_u2, DL.e_o3, DL.e_u3, DL.e_o4, DL.e_u4, DL.e_o5, DL.e_u5, DL.e_o6, DL.e_u6, DL.e_o7, DL.e_u7, DL.e_o8, DL.e_u8, DL.e_o9, DL.e_u9, DL.e_o10, DL.e_u10, DL.e_o11, DL.e_u11, DL.e_o12, DL.e_u12, DL.e_o0, DL.e_u0, DL.runP, DL.runN, DL.startD, List.map, List.length, List.replicate, List.append_nil, List.cons_append, List.nil_append, DL.e_bo, DL.e_be, DL.e_bb, DL.e_ao, DL.e_ae, DL.e_no, DL.e_nb, DL.e_cd, DL.e_cn, DL.e_ct, DL.e_co, DL.e_ce, DL.e_op, DL.e_if, DL.e_seq, DL.vOr, DL.vAnd, DL.vNot, DL.vTest, DL.vIsi, DL.vCall, DL.vCons, DL.vNil, DL.vConst, DL.vRet, DL.vNext, DL.vApp, DL.vNeg, DL.vChain, DL.vAndV, DL.vOrV, DL.vNotV, DL.vIf, ite_true, ite_false, if_true, if_false, Nat.reduceAdd, Nat.reduceSub, Nat.reduceEqDiff, reduceIte, Bool.true_and, Bool.and_true, Bool.not_true, Bool.not_false, Bool.false_eq_true, DL.endP, DL.endN, DL.cz2, DL.cz3, DL.cz4, DL.cz5, DL.cz6, DL.cz7, DL.cz8, DL.cz9, Int.natCast_add, Int.natCast_zero, Int.natCast_one, decide_true, decide_false, eq_self, not_true, not_false_eq_true, Bool.not_eq_true, DL.e_len_t, DL.e_len_l, DL.e_eq_ii, DL.e_ne_ii, DL.e_lt_ii, DL.e_le_ii, DL.e_gt_ii, DL.e_ge_ii, DL.e_ix_t0, DL.e_ix_t1, DL.e_ix_t2, DL.e_ix_t3, DL.e_ix_t4, DL.e_gcd, DL.p_none, DL.p_bool, DL.p_int, DL.p_str, DL.p_list, DL.p_tuple, DL.i_int_none, DL.i_int_bool, DL.i_int_int, DL.i_int_str, DL.i_int_list, DL.i_int_tuple, DL.i_bool_none, DL.i_bool_bool, DL.i_bool_int, DL.i_bool_str, DL.i_bool_list, DL.i_bool_tuple, DL.i_str_none, DL.i_str_bool, DL.i_str_int, DL.i_str_str, DL.i_str_list, DL.i_str_tuple, DL.i_tuple_none, DL.i_tuple_bool, DL.i_tuple_int, DL.i_tuple_str, DL.i_tuple_list, DL.i_tuple_tuple, DL.i_list_none, DL.i_list_bool, DL.i_list_int, DL.i_list_str, DL.i_list_list, DL.i_list_tuple, DL.e_v0, DL.e_t0, DL.e_s0_0, DL.e_s0_1, DL.e_s0_2, DL.e_v1, DL.e_t1, DL.e_s1_0, DL.e_s1_1, DL.e_s1_2, DL.e_s1_3, DL.e_v2, DL.e_t2, DL.e_s2_0, DL.e_s2_1, DL.e_s2_2, DL.e_s2_3, DL.e_v3, DL.e_t3, DL.e_s3_0, DL.e_s3_1, DL.e_s3_2, DL.e_s3_3, DL.e_v4, DL.e_t4, DL.e_s4_0, DL.e_s4_1, DL.e_s4_2, DL.e_s4_3, DL.e_v5, DL.e_t5, DL.e_s5_0, DL.e_s5_1, DL.e_s5_2, DL.e_s5_3, DL.e_v6, DL.e_t6, DL.e_s6_0, DL.e_s6_1, DL.e_s6_2, DL.e_s6_3, DL.e_v7, DL.e_t7, DL.e_s7_0, DL.e_s7_1, DL.e_s7_2, DL.e_s7_3]
  refine seq_nx (δ1 := lS l1 F .no .no .no .no) ?_ ?_
  · generalize (vCall gSum (vCons (vComp (vItems (vOp gIx (vVar 2) (vConst (.int 2)))) (wName 6) vTrue (vOp gAdd (vCall gLen (vCons (vApp (ph__law_tests 9) (vCons (vVar 6) vNil)) vNil)) (vConst (.int 1))) [6]) vNil)) = cc at c2
    unfold lS at c2 ⊢
    simp only [c1, c2, n1, DL.e_g1, DL.e_g2, DL.e_g3, DL.e_g4, DL.e_g5, DL.e_g6, DL.e_g7, DL.e_g8, DL.e_w8, DL.e_g9, DL.e_w9, DL.e_g10, DL.e_w10, DL.e_g11, DL.e_w11, DL.e_g12, DL.e_w12, DL.e_o1, DL.e_u1, DL.e_o2, DL.e_u2, DL.e_o3, DL.e_u3, DL.e_o4, DL.e_u4, DL.e_o5, DL.e_u5, DL.e_o6, DL.e_u6, DL.e_o7, DL.e_u7, DL.e_o8, DL.e_u8, DL.e_o9, DL.e_u9, DL.e_o10, DL.e_u10, DL.e_o11, DL.e_u11, DL.e_o12, DL.e_u12, DL.e_o0, DL.e_u0, DL.runP, DL.runN, DL.startD, List.map, List.length, List.replicate, List.append_nil, List.cons_append, List.nil_append, DL.e_bo, DL.e_be, DL.e_bb, DL.e_ao, DL.e_ae, DL.e_no, DL.e_nb, DL.e_cd, DL.e_cn, DL.e_ct, DL.e_co, DL.e_ce, DL.e_op, DL.e_if, DL.e_seq, DL.vOr, DL.vAnd, DL.vNot, DL.vTest, DL.vIsi, DL.vCall, DL.vCons, DL.vNil, DL.vConst, DL.vRet, DL.vNext, DL.vApp, DL.vNeg, DL.vChain, DL.vAndV, DL.vOrV, DL.vNotV, DL.vIf, ite_true, ite_false, if_true, if_false, Nat.reduceAdd, Nat.reduceSub, Nat.reduceEqDiff, reduceIte, Bool.true_and, Bool.and_true, Bool.not_true, Bool.not_false, Bool.false_eq_true, DL.endP, DL.endN, DL.cz2, DL.cz3, DL.cz4, DL.cz5, DL.cz6, DL.cz7, DL.cz8, DL.cz9, Int.natCast_add, Int.natCast_zero, Int.natCast_one, decide_true, decide_false, eq_self, not_true, not_false_eq_true, Bool.not_eq_true, DL.e_len_t, DL.e_len_l, DL.e_eq_ii, DL.e_ne_ii, DL.e_lt_ii, DL.e_le_ii, DL.e_gt_ii, DL.e_ge_ii, DL.e_ix_t0, DL.e_ix_t1, DL.e_ix_t2, DL.e_ix_t3, DL.e_ix_t4, DL.e_gcd, DL.p_none, DL.p_bool, DL.p_int, DL.p_str, DL.p_list, DL.p_tuple, DL.i_int_none, DL.i_int_bool, DL.i_int_int, DL.i_int_str, DL.i_int_list, DL.i_int_tuple, DL.i_bool_none, DL.i_bool_bool, DL.i_bool_int, DL.i_bool_str, DL.i_bool_list, DL.i_bool_tuple, DL.i_str_none, DL.i_str_bool, DL.i_str_int, DL.i_str_str, DL.i_str_list, DL.i_str_tuple, DL.i_tuple_none, DL.i_tuple_bool, DL.i_tuple_int, DL.i_tuple_str, DL.i_tuple_list, DL.i_tuple_tuple, DL.i_list_none, DL.i_list_bool, DL.i_list_int, DL.i_list_str, DL.i_list_list, DL.i_list_tuple, DL.e_v0, DL.e_t0, DL.e_s0_0, DL.e_s0_1, DL.e_s0_2, DL.e_v1, DL.e_t1, DL.e_s1_0, DL.e_s1_1, DL.e_s1_2, DL.e_s1_3, DL.e_v2, DL.e_t2, DL.e_s2_0, DL.e_s2_1, DL.e_s2_2, DL.e_s2_3, DL.e_v3, DL.e_t3, DL.e_s3_0, DL.e_s3_1, DL.e_s3_2, DL.e_s3_3, DL.e_v4, DL.e_t4, DL.e_s4_0, DL.e_s4_1, DL.e_s4_2, DL.e_s4_3, DL.e_v5, DL.e_t5, DL.e_s5_0, DL.e_s5_1, DL.e_s5_2, DL.e_s5_3, DL.e_v6, DL.e_t6, DL.e_s6_0, DL.e_s6_1, DL.e_s6_2, DL.e_s6_3, DL.e_v7, DL.e_t7, DL.e_s7_0, DL.e_s7_1, DL.e_s7_2, DL.e_s7_3]
  refine seq_nx (δ1 := lS l1 F t3 .no .no .no) ?_ ?_
  · unfold vFor2
    have e : (vItems (vApp ph__law_bad_forests (vCons (vVar 2) vNil))) (lS l1 F .no .no .no .no) = .ok (B, lS l1 F .no .no .no .no) := by
      have ib : itemsOf (.list B) = .ok B := rfl
      unfold lS
      simp only [vItems, b1, ib, DL.e_g1, DL.e_g2, DL.e_g3, DL.e_g4, DL.e_g5, DL.e_g6, DL.e_g7, DL.e_g8, DL.e_w8, DL.e_g9, DL.e_w9, DL.e_g10, DL.e_w10, DL.e_g11, DL.e_w11, DL.e_g12, DL.e_w12, DL.e_o1, DL.e_u1, DL.e_o2, DL.e_u2, DL.e_o3, DL.e_u3, DL.e_o4, DL.e_u4, DL.e_o5, DL.e_u5, DL.e_o6, DL.e_u6, DL.e_o7, DL.e_u7, DL.e_o8, DL.e_u8, DL.e_o9, DL.e_u9, DL.e_o10, DL.e_u10, DL.e_o11, DL.e_u11, DL.e_o12, DL.e_u12, DL.e_o0, DL.e_u0, DL.runP, DL.runN, DL.startD, List.map, List.length, List.replicate, List.append_nil, List.cons_append, List.nil_append, DL.e_bo, DL.e_be, DL.e_bb, DL.e_ao, DL.e_ae, DL.e_no, DL.e_nb, DL.e_cd, DL.e_cn, DL.e_ct, DL.e_co, DL.e_ce, DL.e_op, DL.e_if, DL.e_seq, DL.vOr, DL.vAnd, DL.vNot, DL.vTest, DL.vIsi, DL.vCall, DL.vCons, DL.vNil, DL.vConst, DL.vRet, DL.vNext, DL.vApp, DL.vNeg, DL.vChain, DL.vAndV, DL.vOrV, DL.vNotV, DL.vIf, ite_true, ite_false, if_true, if_false, Nat.reduceAdd, Nat.reduceSub, Nat.reduceEqDiff, reduceIte, Bool.true_and, Bool.and_true, Bool.not_true, Bool.not_false, Bool.false_eq_true, DL.endP, DL.endN, DL.cz2, DL.cz3, DL.cz4, DL.cz5, DL.cz6, DL.cz7, DL.cz8, DL.cz9, Int.natCast_add, Int.natCast_zero, Int.natCast_one, decide_true, decide_false, eq_self, not_true, not_false_eq_true, Bool.not_eq_true, DL.e_len_t, DL.e_len_l, DL.e_eq_ii, DL.e_ne_ii, DL.e_lt_ii, DL.e_le_ii, DL.e_gt_ii, DL.e_ge_ii, DL.e_ix_t0, DL.e_ix_t1, DL.e_ix_t2, DL.e_ix_t3, DL.e_ix_t4, DL.e_gcd, DL.p_none, DL.p_bool, DL.p_int, DL.p_str, DL.p_list, DL.p_tuple, DL.i_int_none, DL.i_int_bool, DL.i_int_int, DL.i_int_str, DL.i_int_list, DL.i_int_tuple, DL.i_bool_none, DL.i_bool_bool, DL.i_bool_int, DL.i_bool_str, DL.i_bool_list, DL.i_bool_tuple, DL.i_str_none, DL.i_str_bool, DL.i_str_int, DL.i_str_str, DL.i_str_list, DL.i_str_tuple, DL.i_tuple_none, DL.i_tuple_bool, DL.i_tuple_int, DL.i_tuple_str, DL.i_tuple_list, DL.i_tuple_tuple, DL.i_list_none, DL.i_list_bool, DL.i_list_int, DL.i_list_str, DL.i_list_list, DL.i_list_tuple, DL.e_v0, DL.e_t0, DL.e_s0_0, DL.e_s0_1, DL.e_s0_2, DL.e_v1, DL.e_t1, DL.e_s1_0, DL.e_s1_1, DL.e_s1_2, DL.e_s1_3, DL.e_v2, DL.e_t2, DL.e_s2_0, DL.e_s2_1, DL.e_s2_2, DL.e_s2_3, DL.e_v3, DL.e_t3, DL.e_s3_0, DL.e_s3_1, DL.e_s3_2, DL.e_s3_3, DL.e_v4, DL.e_t4, DL.e_s4_0, DL.e_s4_1, DL.e_s4_2, DL.e_s4_3, DL.e_v5, DL.e_t5, DL.e_s5_0, DL.e_s5_1, DL.e_s5_2, DL.e_s5_3, DL.e_v6, DL.e_t6, DL.e_s6_0, DL.e_s6_1, DL.e_s6_2, DL.e_s6_3, DL.e_v7, DL.e_t7, DL.e_s7_0, DL.e_s7_1, DL.e_s7_2, DL.e_s7_3]
    rw [e, e_bo]
    exact q1
  refine seq_nx (δ1 := lS l1 F t3 (.d lf3) .no .no) ?_ ?_
  · unfold lS lf3; simp only [vSet, vTup, s2, s3, DL.e_g1, DL.e_g2, DL.e_g3, DL.e_g4, DL.e_g5, DL.e_g6, DL.e_g7, DL.e_g8, DL.e_w8, DL.e_g9, DL.e_w9, DL.e_g10, DL.e_w10, DL.e_g11, DL.e_w11, DL.e_g12, DL.e_w12, DL.e_o1, DL.e_u1, DL.e_o2, DL.e_u2, DL.e_o3, DL.e_u3, DL.e_o4, DL.e_u4, DL.e_o5, DL.e_u5, DL.e_o6, DL.e_u6, DL.e_o7, DL.e_u7, DL.e_o8, DL.e_u8, DL.e_o9, DL.e_u9, DL.e_o10, DL.e_u10, DL.e_o11, DL.e_u11, DL.e_o12, DL.e_u12, DL.e_o0, DL.e_u0, DL.runP, DL.runN, DL.startD, List.map, List.length, List.replicate, List.append_nil, List.cons_append, List.nil_append, DL.e_bo, DL.e_be, DL.e_bb, DL.e_ao, DL.e_ae, DL.e_no, DL.e_nb, DL.e_cd, DL.e_cn, DL.e_ct, DL.e_co, DL.e_ce, DL.e_op, DL.e_if, DL.e_seq, DL.vOr, DL.vAnd, DL.vNot, DL.vTest, DL.vIsi, DL.vCall, DL.vCons, DL.vNil, DL.vConst, DL.vRet, DL.vNext, DL.vApp, DL.vNeg, DL.vChain, DL.vAndV, DL.vOrV, DL.vNotV, DL.vIf, ite_true, ite_false, if_true, if_false, Nat.reduceAdd, Nat.reduceSub, Nat.reduceEqDiff, reduceIte, Bool.true_and, Bool.and_true, Bool.not_true, Bool.not_false, Bool.false_eq_true, DL.endP, DL.endN, DL.cz2, DL.cz3, DL.cz4, DL.cz5, DL.cz6, DL.cz7, DL.cz8, DL.cz9, Int.natCast_add, Int.natCast_zero, Int.natCast_one, decide_true, decide_false, eq_self, not_true, not_false_eq_true, Bool.not_eq_true, DL.e_len_t, DL.e_len_l, DL.e_eq_ii, DL.e_ne_ii, DL.e_lt_ii, DL.e_le_ii, DL.e_gt_ii, DL.e_ge_ii, DL.e_ix_t0, DL.e_ix_t1, DL.e_ix_t2, DL.e_ix_t3, DL.e_ix_t4, DL.e_gcd, DL.p_none, DL.p_bool, DL.p_int, DL.p_str, DL.p_list, DL.p_tuple, DL.i_int_none, DL.i_int_bool, DL.i_int_int, DL.i_int_str, DL.i_int_list, DL.i_int_tuple, DL.i_bool_none, DL.i_bool_bool, DL.i_bool_int, DL.i_bool_str, DL.i_bool_list, DL.i_bool_tuple, DL.i_str_none, DL.i_str_bool, DL.i_str_int, DL.i_str_str, DL.i_str_list, DL.i_str_tuple, DL.i_tuple_none, DL.i_tuple_bool, DL.i_tuple_int, DL.i_tuple_str, DL.i_tuple_list, DL.i_tuple_tuple, DL.i_list_none, DL.i_list_bool, DL.i_list_int, DL.i_list_str, DL.i_list_list, DL.i_list_tuple, DL.e_v0, DL.e_t0, DL.e_s0_0, DL.e_s0_1, DL.e_s0_2, DL.e_v1, DL.e_t1, DL.e_s1_0, DL.e_s1_1, DL.e_s1_2, DL.e_s1_3, DL.e_v2, DL.e_t2, DL.e_s2_0, DL.e_s2_1, DL.e_s2_2, DL.e_s2_3, DL.e_v3, DL.e_t3, DL.e_s3_0, DL.e_s3_1, DL.e_s3_2, DL.e_s3_3, DL.e_v4, DL.e_t4, DL.e_s4_0, DL.e_s4_1, DL.e_s4_2, DL.e_s4_3, DL.e_v5, DL.e_t5, DL.e_s5_0, DL.e_s5_1, DL.e_s5_2, DL.e_s5_3, DL.e_v6, DL.e_t6, DL.e_s6_0, DL.e_s6_1, DL.e_s6_2, DL.e_s6_3, DL.e_v7, DL.e_t7, DL.e_s7_0, DL.e_s7_1, DL.e_s7_2, DL.e_s7_3]
  refine seq_nx (δ1 := lS l1 F t3 (.d lf3) .no .no) ?_ ?_
  · obtain ⟨r1, r2⟩ := row8
    generalize rowT 7 = t at r1 r2
    have m := mul4 t
    unfold lS; simp only [vTup, s1, s3, r1, m, r2, DL.e_g1, DL.e_g2, DL.e_g3, DL.e_g4, DL.e_g5, DL.e_g6, DL.e_g7, DL.e_g8, DL.e_w8, DL.e_g9, DL.e_w9, DL.e_g10, DL.e_w10, DL.e_g11, DL.e_w11, DL.e_g12, DL.e_w12, DL.e_o1, DL.e_u1, DL.e_o2, DL.e_u2, DL.e_o3, DL.e_u3, DL.e_o4, DL.e_u4, DL.e_o5, DL.e_u5, DL.e_o6, DL.e_u6, DL.e_o7, DL.e_u7, DL.e_o8, DL.e_u8, DL.e_o9, DL.e_u9, DL.e_o10, DL.e_u10, DL.e_o11, DL.e_u11, DL.e_o12, DL.e_u12, DL.e_o0, DL.e_u0, DL.runP, DL.runN, DL.startD, List.map, List.length, List.replicate, List.append_nil, List.cons_append, List.nil_append, DL.e_bo, DL.e_be, DL.e_bb, DL.e_ao, DL.e_ae, DL.e_no, DL.e_nb, DL.e_cd, DL.e_cn, DL.e_ct, DL.e_co, DL.e_ce, DL.e_op, DL.e_if, DL.e_seq, DL.vOr, DL.vAnd, DL.vNot, DL.vTest, DL.vIsi, DL.vCall, DL.vCons, DL.vNil, DL.vConst, DL.vRet, DL.vNext, DL.vApp, DL.vNeg, DL.vChain, DL.vAndV, DL.vOrV, DL.vNotV, DL.vIf, ite_true, ite_false, if_true, if_false, Nat.reduceAdd, Nat.reduceSub, Nat.reduceEqDiff, reduceIte, Bool.true_and, Bool.and_true, Bool.not_true, Bool.not_false, Bool.false_eq_true, DL.endP, DL.endN, DL.cz2, DL.cz3, DL.cz4, DL.cz5, DL.cz6, DL.cz7, DL.cz8, DL.cz9, Int.natCast_add, Int.natCast_zero, Int.natCast_one, decide_true, decide_false, eq_self, not_true, not_false_eq_true, Bool.not_eq_true, DL.e_len_t, DL.e_len_l, DL.e_eq_ii, DL.e_ne_ii, DL.e_lt_ii, DL.e_le_ii, DL.e_gt_ii, DL.e_ge_ii, DL.e_ix_t0, DL.e_ix_t1, DL.e_ix_t2, DL.e_ix_t3, DL.e_ix_t4, DL.e_gcd, DL.p_none, DL.p_bool, DL.p_int, DL.p_str, DL.p_list, DL.p_tuple, DL.i_int_none, DL.i_int_bool, DL.i_int_int, DL.i_int_str, DL.i_int_list, DL.i_int_tuple, DL.i_bool_none, DL.i_bool_bool, DL.i_bool_int, DL.i_bool_str, DL.i_bool_list, DL.i_bool_tuple, DL.i_str_none, DL.i_str_bool, DL.i_str_int, DL.i_str_str, DL.i_str_list, DL.i_str_tuple, DL.i_tuple_none, DL.i_tuple_bool, DL.i_tuple_int, DL.i_tuple_str, DL.i_tuple_list, DL.i_tuple_tuple, DL.i_list_none, DL.i_list_bool, DL.i_list_int, DL.i_list_str, DL.i_list_list, DL.i_list_tuple, DL.e_v0, DL.e_t0, DL.e_s0_0, DL.e_s0_1, DL.e_s0_2, DL.e_v1, DL.e_t1, DL.e_s1_0, DL.e_s1_1, DL.e_s1_2, DL.e_s1_3, DL.e_v2, DL.e_t2, DL.e_s2_0, DL.e_s2_1, DL.e_s2_2, DL.e_s2_3, DL.e_v3, DL.e_t3, DL.e_s3_0, DL.e_s3_1, DL.e_s3_2, DL.e_s3_3, DL.e_v4, DL.e_t4, DL.e_s4_0, DL.e_s4_1, DL.e_s4_2, DL.e_s4_3, DL.e_v5, DL.e_t5, DL.e_s5_0, DL.e_s5_1, DL.e_s5_2, DL.e_s5_3, DL.e_v6, DL.e_t6, DL.e_s6_0, DL.e_s6_1, DL.e_s6_2, DL.e_s6_3, DL.e_v7, DL.e_t7, DL.e_s7_0, DL.e_s7_1, DL.e_s7_2, DL.e_s7_3]
  refine seq_nx (δ1 := lS l1 F t3 (.d lf3) .no .no) ?_ ?_
  · obtain ⟨r1, r2⟩ := row9
    generalize rowT 8 = t at r1 r2
    unfold lS; simp only [vTup, s1, s3, r1, r2, DL.e_g1, DL.e_g2, DL.e_g3, DL.e_g4, DL.e_g5, DL.e_g6, DL.e_g7, DL.e_g8, DL.e_w8, DL.e_g9, DL.e_w9, DL.e_g10, DL.e_w10, DL.e_g11, DL.e_w11, DL.e_g12, DL.e_w12, DL.e_o1, DL.e_u1, DL.e_o2, DL.e_u2, DL.e_o3, DL.e_u3, DL.e_o4, DL.e_u4, DL.e_o5, DL.e_u5, DL.e_o6, DL.e_u6, DL.e_o7, DL.e_u7, DL.e_o8, DL.e_u8, DL.e_o9, DL.e_u9, DL.e_o10, DL.e_u10, DL.e_o11, DL.e_u11, DL.e_o12, DL.e_u12, DL.e_o0, DL.e_u0, DL.runP, DL.runN, DL.startD, List.map, List.length, List.replicate, List.append_nil, List.cons_append, List.nil_append, DL.e_bo, DL.e_be, DL.e_bb, DL.e_ao, DL.e_ae, DL.e_no, DL.e_nb, DL.e_cd, DL.e_cn, DL.e_ct, DL.e_co, DL.e_ce, DL.e_op, DL.e_if, DL.e_seq, DL.vOr, DL.vAnd, DL.vNot, DL.vTest, DL.vIsi, DL.vCall, DL.vCons, DL.vNil, DL.vConst, DL.vRet, DL.vNext, DL.vApp, DL.vNeg, DL.vChain, DL.vAndV, DL.vOrV, DL.vNotV, DL.vIf, ite_true, ite_false, if_true, if_false, Nat.reduceAdd, Nat.reduceSub, Nat.reduceEqDiff, reduceIte, Bool.true_and, Bool.and_true, Bool.not_true, Bool.not_false, Bool.false_eq_true, DL.endP, DL.endN, DL.cz2, DL.cz3, DL.cz4, DL.cz5, DL.cz6, DL.cz7, DL.cz8, DL.cz9, Int.natCast_add, Int.natCast_zero, Int.natCast_one, decide_true, decide_false, eq_self, not_true, not_false_eq_true, Bool.not_eq_true, DL.e_len_t, DL.e_len_l, DL.e_eq_ii, DL.e_ne_ii, DL.e_lt_ii, DL.e_le_ii, DL.e_gt_ii, DL.e_ge_ii, DL.e_ix_t0, DL.e_ix_t1, DL.e_ix_t2, DL.e_ix_t3, DL.e_ix_t4, DL.e_gcd, DL.p_none, DL.p_bool, DL.p_int, DL.p_str, DL.p_list, DL.p_tuple, DL.i_int_none, DL.i_int_bool, DL.i_int_int, DL.i_int_str, DL.i_int_list, DL.i_int_tuple, DL.i_bool_none, DL.i_bool_bool, DL.i_bool_int, DL.i_bool_str, DL.i_bool_list, DL.i_bool_tuple, DL.i_str_none, DL.i_str_bool, DL.i_str_int, DL.i_str_str, DL.i_str_list, DL.i_str_tuple, DL.i_tuple_none, DL.i_tuple_bool, DL.i_tuple_int, DL.i_tuple_str, DL.i_tuple_list, DL.i_tuple_tuple, DL.i_list_none, DL.i_list_bool, DL.i_list_int, DL.i_list_str, DL.i_list_list, DL.i_list_tuple, DL.e_v0, DL.e_t0, DL.e_s0_0, DL.e_s0_1, DL.e_s0_2, DL.e_v1, DL.e_t1, DL.e_s1_0, DL.e_s1_1, DL.e_s1_2, DL.e_s1_3, DL.e_v2, DL.e_t2, DL.e_s2_0, DL.e_s2_1, DL.e_s2_2, DL.e_s2_3, DL.e_v3, DL.e_t3, DL.e_s3_0, DL.e_s3_1, DL.e_s3_2, DL.e_s3_3, DL.e_v4, DL.e_t4, DL.e_s4_0, DL.e_s4_1, DL.e_s4_2, DL.e_s4_3, DL.e_v5, DL.e_t5, DL.e_s5_0, DL.e_s5_1, DL.e_s5_2, DL.e_s5_3, DL.e_v6, DL.e_t6, DL.e_s6_0, DL.e_s6_1, DL.e_s6_2, DL.e_s6_3, DL.e_v7, DL.e_t7, DL.e_s7_0, DL.e_s7_1, DL.e_s7_2, DL.e_s7_3]
  refine seq_nx (δ1 := lS l1 F t3 (.d lf3) (.d wideT) .no) ?_ ?_
  · unfold lS wideT
    generalize lf3 = t
    simp only [vSet, vTup, s2, s5, DL.e_g1, DL.e_g2, DL.e_g3, DL.e_g4, DL.e_g5, DL.e_g6, DL.e_g7, DL.e_g8, DL.e_w8, DL.e_g9, DL.e_w9, DL.e_g10, DL.e_w10, DL.e_g11, DL.e_w11, DL.e_g12, DL.e_w12, DL.e_o1, DL.e_u1, DL.e_o2, DL.e_u2, DL.e_o3, DL.e_u3, DL.e_o4, DL.e_u4, DL.e_o5, DL.e_u5, DL.e_o6, DL.e_u6, DL.e_o7, DL.e_u7, DL.e_o8, DL.e_u8, DL.e_o9, DL.e_u9, DL.e_o10, DL.e_u10, DL.e_o11, DL.e_u11, DL.e_o12, DL.e_u12, DL.e_o0, DL.e_u0, DL.runP, DL.runN, DL.startD, List.map, List.length, List.replicate, List.append_nil, List.cons_append, List.nil_append, DL.e_bo, DL.e_be, DL.e_bb, DL.e_ao, DL.e_ae, DL.e_no, DL.e_nb, DL.e_cd, DL.e_cn, DL.e_ct, DL.e_co, DL.e_ce, DL.e_op, DL.e_if, DL.e_seq, DL.vOr, DL.vAnd, DL.vNot, DL.vTest, DL.vIsi, DL.vCall, DL.vCons, DL.vNil, DL.vConst, DL.vRet, DL.vNext, DL.vApp, DL.vNeg, DL.vChain, DL.vAndV, DL.vOrV, DL.vNotV, DL.vIf, ite_true, ite_false, if_true, if_false, Nat.reduceAdd, Nat.reduceSub, Nat.reduceEqDiff, reduceIte, Bool.true_and, Bool.and_true, Bool.not_true, Bool.not_false, Bool.false_eq_true, DL.endP, DL.endN, DL.cz2, DL.cz3, DL.cz4, DL.cz5, DL.cz6, DL.cz7, DL.cz8, DL.cz9, Int.natCast_add, Int.natCast_zero, Int.natCast_one, decide_true, decide_false, eq_self, not_true, not_false_eq_true, Bool.not_eq_true, DL.e_len_t, DL.e_len_l, DL.e_eq_ii, DL.e_ne_ii, DL.e_lt_ii, DL.e_le_ii, DL.e_gt_ii, DL.e_ge_ii, DL.e_ix_t0, DL.e_ix_t1, DL.e_ix_t2, DL.e_ix_t3, DL.e_ix_t4, DL.e_gcd, DL.p_none, DL.p_bool, DL.p_int, DL.p_str, DL.p_list, DL.p_tuple, DL.i_int_none, DL.i_int_bool, DL.i_int_int, DL.i_int_str, DL.i_int_list, DL.i_int_tuple, DL.i_bool_none, DL.i_bool_bool, DL.i_bool_int, DL.i_bool_str, DL.i_bool_list, DL.i_bool_tuple, DL.i_str_none, DL.i_str_bool, DL.i_str_int, DL.i_str_str, DL.i_str_list, DL.i_str_tuple, DL.i_tuple_none, DL.i_tuple_bool, DL.i_tuple_int, DL.i_tuple_str, DL.i_tuple_list, DL.i_tuple_tuple, DL.i_list_none, DL.i_list_bool, DL.i_list_int, DL.i_list_str, DL.i_list_list, DL.i_list_tuple, DL.e_v0, DL.e_t0, DL.e_s0_0, DL.e_s0_1, DL.e_s0_2, DL.e_v1, DL.e_t1, DL.e_s1_0, DL.e_s1_1, DL.e_s1_2, DL.e_s1_3, DL.e_v2, DL.e_t2, DL.e_s2_0, DL.e_s2_1, DL.e_s2_2, DL.e_s2_3, DL.e_v3, DL.e_t3, DL.e_s3_0, DL.e_s3_1, DL.e_s3_2, DL.e_s3_3, DL.e_v4, DL.e_t4, DL.e_s4_0, DL.e_s4_1, DL.e_s4_2, DL.e_s4_3, DL.e_v5, DL.e_t5, DL.e_s5_0, DL.e_s5_1, DL.e_s5_2, DL.e_s5_3, DL.e_v6, DL.e_t6, DL.e_s6_0, DL.e_s6_1, DL.e_s6_2, DL.e_s6_3, DL.e_v7, DL.e_t7, DL.e_s7_0, DL.e_s7_1, DL.e_s7_2, DL.e_s7_3]
  refine seq_nx (δ1 := lS l1 F t3 (.d lf3) (.d wideT) .no) ?_ ?_
  · have w := wide1
    generalize wideT = t at w
    unfold lS; simp only [vTup, s1, s3, w, DL.e_g1, DL.e_g2, DL.e_g3, DL.e_g4, DL.e_g5, DL.e_g6, DL.e_g7, DL.e_g8, DL.e_w8, DL.e_g9, DL.e_w9, DL.e_g10, DL.e_w10, DL.e_g11, DL.e_w11, DL.e_g12, DL.e_w12, DL.e_o1, DL.e_u1, DL.e_o2, DL.e_u2, DL.e_o3, DL.e_u3, DL.e_o4, DL.e_u4, DL.e_o5, DL.e_u5, DL.e_o6, DL.e_u6, DL.e_o7, DL.e_u7, DL.e_o8, DL.e_u8, DL.e_o9, DL.e_u9, DL.e_o10, DL.e_u10, DL.e_o11, DL.e_u11, DL.e_o12, DL.e_u12, DL.e_o0, DL.e_u0, DL.runP, DL.runN, DL.startD, List.map, List.length, List.replicate, List.append_nil, List.cons_append, List.nil_append, DL.e_bo, DL.e_be, DL.e_bb, DL.e_ao, DL.e_ae, DL.e_no, DL.e_nb, DL.e_cd, DL.e_cn, DL.e_ct, DL.e_co, DL.e_ce, DL.e_op, DL.e_if, DL.e_seq, DL.vOr, DL.vAnd, DL.vNot, DL.vTest, DL.vIsi, DL.vCall, DL.vCons, DL.vNil, DL.vConst, DL.vRet, DL.vNext, DL.vApp, DL.vNeg, DL.vChain, DL.vAndV, DL.vOrV, DL.vNotV, DL.vIf, ite_true, ite_false, if_true, if_false, Nat.reduceAdd, Nat.reduceSub, Nat.reduceEqDiff, reduceIte, Bool.true_and, Bool.and_true, Bool.not_true, Bool.not_false, Bool.false_eq_true, DL.endP, DL.endN, DL.cz2, DL.cz3, DL.cz4, DL.cz5, DL.cz6, DL.cz7, DL.cz8, DL.cz9, Int.natCast_add, Int.natCast_zero, Int.natCast_one, decide_true, decide_false, eq_self, not_true, not_false_eq_true, Bool.not_eq_true, DL.e_len_t, DL.e_len_l, DL.e_eq_ii, DL.e_ne_ii, DL.e_lt_ii, DL.e_le_ii, DL.e_gt_ii, DL.e_ge_ii, DL.e_ix_t0, DL.e_ix_t1, DL.e_ix_t2, DL.e_ix_t3, DL.e_ix_t4, DL.e_gcd, DL.p_none, DL.p_bool, DL.p_int, DL.p_str, DL.p_list, DL.p_tuple, DL.i_int_none, DL.i_int_bool, DL.i_int_int, DL.i_int_str, DL.i_int_list, DL.i_int_tuple, DL.i_bool_none, DL.i_bool_bool, DL.i_bool_int, DL.i_bool_str, DL.i_bool_list, DL.i_bool_tuple, DL.i_str_none, DL.i_str_bool, DL.i_str_int, DL.i_str_str, DL.i_str_list, DL.i_str_tuple, DL.i_tuple_none, DL.i_tuple_bool, DL.i_tuple_int, DL.i_tuple_str, DL.i_tuple_list, DL.i_tuple_tuple, DL.i_list_none, DL.i_list_bool, DL.i_list_int, DL.i_list_str, DL.i_list_list, DL.i_list_tuple, DL.e_v0, DL.e_t0, DL.e_s0_0, DL.e_s0_1, DL.e_s0_2, DL.e_v1, DL.e_t1, DL.e_s1_0, DL.e_s1_1, DL.e_s1_2, DL.e_s1_3, DL.e_v2, DL.e_t2, DL.e_s2_0, DL.e_s2_1, DL.e_s2_2, DL.e_s2_3, DL.e_v3, DL.e_t3, DL.e_s3_0, DL.e_s3_1, DL.e_s3_2, DL.e_s3_3, DL.e_v4, DL.e_t4, DL.e_s4_0, DL.e_s4_1, DL.e_s4_2, DL.e_s4_3, DL.e_v5, DL.e_t5, DL.e_s5_0, DL.e_s5_1, DL.e_s5_2, DL.e_s5_3, DL.e_v6, DL.e_t6, DL.e_s6_0, DL.e_s6_1, DL.e_s6_2, DL.e_s6_3, DL.e_v7, DL.e_t7, DL.e_s7_0, DL.e_s7_1, DL.e_s7_2, DL.e_s7_3]
  · have w := wide2
    generalize wideT = t at w
    unfold lS; simp only [vTup, s1, s3, w, DL.e_g1, DL.e_g2, DL.e_g3, DL.e_g4, DL.e_g5, DL.e_g6, DL.e_g7, DL.e_g8, DL.e_w8, DL.e_g9, DL.e_w9, DL.e_g10, DL.e_w10, DL.e_g11, DL.e_w11, DL.e_g12, DL.e_w12, DL.e_o1, DL.e_u1, DL.e_o2, DL.e_u2, DL.e_o3, DL.e_u3, DL.e_o4, DL.e_u4, DL.e_o5, DL.e_u5, DL.e_o6, DL.e_u6, DL.e_o7, DL.e_u7, DL.e_o8, DL.e_u8, DL.e_o9, DL.e_u9, DL.e_o10, DL.e_u10, DL.e_o11, DL.e_u11, DL.e_o12, DL.e_u12, DL.e_o0, DL.e_u0, DL.runP, DL.runN, DL.startD, List.map, List.length, List.replicate, List.append_nil, List.cons_append, List.nil_append, DL.e_bo, DL.e_be, DL.e_bb, DL.e_ao, DL.e_ae, DL.e_no, DL.e_nb, DL.e_cd, DL.e_cn, DL.e_ct, DL.e_co, DL.e_ce, DL.e_op, DL.e_if, DL.e_seq, DL.vOr, DL.vAnd, DL.vNot, DL.vTest, DL.vIsi, DL.vCall, DL.vCons, DL.vNil, DL.vConst, DL.vRet, DL.vNext, DL.vApp, DL.vNeg, DL.vChain, DL.vAndV, DL.vOrV, DL.vNotV, DL.vIf, ite_true, ite_false, if_true, if_false, Nat.reduceAdd, Nat.reduceSub, Nat.reduceEqDiff, reduceIte, Bool.true_and, Bool.and_true, Bool.not_true, Bool.not_false, Bool.false_eq_true, DL.endP, DL.endN, DL.cz2, DL.cz3, DL.cz4, DL.cz5, DL.cz6, DL.cz7, DL.cz8, DL.cz9, Int.natCast_add, Int.natCast_zero, Int.natCast_one, decide_true, decide_false, eq_self, not_true, not_false_eq_true, Bool.not_eq_true, DL.e_len_t, DL.e_len_l, DL.e_eq_ii, DL.e_ne_ii, DL.e_lt_ii, DL.e_le_ii, DL.e_gt_ii, DL.e_ge_ii, DL.e_ix_t0, DL.e_ix_t1, DL.e_ix_t2, DL.e_ix_t3, DL.e_ix_t4, DL.e_gcd, DL.p_none, DL.p_bool, DL.p_int, DL.p_str, DL.p_list, DL.p_tuple, DL.i_int_none, DL.i_int_bool, DL.i_int_int, DL.i_int_str, DL.i_int_list, DL.i_int_tuple, DL.i_bool_none, DL.i_bool_bool, DL.i_bool_int, DL.i_bool_str, DL.i_bool_list, DL.i_bool_tuple, DL.i_str_none, DL.i_str_bool, DL.i_str_int, DL.i_str_str, DL.i_str_list, DL.i_str_tuple, DL.i_tuple_none, DL.i_tuple_bool, DL.i_tuple_int, DL.i_tuple_str, DL.i_tuple_list, DL.i_tuple_tuple, DL.i_list_none, DL.i_list_bool, DL.i_list_int, DL.i_list_str, DL.i_list_list, DL.i_list_tuple, DL.e_v0, DL.e_t0, DL.e_s0_0, DL.e_s0_1, DL.e_s0_2, DL.e_v1, DL.e_t1, DL.e_s1_0, DL.e_s1_1, DL.e_s1_2, DL.e_s1_3, DL.e_v2, DL.e_t2, DL.e_s2_0, DL.e_s2_1, DL.e_s2_2, DL.e_s2_3, DL.e_v3, DL.e_t3, DL.e_s3_0, DL.e_s3_1, DL.e_s3_2, DL.e_s3_3, DL.e_v4, DL.e_t4, DL.e_s4_0, DL.e_s4_1, DL.e_s4_2, DL.e_s4_3, DL.e_v5, DL.e_t5, DL.e_s5_0, DL.e_s5_1, DL.e_s5_2, DL.e_s5_3, DL.e_v6, DL.e_t6, DL.e_s6_0, DL.e_s6_1, DL.e_s6_2, DL.e_s6_3, DL.e_v7, DL.e_t7, DL.e_s7_0, DL.e_s7_1, DL.e_s7_2, DL.e_s7_3]
end Vw
set_option Elab.async false
set_option linter.all false
set_option maxRecDepth 100000
set_option maxHeartbeats 4000000
namespace Vw
open PySem PySem.Spec L2 DL HT
def refOf : Option (Option Value) → Addr
  | some (some (.ref f)) => f
  | _ => 0
def lkO (K : PySem.W.Frag) (f : Addr) : Obj := (K.lookup f).getD ⟨.none, none, .fields #[], #[]⟩
def fdOf (o : Obj) : FuncData := match o.data with
  | .func fd => fd
  | _ => PySem.W.fnOf "" "" (defArgs (top 20)) (defBody (top 20)) (defScope (top 20)) .none .none .none .none none .none .none
abbrev at_ (K : PySem.W.Frag) (x : Str) : Option (Option Value) := PySem.W.nsIn K mainGlobals x
abbrev fnA (K : PySem.W.Frag) (x : Str) : Addr := refOf (at_ K x)
abbrev fnO (K : PySem.W.Frag) (x : Str) : Obj := lkO K (fnA K x)
abbrev fnF (K : PySem.W.Frag) (x : Str) : FuncData := fdOf (fnO K x)
/-- a def as the written part of the heap has it -/
structure DefF (K : PySem.W.Frag) (x : Str) (st : Stmt) : Prop where
  e1 : at_ K x = some (some (.ref (fnA K x)))
  e2 : K.lookup (fnA K x) = some ⟨(fnO K x).cls, (fnO K x).dict, .func (PySem.W.fnOf x x (defArgs st) (defBody st) (defScope st) .none (fnF K x).kwdefaults (fnF K x).doc (fnF K x).pyModule (fnF K x).annotations (fnF K x).code (fnF K x).closureTuple), (fnO K x).slots⟩
  e3 : PySem.W.codeIn K (fnF K x).code x = true
  e4 : PySem.W.keepIn K (.ref (fnA K x)) = true
theorem DefF.at {K : PySem.W.Frag} {h : Heap} {mg : Str → Option Value} {x : Str} {st : Stmt} {ps : List Str} (D : DefF K x st) (X : K.In h) (G : h.Ns mainGlobals mg)
    (hb : ∀ (kV doc pm : Value) (an : Option Addr) (cdv ct : Value) (us : List Value), us.length = ps.length → bindArgs (PySem.W.fnOf x x (defArgs st) (defBody st) (defScope st) .none kV doc pm an cdv ct) ⟨us, []⟩ = pure (ps.zip us)) : DefAt K mg x st ps :=
  ⟨_, _, fun_mk D.e2 D.e3 D.e4, PySem.W.mg_of X G D.e1, .all (hb _ _ _ _ _ _)⟩
def isS (o : Option (Option Value)) (z : Str) : Bool := match o with
  | some (some (.str s _)) => s == z
  | _ => false
def isI (o : Option (Option Value)) (z : Int) : Bool := match o with
  | some (some (.int s _)) => s == z
  | _ => false
theorem str_by {K : PySem.W.Frag} {h : Heap} {mg : Str → Option Value} {x z : Str} (X : K.In h) (G : h.Ns mainGlobals mg) (e : isS (at_ K x) z = true) : ∃ t, mg x = some (.str z t) := by
  unfold isS at e
  split at e
  · rename_i s t q
    have e2 : s = z := by simpa using e
    subst e2
    exact ⟨t, PySem.W.mg_of X G q⟩
  · cases e
theorem int_by {K : PySem.W.Frag} {h : Heap} {mg : Str → Option Value} {x : Str} {z : Int} (X : K.In h) (G : h.Ns mainGlobals mg) (e : isI (at_ K x) z = true) : ∃ t, mg x = some (.int z t) := by
  unfold isI at e
  split at e
  · rename_i s t q
    have e2 : s = z := by simpa using e
    subst e2
    exact ⟨t, PySem.W.mg_of X G q⟩
  · cases e
/-- a class of errors, as the written part has it -/
def excB (K : PySem.W.Frag) (x : Str) : Bool := match at_ K x with
  | some (some (.ref C)) => PySem.W.excIn K C [.type "ValueError", .type "Exception", .type "BaseException", .type "object"] "ValueError.__new__" && PySem.W.keepIn K (.ref C) && PySem.W.subIn K (.ref C) (.type "BaseException") == some true && PySem.W.typeIn K (.ref C) == some (.type "type")
  | _ => false
theorem exc_by {K : PySem.W.Frag} {h : Heap} {mg : Str → Option Value} {x : Str} (X : K.In h) (G : h.Ns mainGlobals mg) (e : excB K x = true) : ExcAt K mg x := by
  unfold excB at e
  split at e
  · rename_i C q
    simp only [Bool.and_eq_true, beq_iff_eq] at e
    obtain ⟨⟨⟨e1, e2⟩, e3⟩, e4⟩ := e
    exact ⟨C, PySem.W.mg_of X G q, e1, e2, e3, e4⟩
  · cases e
def isB (K : PySem.W.Frag) (D : Addr) : Bool := PySem.W.findIn K (.ref D) "__getattribute__" == some (some (.builtin "BaseException.__getattribute__")) && PySem.W.findIn K (.ref D) "__getattr__" == some none && PySem.W.subIn K (.ref D) (.type "BaseException") == some true &&
  PySem.W.hasDictIn K D && PySem.W.findIn K (.ref D) "__class__" == some (some (.builtin "object.__class__")) && PySem.W.specialIn K (.builtin "object.__class__") "__get__" == some (some (.builtin "getset_descriptor.__get__")) && PySem.W.takesIn K (.builtin "object.__class__") == some true && PySem.W.mroIn K D (.type "object") == some true
theorem isB_of {K : PySem.W.Frag} {D : Addr} (e : isB K D = true) : ExcC K D := by
  unfold isB at e
  simp only [Bool.and_eq_true, beq_iff_eq] at e
  obtain ⟨⟨⟨⟨⟨⟨⟨e1, e2⟩, e3⟩, e4⟩, e5⟩, e6⟩, e7⟩, e8⟩ := e
  exact ⟨e1, e2, e3, e4, e5, e6, e7, e8⟩
def errB1 (K : PySem.W.Frag) (n : Str) : Bool := match at_ K n, at_ K "VoteError" with
  | some (some (.ref c)), some (some (.ref C)) => isB K c && PySem.W.kitOne K (.ref c) (.type "ValueError") == some true && PySem.W.exmOne K (.ref c) (.ref C) == some true && errNames.all fun m => match at_ K m with
    | some (some (.ref d)) => PySem.W.kitOne K (.ref c) (.ref d) == some (decide (n = m))
    | _ => false
  | _, _ => false
structure ErrF (K : PySem.W.Frag) : Prop where
  all : errNames.all (errB1 K) = true
  vote : at_ K "VoteError" = some (some (.ref (fnA K "VoteError")))
theorem err_one {K : PySem.W.Frag} (E : ErrF K) {n : Str} (hn : n ∈ errNames) : ∃ c, at_ K n = some (some (.ref c)) ∧ ExcC K c ∧ PySem.W.kitOne K (.ref c) (.type "ValueError") = some true ∧ PySem.W.exmOne K (.ref c) (.ref (fnA K "VoteError")) = some true ∧ ∀ m ∈ errNames, ∀ d, at_ K m = some (some (.ref d)) → PySem.W.kitOne K (.ref c) (.ref d) = some (decide (n = m)) := by
  have e := List.all_eq_true.mp E.all n hn
  unfold errB1 at e
  rw [E.vote] at e
  split at e
  · rename_i c C q1 q2
    cases q2
    simp only [Bool.and_eq_true, beq_iff_eq] at e
    obtain ⟨⟨⟨e1, e2⟩, e3⟩, e4⟩ := e
    refine ⟨c, q1, isB_of e1, e2, e3, fun m hm d hd => ?_⟩
    have e5 := List.all_eq_true.mp e4 m hm
    rw [hd] at e5
    dsimp only at e5
    exact beq_iff_eq.mp e5
  · cases e
theorem errs_by {K : PySem.W.Frag} {h : Heap} {mg : Str → Option Value} (E : ErrF K) (X : K.In h) (G : h.Ns mainGlobals mg) : ErrsAt K mg where
  each := fun n hn => by
    obtain ⟨c, q, e1, e2, _⟩ := err_one E hn
    exact ⟨c, PySem.W.mg_of X G q, e1, e2⟩
  apart := fun n hn m hm c d hc hd => by
    obtain ⟨c', q, _, _, _, e4⟩ := err_one E hn
    obtain ⟨d', q', _⟩ := err_one E hm
    have a := PySem.W.mg_of X G q
    have b := PySem.W.mg_of X G q'
    rw [hc] at a
    rw [hd] at b
    cases a
    cases b
    exact e4 m hm _ q'
theorem vote_by {K : PySem.W.Frag} {h : Heap} {mg : Str → Option Value} (E : ErrF K) (X : K.In h) (G : h.Ns mainGlobals mg) : ∃ C, mg "VoteError" = some (.ref C) ∧ ∀ n ∈ errNames, ∀ c, mg n = some (.ref c) → PySem.W.exmOne K (.ref c) (.ref C) = some true := by
  refine ⟨_, PySem.W.mg_of X G E.vote, fun n hn c hc => ?_⟩
  obtain ⟨c', q, _, _, e3, _⟩ := err_one E hn
  have a := PySem.W.mg_of X G q
  rw [hc] at a
  cases a
  exact e3
def fieldsOf (o : Obj) : Array Value := match o.data with
  | .fields vs => vs
  | _ => #[]
def vRef : Value → Addr
  | .ref a => a
  | _ => 0
abbrev codeA (K : PySem.W.Frag) : Addr := vRef (fnF K "law").code
abbrev tabA (K : PySem.W.Frag) : Addr := vRef ((fieldsOf (lkO K (codeA K))).getD 11 .none)
structure KF (K : PySem.W.Frag) : Prop where
  c_AMONG : isS (at_ K "AMONG") ("among" : Str) = true
  c_BELOW : isS (at_ K "BELOW") ("below" : Str) = true
  c_FEWEST_ANSWERS : isI (at_ K "FEWEST_ANSWERS") 2 = true
  c_LARGEST_PLACE_BOTTOM : isI (at_ K "LARGEST_PLACE_BOTTOM") 4 = true
  c_LARGEST_PLACE_TOP : isI (at_ K "LARGEST_PLACE_TOP") 99 = true
  c_LARGEST_VOTE : isI (at_ K "LARGEST_VOTE") 9 = true
  c_LEAF : isS (at_ K "LEAF") ("leaf" : Str) = true
  c_MOST_ANSWERS : isI (at_ K "MOST_ANSWERS") 3 = true
  c_MOST_LEAVES : isI (at_ K "MOST_LEAVES") 8 = true
  c_MOST_LETTERS : isI (at_ K "MOST_LETTERS") 4 = true
  c_MOST_PARTS : isI (at_ K "MOST_PARTS") 3 = true
  c_MOST_TESTS : isI (at_ K "MOST_TESTS") 7 = true
  c_MOST_TREES : isI (at_ K "MOST_TREES") 4 = true
  c_NUMBERS : isS (at_ K "NUMBERS") ("0" : Str) = true
  d__law_bad_forests : DefF K "_law_bad_forests" (top 88)
  d__law_cell : DefF K "_law_cell" (top 74)
  d__law_drawn : DefF K "_law_drawn" (top 75)
  d__law_forest : DefF K "_law_forest" (top 86)
  d__law_forest_of : DefF K "_law_forest_of" (top 85)
  d__law_kinds : DefF K "_law_kinds" (top 81)
  d__law_low : DefF K "_law_low" (top 80)
  d__law_place : DefF K "_law_place" (top 82)
  d__law_roll : DefF K "_law_roll" (top 76)
  d__law_rounds : DefF K "_law_rounds" (top 77)
  d__law_row_tree : DefF K "_law_row_tree" (top 89)
  d__law_some_marks : DefF K "_law_some_marks" (top 83)
  d__law_tests : DefF K "_law_tests" (top 87)
  d__law_tree : DefF K "_law_tree" (top 84)
  d_check_forest : DefF K "check_forest" (top 42)
  d_check_pair : DefF K "check_pair" (top 43)
  d_count_leaves : DefF K "count_leaves" (top 41)
  d_is_ascending : DefF K "is_ascending" (top 22)
  d_is_branch : DefF K "is_branch" (top 45)
  d_is_forest : DefF K "is_forest" (top 40)
  d_is_fraction : DefF K "is_fraction" (top 19)
  d_is_kind : DefF K "is_kind" (top 23)
  d_is_kinds : DefF K "is_kinds" (top 24)
  d_is_marks : DefF K "is_marks" (top 26)
  d_is_part : DefF K "is_part" (top 25)
  d_is_test : DefF K "is_test" (top 46)
  d_is_tree : DefF K "is_tree" (top 44)
  d_is_votes : DefF K "is_votes" (top 47)
  d_is_whole : DefF K "is_whole" (top 18)
  d_joined : DefF K "joined" (top 72)
  d_leaves_of : DefF K "leaves_of" (top 48)
  d_votes_form : DefF K "votes_form" (top 65)
  e_InvalidForest : excB K "InvalidForest" = true
  e_NoFit : excB K "NoFit" = true
  i_gcd : at_ K "gcd" = some (some (.builtin "math.gcd"))
  n_abs : at_ K "abs" = some none
  n_all : at_ K "all" = some none
  n_bool : at_ K "bool" = some none
  n_int : at_ K "int" = some none
  n_isinstance : at_ K "isinstance" = some none
  n_len : at_ K "len" = some none
  n_list : at_ K "list" = some none
  n_max : at_ K "max" = some none
  n_min : at_ K "min" = some none
  n_range : at_ K "range" = some none
  n_set : at_ K "set" = some none
  n_sorted : at_ K "sorted" = some none
  n_str : at_ K "str" = some none
  n_sum : at_ K "sum" = some none
  n_tuple : at_ K "tuple" = some none
  d_term : DefF K "_law_term" s__law_term
  d_told : DefF K "_law_told" s__law_told
  d_law : DefF K "law" s_law
  val : at_ K "ValueError" = some none
  er : ErrF K
  lcode : (fnF K "law").code = .ref (codeA K)
  lobj : K.lookup (codeA K) = some ⟨(lkO K (codeA K)).cls, (lkO K (codeA K)).dict, .fields (fieldsOf (lkO K (codeA K))), (lkO K (codeA K)).slots⟩
  ltab : (fieldsOf (lkO K (codeA K)))[11]? = some (.ref (tabA K))
  lhd : PySem.W.codeHdIn K (codeA K) (tabA K) = true
  lno : K.lookup (tabA K) = none
theorem tx_by {K : PySem.W.Frag} {h : Heap} {mg : Str → Option Value} (F : KF K) (X : K.In h) (G : h.Ns mainGlobals mg) : Tx K mg where
  c_AMONG := str_by X G F.c_AMONG
  c_BELOW := str_by X G F.c_BELOW
  c_FEWEST_ANSWERS := int_by X G F.c_FEWEST_ANSWERS
  c_LARGEST_PLACE_BOTTOM := int_by X G F.c_LARGEST_PLACE_BOTTOM
  c_LARGEST_PLACE_TOP := int_by X G F.c_LARGEST_PLACE_TOP
  c_LARGEST_VOTE := int_by X G F.c_LARGEST_VOTE
  c_LEAF := str_by X G F.c_LEAF
  c_MOST_ANSWERS := int_by X G F.c_MOST_ANSWERS
  c_MOST_LEAVES := int_by X G F.c_MOST_LEAVES
  c_MOST_LETTERS := int_by X G F.c_MOST_LETTERS
  c_MOST_PARTS := int_by X G F.c_MOST_PARTS
  c_MOST_TESTS := int_by X G F.c_MOST_TESTS
  c_MOST_TREES := int_by X G F.c_MOST_TREES
  c_NUMBERS := str_by X G F.c_NUMBERS
  d__law_bad_forests := F.d__law_bad_forests.at X G (fun _ _ _ _ _ _ us hl => match us, hl with | [_], _ => rfl)
  d__law_cell := F.d__law_cell.at X G (fun _ _ _ _ _ _ us hl => match us, hl with | [_, _], _ => rfl)
  d__law_drawn := F.d__law_drawn.at X G (fun _ _ _ _ _ _ us hl => match us, hl with | [_, _], _ => rfl)
  d__law_forest := F.d__law_forest.at X G (fun _ _ _ _ _ _ us hl => match us, hl with | [_, _, _], _ => rfl)
  d__law_forest_of := F.d__law_forest_of.at X G (fun _ _ _ _ _ _ us hl => match us, hl with | [_, _, _, _, _], _ => rfl)
  d__law_kinds := F.d__law_kinds.at X G (fun _ _ _ _ _ _ us hl => match us, hl with | [_], _ => rfl)
  d__law_low := F.d__law_low.at X G (fun _ _ _ _ _ _ us hl => match us, hl with | [_, _], _ => rfl)
  d__law_place := F.d__law_place.at X G (fun _ _ _ _ _ _ us hl => match us, hl with | [_], _ => rfl)
  d__law_roll := F.d__law_roll.at X G (fun _ _ _ _ _ _ us hl => match us, hl with | [_, _], _ => rfl)
  d__law_rounds := F.d__law_rounds.at X G (fun _ _ _ _ _ _ us hl => match us, hl with | [_, _], _ => rfl)
  d__law_row_tree := F.d__law_row_tree.at X G (fun _ _ _ _ _ _ us hl => match us, hl with | [_, _], _ => rfl)
  d__law_some_marks := F.d__law_some_marks.at X G (fun _ _ _ _ _ _ us hl => match us, hl with | [_, _], _ => rfl)
  d__law_tests := F.d__law_tests.at X G (fun _ _ _ _ _ _ us hl => match us, hl with | [_], _ => rfl)
  d__law_tree := F.d__law_tree.at X G (fun _ _ _ _ _ _ us hl => match us, hl with | [_, _, _, _], _ => rfl)
  d_check_forest := F.d_check_forest.at X G (fun _ _ _ _ _ _ us hl => match us, hl with | [_], _ => rfl)
  d_check_pair := F.d_check_pair.at X G (fun _ _ _ _ _ _ us hl => match us, hl with | [_, _], _ => rfl)
  d_count_leaves := F.d_count_leaves.at X G (fun _ _ _ _ _ _ us hl => match us, hl with | [_], _ => rfl)
  d_is_ascending := F.d_is_ascending.at X G (fun _ _ _ _ _ _ us hl => match us, hl with | [_], _ => rfl)
  d_is_branch := F.d_is_branch.at X G (fun _ _ _ _ _ _ us hl => match us, hl with | [_, _, _, _], _ => rfl)
  d_is_forest := F.d_is_forest.at X G (fun _ _ _ _ _ _ us hl => match us, hl with | [_], _ => rfl)
  d_is_fraction := F.d_is_fraction.at X G (fun _ _ _ _ _ _ us hl => match us, hl with | [_, _, _], _ => rfl)
  d_is_kind := F.d_is_kind.at X G (fun _ _ _ _ _ _ us hl => match us, hl with | [_], _ => rfl)
  d_is_kinds := F.d_is_kinds.at X G (fun _ _ _ _ _ _ us hl => match us, hl with | [_], _ => rfl)
  d_is_marks := F.d_is_marks.at X G (fun _ _ _ _ _ _ us hl => match us, hl with | [_, _], _ => rfl)
  d_is_part := F.d_is_part.at X G (fun _ _ _ _ _ _ us hl => match us, hl with | [_, _], _ => rfl)
  d_is_test := F.d_is_test.at X G (fun _ _ _ _ _ _ us hl => match us, hl with | [_, _, _, _], _ => rfl)
  d_is_tree := F.d_is_tree.at X G (fun _ _ _ _ _ _ us hl => match us, hl with | [_, _, _], _ => rfl)
  d_is_votes := F.d_is_votes.at X G (fun _ _ _ _ _ _ us hl => match us, hl with | [_, _], _ => rfl)
  d_is_whole := F.d_is_whole.at X G (fun _ _ _ _ _ _ us hl => match us, hl with | [_], _ => rfl)
  d_joined := F.d_joined.at X G (fun _ _ _ _ _ _ us hl => match us, hl with | [_, _], _ => rfl)
  d_leaves_of := F.d_leaves_of.at X G (fun _ _ _ _ _ _ us hl => match us, hl with | [_], _ => rfl)
  d_votes_form := F.d_votes_form.at X G (fun _ _ _ _ _ _ us hl => match us, hl with | [_], _ => rfl)
  e_InvalidForest := exc_by X G F.e_InvalidForest
  e_NoFit := exc_by X G F.e_NoFit
  i_gcd := PySem.W.mg_of X G F.i_gcd
  n_abs := PySem.W.mg_none_of X G F.n_abs
  n_all := PySem.W.mg_none_of X G F.n_all
  n_bool := PySem.W.mg_none_of X G F.n_bool
  n_int := PySem.W.mg_none_of X G F.n_int
  n_isinstance := PySem.W.mg_none_of X G F.n_isinstance
  n_len := PySem.W.mg_none_of X G F.n_len
  n_list := PySem.W.mg_none_of X G F.n_list
  n_max := PySem.W.mg_none_of X G F.n_max
  n_min := PySem.W.mg_none_of X G F.n_min
  n_range := PySem.W.mg_none_of X G F.n_range
  n_set := PySem.W.mg_none_of X G F.n_set
  n_sorted := PySem.W.mg_none_of X G F.n_sorted
  n_str := PySem.W.mg_none_of X G F.n_str
  n_sum := PySem.W.mg_none_of X G F.n_sum
  n_tuple := PySem.W.mg_none_of X G F.n_tuple
theorem td_by {K : PySem.W.Frag} {h : Heap} {mg : Str → Option Value} (F : KF K) (X : K.In h) (G : h.Ns mainGlobals mg) (T : Tx K mg) : Td K mg where
  tm := ⟨errs_by F.er X G, T.n_isinstance, PySem.W.mg_none_of X G F.val, T.n_sum, T.n_int, F.d_term.at X G (fun _ _ _ _ _ _ us hl => match us, hl with | [_], _ => rfl)⟩
  d := F.d_told.at X G (fun _ _ _ _ _ _ us hl => match us, hl with | [_], _ => rfl)
  vote := vote_by F.er X G
section
variable {P : Program} {w : World} {K : PySem.W.Frag} {mg : Str → Option Value} {base : Heap}
theorem c__law_bad_forestsX (T : Tx K mg) : Cal P w K mg base "_law_bad_forests" 1 (spP K mg ph__law_bad_forests) := c__law_bad_forests (P := P) (w := w) (base := base) T
theorem c__law_drawnX (T : Tx K mg) : Cal P w K mg base "_law_drawn" 1 (spP K mg ph__law_drawn) := c__law_drawn (P := P) (w := w) (base := base) T
theorem c__law_rollX (T : Tx K mg) : Cal P w K mg base "_law_roll" 2 (spM K mg ph__law_roll) := c__law_roll (P := P) (w := w) (base := base) T (c__law_drawnX (P := P) (w := w) (base := base) T)
theorem c__law_lowX (T : Tx K mg) : Cal P w K mg base "_law_low" 1 (spP K mg ph__law_low) := c__law_low (P := P) (w := w) (base := base) T
theorem c__law_placeX (T : Tx K mg) : Cal P w K mg base "_law_place" 3 (spM K mg ph__law_place) := c__law_place (P := P) (w := w) (base := base) T (c__law_lowX (P := P) (w := w) (base := base) T) (c__law_rollX (P := P) (w := w) (base := base) T)
theorem c__law_some_marksX (T : Tx K mg) : Cal P w K mg base "_law_some_marks" 3 (spM K mg ph__law_some_marks) := c__law_some_marks (P := P) (w := w) (base := base) T (c__law_rollX (P := P) (w := w) (base := base) T)
theorem c__law_treeX (T : Tx K mg) : Cal P w K mg base "_law_tree" (3 + 9) (spM K mg (ph__law_tree 9)) := c__law_tree (P := P) (w := w) (base := base) T (c__law_placeX (P := P) (w := w) (base := base) T) (c__law_rollX (P := P) (w := w) (base := base) T) (c__law_some_marksX (P := P) (w := w) (base := base) T) 9
theorem c__law_forest_ofX (T : Tx K mg) : Cal P w K mg base "_law_forest_of" 13 (spM K mg ph__law_forest_of) := c__law_forest_of (P := P) (w := w) (base := base) T (c__law_rollX (P := P) (w := w) (base := base) T) (c__law_treeX (P := P) (w := w) (base := base) T)
theorem c__law_kindsX (T : Tx K mg) : Cal P w K mg base "_law_kinds" 3 (spM K mg ph__law_kinds) := c__law_kinds (P := P) (w := w) (base := base) T (c__law_rollX (P := P) (w := w) (base := base) T)
theorem c__law_forestX (T : Tx K mg) : Cal P w K mg base "_law_forest" 14 (spM K mg ph__law_forest) := c__law_forest (P := P) (w := w) (base := base) T (c__law_forest_ofX (P := P) (w := w) (base := base) T) (c__law_kindsX (P := P) (w := w) (base := base) T) (c__law_rollX (P := P) (w := w) (base := base) T)
theorem c__law_row_treeX (T : Tx K mg) : Cal P w K mg base "_law_row_tree" 1 (spP K mg ph__law_row_tree) := c__law_row_tree (P := P) (w := w) (base := base) T
theorem c__law_testsX (T : Tx K mg) : Cal P w K mg base "_law_tests" (0 + 9) (spP K mg (ph__law_tests 9)) := c__law_tests (P := P) (w := w) (base := base) T  9
theorem c_is_ascendingX (T : Tx K mg) : Cal P w K mg base "is_ascending" 1 (spP K mg ph_is_ascending) := c_is_ascending (P := P) (w := w) (base := base) T
theorem c_is_kindX (T : Tx K mg) : Cal P w K mg base "is_kind" 2 (spP K mg ph_is_kind) := c_is_kind (P := P) (w := w) (base := base) T (c_is_ascendingX (P := P) (w := w) (base := base) T)
theorem c_is_kindsX (T : Tx K mg) : Cal P w K mg base "is_kinds" 3 (spP K mg ph_is_kinds) := c_is_kinds (P := P) (w := w) (base := base) T (c_is_kindX (P := P) (w := w) (base := base) T)
theorem c_is_wholeX (T : Tx K mg) : Cal P w K mg base "is_whole" 1 (spP K mg ph_is_whole) := c_is_whole (P := P) (w := w) (base := base) T
theorem c_is_fractionX (T : Tx K mg) : Cal P w K mg base "is_fraction" 2 (spP K mg ph_is_fraction) := c_is_fraction (P := P) (w := w) (base := base) T (c_is_wholeX (P := P) (w := w) (base := base) T)
theorem c_is_marksX (T : Tx K mg) : Cal P w K mg base "is_marks" 2 (spP K mg ph_is_marks) := c_is_marks (P := P) (w := w) (base := base) T (c_is_ascendingX (P := P) (w := w) (base := base) T)
theorem c_is_partX (T : Tx K mg) : Cal P w K mg base "is_part" 2 (spP K mg ph_is_part) := c_is_part (P := P) (w := w) (base := base) T (c_is_wholeX (P := P) (w := w) (base := base) T)
theorem c_is_testX (T : Tx K mg) : Cal P w K mg base "is_test" 3 (spP K mg ph_is_test) := c_is_test (P := P) (w := w) (base := base) T (c_is_fractionX (P := P) (w := w) (base := base) T) (c_is_marksX (P := P) (w := w) (base := base) T) (c_is_partX (P := P) (w := w) (base := base) T)
theorem c_is_votesX (T : Tx K mg) : Cal P w K mg base "is_votes" 2 (spP K mg ph_is_votes) := c_is_votes (P := P) (w := w) (base := base) T (c_is_wholeX (P := P) (w := w) (base := base) T)
theorem c_is_branchX (T : Tx K mg) : Cal P w K mg base "is_branch" (3 + 9) (spP K mg (ph_is_branch 9)) := c_is_branch (P := P) (w := w) (base := base) T (c_is_testX (P := P) (w := w) (base := base) T) (c_is_votesX (P := P) (w := w) (base := base) T) 9
theorem c_leaves_ofX (T : Tx K mg) : Cal P w K mg base "leaves_of" (0 + 9) (spP K mg (ph_leaves_of 9)) := c_leaves_of (P := P) (w := w) (base := base) T  9
theorem c_is_treeX (T : Tx K mg) : Cal P w K mg base "is_tree" 13 (spP K mg ph_is_tree) := c_is_tree (P := P) (w := w) (base := base) T (c_is_branchX (P := P) (w := w) (base := base) T) (c_leaves_ofX (P := P) (w := w) (base := base) T)
theorem c_is_forestX (T : Tx K mg) : Cal P w K mg base "is_forest" 14 (spP K mg ph_is_forest) := c_is_forest (P := P) (w := w) (base := base) T (c_is_kindsX (P := P) (w := w) (base := base) T) (c_is_treeX (P := P) (w := w) (base := base) T) (c_is_wholeX (P := P) (w := w) (base := base) T)
theorem c_check_forestX (T : Tx K mg) : Cal P w K mg base "check_forest" 15 (spP K mg ph_check_forest) := c_check_forest (P := P) (w := w) (base := base) T (c_is_forestX (P := P) (w := w) (base := base) T)
theorem c_count_leavesX (T : Tx K mg) : Cal P w K mg base "count_leaves" 16 (spP K mg ph_count_leaves) := c_count_leaves (P := P) (w := w) (base := base) T (c_check_forestX (P := P) (w := w) (base := base) T) (c_leaves_ofX (P := P) (w := w) (base := base) T)
theorem c_check_pairX (T : Tx K mg) : Cal P w K mg base "check_pair" 16 (spP K mg ph_check_pair) := c_check_pair (P := P) (w := w) (base := base) T (c_check_forestX (P := P) (w := w) (base := base) T)
theorem c_joinedX (T : Tx K mg) : Cal P w K mg base "joined" 17 (spP K mg ph_joined) := c_joined (P := P) (w := w) (base := base) T (c_check_pairX (P := P) (w := w) (base := base) T)
theorem c_votes_formX (T : Tx K mg) : Cal P w K mg base "votes_form" 16 (spP K mg ph_votes_form) := c_votes_form (P := P) (w := w) (base := base) T (c_check_forestX (P := P) (w := w) (base := base) T)
end
theorem law_at {K : PySem.W.Frag} {h : Heap} {mg : Str → Option Value} {w : World} {fa : Addr} (F : KF K) (X : K.In h) (G : h.Ns mainGlobals mg) (hmg : mg "law" = some (.ref fa)) (own : LamX.OwnTab K fa h) :
    LamX.LawAtS PySem.Challenge.rw_votewoods_k05_whole_forests w K (L2N.CX PySem.Challenge.rw_votewoods_k05_whole_forests.prog w) 23 63 "_law_script" mg fa h := by
  have T := tx_by F X G
  have TD := td_by F X G T
  have hf := PySem.W.mg_of X G F.d_law.e1
  rw [hmg] at hf
  have ef : fa = fnA K "law" := by injection hf with q; injection q
  subst ef
  have lk := F.d_law.e2
  have hcd := F.d_law.e3
  have hc := F.lcode
  rw [hc] at lk hcd
  refine ⟨PySem.W.fnOf "law" "law" (defArgs s_law) (defBody s_law) (defScope s_law) .none (fnF K "law").kwdefaults (fnF K "law").doc (fnF K "law").pyModule (fnF K "law").annotations (.ref (codeA K)) (fnF K "law").closureTuple, [(codeA K, tabA K)], spLaw K (tabA K), ?_, ?_, ?_, ?_, ?_, ?_⟩
  rotate_left 5
  · intro base hI hN hT
    have TB := hT _ (List.mem_singleton.mpr rfl)
    have CC := cc__law_cell (P := PySem.Challenge.rw_votewoods_k05_whole_forests.prog) (w := w) (base := base) T.d__law_cell T.n_len
    have CR := cc__law_rounds T.d__law_rounds CC T.n_len T.n_min T.n_max T.n_range
    exact law_ok T TD (c__law_bad_forestsX T) (c__law_forestX T) (c__law_row_treeX T) (c__law_testsX T) (c_count_leavesX T) (c_is_forestX T) (c_joinedX T) (c_votes_formX T) CR TB lk hcd turn_ok
  · intro p hp
    rw [List.mem_singleton.mp hp]
    exact own _ _ _ _ _ _ _ _ lk rfl rfl F.lobj F.ltab
  · intro p hp
    rw [List.mem_singleton.mp hp]
    exact F.lno
  · intro p hp
    rw [List.mem_singleton.mp hp]
    exact PySem.W.codeHd_of_K X F.lhd
  · intro s u
    exact .of_eq rfl
  · intro H a ns hl _ hH hS
    exact ⟨a, ns, rfl, hS, hl, hH _ (List.mem_singleton.mpr rfl), fun _ => rfl⟩
end Vw
set_option Elab.async false
open PySem PySem.W PyProof.Rows in
set_option maxRecDepth 100000 in
set_option maxHeartbeats 0 in
theorem PySem.Challenge.cw_votewoods_k05_whole_forests_holds : PySem.Challenge.rw_votewoods_k05_whole_forests.Holds := by
  w_on; o_law; k_head; (case hw => w_witness2)
  k_fill
  refine LamX.walk_ofOwn (l := PySem.Challenge.rw_votewoods_k05_whole_forests) (n := 63) (k := 23) (x := "_law_script") (CX := fun w => L2N.CX PySem.Challenge.rw_votewoods_k05_whole_forests.prog w) rfl (by decide) rfl ⟨rfl, by decide, by decide⟩ (by decide +kernel) (fun w h Y => PySem.W.km_in_of Y) ?F (fun w H s e s' ⟨_, _, _, _, _, _, _, _, _, _, _, _, z⟩ => z)
  intro w mg fa h Y KX G hmg own
  refine Vw.law_at ?_ KX G hmg own
  exact {
    c_AMONG := by kernel_rfl
    c_BELOW := by kernel_rfl
    c_FEWEST_ANSWERS := by kernel_rfl
    c_LARGEST_PLACE_BOTTOM := by kernel_rfl
    c_LARGEST_PLACE_TOP := by kernel_rfl
    c_LARGEST_VOTE := by kernel_rfl
    c_LEAF := by kernel_rfl
    c_MOST_ANSWERS := by kernel_rfl
    c_MOST_LEAVES := by kernel_rfl
    c_MOST_LETTERS := by kernel_rfl
    c_MOST_PARTS := by kernel_rfl
    c_MOST_TESTS := by kernel_rfl
    c_MOST_TREES := by kernel_rfl
    c_NUMBERS := by kernel_rfl
    d__law_bad_forests := ⟨by kernel_rfl, by kernel_rfl, by kernel_rfl, by kernel_rfl⟩
    d__law_cell := ⟨by kernel_rfl, by kernel_rfl, by kernel_rfl, by kernel_rfl⟩
    d__law_drawn := ⟨by kernel_rfl, by kernel_rfl, by kernel_rfl, by kernel_rfl⟩
    d__law_forest := ⟨by kernel_rfl, by kernel_rfl, by kernel_rfl, by kernel_rfl⟩
    d__law_forest_of := ⟨by kernel_rfl, by kernel_rfl, by kernel_rfl, by kernel_rfl⟩
    d__law_kinds := ⟨by kernel_rfl, by kernel_rfl, by kernel_rfl, by kernel_rfl⟩
    d__law_low := ⟨by kernel_rfl, by kernel_rfl, by kernel_rfl, by kernel_rfl⟩
    d__law_place := ⟨by kernel_rfl, by kernel_rfl, by kernel_rfl, by kernel_rfl⟩
    d__law_roll := ⟨by kernel_rfl, by kernel_rfl, by kernel_rfl, by kernel_rfl⟩
    d__law_rounds := ⟨by kernel_rfl, by kernel_rfl, by kernel_rfl, by kernel_rfl⟩
    d__law_row_tree := ⟨by kernel_rfl, by kernel_rfl, by kernel_rfl, by kernel_rfl⟩
    d__law_some_marks := ⟨by kernel_rfl, by kernel_rfl, by kernel_rfl, by kernel_rfl⟩
    d__law_tests := ⟨by kernel_rfl, by kernel_rfl, by kernel_rfl, by kernel_rfl⟩
    d__law_tree := ⟨by kernel_rfl, by kernel_rfl, by kernel_rfl, by kernel_rfl⟩
    d_check_forest := ⟨by kernel_rfl, by kernel_rfl, by kernel_rfl, by kernel_rfl⟩
    d_check_pair := ⟨by kernel_rfl, by kernel_rfl, by kernel_rfl, by kernel_rfl⟩
    d_count_leaves := ⟨by kernel_rfl, by kernel_rfl, by kernel_rfl, by kernel_rfl⟩
    d_is_ascending := ⟨by kernel_rfl, by kernel_rfl, by kernel_rfl, by kernel_rfl⟩
    d_is_branch := ⟨by kernel_rfl, by kernel_rfl, by kernel_rfl, by kernel_rfl⟩
    d_is_forest := ⟨by kernel_rfl, by kernel_rfl, by kernel_rfl, by kernel_rfl⟩
    d_is_fraction := ⟨by kernel_rfl, by kernel_rfl, by kernel_rfl, by kernel_rfl⟩
    d_is_kind := ⟨by kernel_rfl, by kernel_rfl, by kernel_rfl, by kernel_rfl⟩
    d_is_kinds := ⟨by kernel_rfl, by kernel_rfl, by kernel_rfl, by kernel_rfl⟩
    d_is_marks := ⟨by kernel_rfl, by kernel_rfl, by kernel_rfl, by kernel_rfl⟩
    d_is_part := ⟨by kernel_rfl, by kernel_rfl, by kernel_rfl, by kernel_rfl⟩
    d_is_test := ⟨by kernel_rfl, by kernel_rfl, by kernel_rfl, by kernel_rfl⟩
    d_is_tree := ⟨by kernel_rfl, by kernel_rfl, by kernel_rfl, by kernel_rfl⟩
    d_is_votes := ⟨by kernel_rfl, by kernel_rfl, by kernel_rfl, by kernel_rfl⟩
    d_is_whole := ⟨by kernel_rfl, by kernel_rfl, by kernel_rfl, by kernel_rfl⟩
    d_joined := ⟨by kernel_rfl, by kernel_rfl, by kernel_rfl, by kernel_rfl⟩
    d_leaves_of := ⟨by kernel_rfl, by kernel_rfl, by kernel_rfl, by kernel_rfl⟩
    d_votes_form := ⟨by kernel_rfl, by kernel_rfl, by kernel_rfl, by kernel_rfl⟩
    e_InvalidForest := by kernel_rfl
    e_NoFit := by kernel_rfl
    i_gcd := by kernel_rfl
    n_abs := by kernel_rfl
    n_all := by kernel_rfl
    n_bool := by kernel_rfl
    n_int := by kernel_rfl
    n_isinstance := by kernel_rfl
    n_len := by kernel_rfl
    n_list := by kernel_rfl
    n_max := by kernel_rfl
    n_min := by kernel_rfl
    n_range := by kernel_rfl
    n_set := by kernel_rfl
    n_sorted := by kernel_rfl
    n_str := by kernel_rfl
    n_sum := by kernel_rfl
    n_tuple := by kernel_rfl
    d_term := ⟨by kernel_rfl, by kernel_rfl, by kernel_rfl, by kernel_rfl⟩
    d_told := ⟨by kernel_rfl, by kernel_rfl, by kernel_rfl, by kernel_rfl⟩
    d_law := ⟨by kernel_rfl, by kernel_rfl, by kernel_rfl, by kernel_rfl⟩
    val := by kernel_rfl
    er := ⟨by kernel_rfl, by kernel_rfl⟩
    lcode := by kernel_rfl
    lobj := by kernel_rfl
    ltab := by kernel_rfl
    lhd := by kernel_rfl
    lno := by kernel_rfl }

import PyProof.Rows.All
import Wide.All
import OpenK.AllK
import Wide.FinOn
import HandS.ForMost
import HandS.ForExc
import HandS.Wide
import HandS.Walk
import HandS.Strs
import HandS.TupAny
import HandS.IsInst
import HandS.Deep
import HandS.NoneIn
import KE.KRevSl
import HandS.SortInts
import HandS.SetFor
import HandS.WordsDict
import HandS.Ends
import PyProof.ReprRoads
import HandS.Style
import PyProof.StrOps2
import PyProof.ListStr
import HandS.Small
import HandS.StrMore
import HandS.Flow
import HandS.Star
import HandS.ExcInit
import HandS.ExcField
import HandS.ExcIs
import HandS.OwnEq
import HandS.DictTup
import HandS.More
import HandS.Nested
import KE.KSuper
import PyProof.InstNe
import HandS.ExcOwn
import HandS.Text
import PyProof.Rows.StrCut
import PyProof.Rows.StrFit
import PySem.Challenge.RW_handkept_k04_what_is_open_where
set_option Elab.async false
set_option linter.all false
set_option maxRecDepth 100000
/-! R1: readings by data. A value D without addresses; a store of cells (what may still change); m: what an expression does to slots and store; iE m, iS m: readings that say so. -/
namespace Rf
open PySem L2

inductive D where
  | non | bl (b : Bool) | int (i : Int) | str (x : Str)
  | tup (xs : List D) | lst (xs : List D) | fro (xs : List D)
  | dk (kvs : List (Key × D)) | dt (kvs : List (List Key × D))
  | ins (c : Str) (fs : List (Str × D))
  | loc (n : Nat)
  | ty (n : String) | cl (c : Str) | sti (ns : List Int)
  | fdk (kvs : List (Key × D))
deriving Inhabited
abbrev Sto := List D
abbrev Rho := List (Option D)
/-- an exception: its class, its attributes -/
structure Exn where
  cls : Str
  fs : List (Str × D)
inductive Res (α : Type) where
  | stuck | ok (a : α) (S : Sto) | err (x : Exn) (S : Sto)
abbrev M := Rho → Sto → Res D
def Res.bnd {α β : Type} (r : Res α) (k : α → Sto → Res β) : Res β := match r with
  | .stuck => .stuck
  | .ok a S => k a S
  | .err x S => .err x S
inductive Out where
  | stuck | nx (ρ : Rho) (S : Sto) | rt (d : D) (S : Sto) | bk (ρ : Rho) (S : Sto) | ct (ρ : Rho) (S : Sto) | err (x : Exn) (S : Sto)
abbrev MS := Rho → Sto → Out
def Res.out {α : Type} (r : Res α) (k : α → Sto → Out) : Out := match r with
  | .stuck => .stuck
  | .ok a S => k a S
  | .err x S => .err x S

/-! ### what stands where -/
/-- the text's facts: the written part, the classes by name -/
structure Yt where
  K : PySem.W.Frag
  w : World
  cls : Str → Option Addr
mutual
inductive Rp (Y : Yt) (as : List Addr) (F : Hp) : D → V → Prop
  | non : Rp Y as F .non .non
  | bl (b : Bool) : Rp Y as F (.bl b) (.bl b)
  | int (i : Int) : Rp Y as F (.int i) (.int i)
  | str (x : Str) : Rp Y as F (.str x) (.str x)
  | tup {a : Addr} {vs : List V} {ds : List D} : SqT Y.K F a vs → Rps Y as F ds vs → Rp Y as F (.tup ds) (.ref a)
  | lst {a : Addr} {vs : List V} {ds : List D} : F a = some (.lst vs) → Rps Y as F ds vs → Rp Y as F (.lst ds) (.ref a)
  | fro {a : Addr} {vs : List V} {ds : List D} : SqL Y.K F a vs → Rps Y as F ds vs → Rp Y as F (.fro ds) (.ref a)
  | dk {a : Addr} {ws : List (Key × V)} {kvs : List (Key × D)} {vs : List V} : F a = some (.dK ws) → ws.map (·.1) = kvs.map (·.1) → vs = ws.map (·.2) → Rps Y as F (kvs.map (·.2)) vs → Rp Y as F (.dk kvs) (.ref a)
  | dt {a : Addr} {ws : List (List Key × V)} {kvs : List (List Key × D)} {vs : List V} : F a = some (.dT ws) → ws.map (·.1) = kvs.map (·.1) → vs = ws.map (·.2) → Rps Y as F (kvs.map (·.2)) vs → Rp Y as F (.dt kvs) (.ref a)
  | ins {a C dx : Addr} {c : Str} {ws : List (Str × V)} {fs : List (Str × D)} {vs : List V} : Y.cls c = some C → F a = some (.ins C dx ws) → ws.map (·.1) = fs.map (·.1) → vs = ws.map (·.2) → Rps Y as F (fs.map (·.2)) vs → Rp Y as F (.ins c fs) (.ref a)
  | loc {n : Nat} {a : Addr} : as[n]? = some a → Rp Y as F (.loc n) (.ref a)
  | ty (n : String) : Rp Y as F (.ty n) (.ty n)
  | cl {c : Str} {C : Addr} : Y.cls c = some C → Rp Y as F (.cl c) (.ref C)
  | fdk {a : Addr} {o : Obj} {ws : List (Key × V)} {kvs : List (Key × D)} {vs : List V} : F a = some (.frz o (.dK ws)) → ws.map (·.1) = kvs.map (·.1) → vs = ws.map (·.2) → Rps Y as F (kvs.map (·.2)) vs → Rp Y as F (.fdk kvs) (.ref a)
  | sti {a : Addr} {ns : List Int} {n : Nat} : F a = some (SetO Y.w a (fun j => decide (j ∈ ns)) n) → n ≤ ns.length → Rp Y as F (.sti ns) (.ref a)
inductive Rps (Y : Yt) (as : List Addr) (F : Hp) : List D → List V → Prop
  | nil : Rps Y as F [] []
  | cons {d : D} {v : V} {ds : List D} {vs : List V} : Rp Y as F d v → Rps Y as F ds vs → Rps Y as F (d :: ds) (v :: vs)
end
/-- the world goes on: F is what values lean on, as are the cells; all else that is tracked stays; what F gets is new, or was a cell -/
structure Xt (H F : Hp) (as : List Addr) (H' F' : Hp) (as' : List Addr) : Prop where
  pre : ∀ (n : Nat) (a : Addr), as[n]? = some a → as'[n]? = some a
  ex : ∀ a o, F a = some o → F' a = some o
  st : ∀ a o, a ∉ as → H a = some o → a ∉ as' ∧ H' a = some o
  gr : ∀ a o, F' a = some o → F a = some o ∨ H a = none ∨ a ∈ as
theorem Xt.refl (H F : Hp) (as : List Addr) : Xt H F as H F as := ⟨fun _ _ h => h, fun _ _ h => h, fun _ _ h1 h2 => ⟨h1, h2⟩, fun _ _ h => .inl h⟩
theorem Xt.trans {as bs cs : List Addr} {H H1 H2 F F1 F2 : Hp} (a : Xt H F as H1 F1 bs) (b : Xt H1 F1 bs H2 F2 cs) : Xt H F as H2 F2 cs := by
  refine ⟨fun n x h => b.pre n x (a.pre n x h), fun x o h => b.ex x o (a.ex x o h), fun x o h1 h2 => ?_, fun x o h => ?_⟩
  · obtain ⟨h3, h4⟩ := a.st x o h1 h2
    exact b.st x o h3 h4
  · have two : ∀ o, x ∉ as → H x = some o → x ∉ bs ∧ H1 x = some o := fun o h1 h2 => a.st x o h1 h2
    rcases b.gr x o h with h1 | h1 | h1
    · exact a.gr x o h1
    · by_cases hx : x ∈ as
      · exact .inr (.inr hx)
      · cases hh : H x with
        | none => exact .inr (.inl rfl)
        | some u =>
          have q := (two u hx hh).2
          rw [h1] at q
          cases q
    · by_cases hx : x ∈ as
      · exact .inr (.inr hx)
      · cases hh : H x with
        | none => exact .inr (.inl rfl)
        | some u => exact absurd h1 (two u hx hh).1
theorem rd_ex {F F' : Hp} (e : ∀ a o, F a = some o → F' a = some o) {a : Addr} {u : HO} (h : Rd F a u) : Rd F' a u := by
  rcases h with h | ⟨o, h⟩
  · exact .inl (e a _ h)
  · exact .inr ⟨o, e a _ h⟩
theorem sqt_ex {K : PySem.W.Frag} {F F' : Hp} (e : ∀ a o, F a = some o → F' a = some o) {a : Addr} {xs : List V} (h : SqT K F a xs) : SqT K F' a xs := h.imp (rd_ex e) id
theorem sql_ex {K : PySem.W.Frag} {F F' : Hp} (e : ∀ a o, F a = some o → F' a = some o) {a : Addr} {xs : List V} (h : SqL K F a xs) : SqL K F' a xs := h.imp (rd_ex e) id
mutual
theorem Rp.mo {Y : Yt} {as as' : List Addr} {F F' : Hp} (p : ∀ (n : Nat) (a : Addr), as[n]? = some a → as'[n]? = some a) (e : ∀ a o, F a = some o → F' a = some o) : ∀ {d : D} {v : V}, Rp Y as F d v → Rp Y as' F' d v
  | _, _, .non => .non
  | _, _, .bl b => .bl b
  | _, _, .int i => .int i
  | _, _, .str x => .str x
  | _, _, .tup h r => .tup (sqt_ex e h) (Rps.mo p e r)
  | _, _, .lst h r => .lst (e _ _ h) (Rps.mo p e r)
  | _, _, .fro h r => .fro (sql_ex e h) (Rps.mo p e r)
  | _, _, .dk h k z r => .dk (e _ _ h) k z (Rps.mo p e r)
  | _, _, .dt h k z r => .dt (e _ _ h) k z (Rps.mo p e r)
  | _, _, .ins c h k z r => .ins c (e _ _ h) k z (Rps.mo p e r)
  | _, _, .loc h => .loc (p _ _ h)
  | _, _, .ty n => .ty n
  | _, _, .cl h => .cl h
  | _, _, .sti h k => .sti (e _ _ h) k
  | _, _, .fdk h k z r => .fdk (e _ _ h) k z (Rps.mo p e r)
theorem Rps.mo {Y : Yt} {as as' : List Addr} {F F' : Hp} (p : ∀ (n : Nat) (a : Addr), as[n]? = some a → as'[n]? = some a) (e : ∀ a o, F a = some o → F' a = some o) : ∀ {ds : List D} {vs : List V}, Rps Y as F ds vs → Rps Y as' F' ds vs
  | _, _, .nil => .nil
  | _, _, .cons h r => .cons (Rp.mo p e h) (Rps.mo p e r)
end
theorem Rps.length {Y : Yt} {as : List Addr} {F : Hp} : ∀ {ds : List D} {vs : List V}, Rps Y as F ds vs → ds.length = vs.length
  | _, _, .nil => rfl
  | _, _, .cons _ r => by rw [List.length_cons, List.length_cons, r.length]
theorem Rps.get {Y : Yt} {as : List Addr} {F : Hp} : ∀ {ds : List D} {vs : List V} {i : Nat} {d : D}, Rps Y as F ds vs → ds[i]? = some d → ∃ v, vs[i]? = some v ∧ Rp Y as F d v
  | _, _, _, _, .nil, e => by simp at e
  | _, _, 0, _, .cons h _, e => by simp at e; subst e; exact ⟨_, rfl, h⟩
  | _, _, i + 1, d, .cons _ r, e => by
    obtain ⟨v, h1, h2⟩ := Rps.get (i := i) (d := d) r (by simpa using e)
    exact ⟨v, by simpa using h1, h2⟩
theorem Rps.getV {Y : Yt} {as : List Addr} {F : Hp} {ds : List D} {vs : List V} {i : Nat} {v : V} (r : Rps Y as F ds vs) (e : vs[i]? = some v) : ∃ d, ds[i]? = some d ∧ Rp Y as F d v := by
  have hi : i < ds.length := by rw [r.length]; exact (List.getElem?_eq_some_iff.mp e).1
  obtain ⟨w, h1, h2⟩ := r.get (List.getElem?_eq_getElem hi)
  rw [e] at h1
  cases h1
  exact ⟨_, List.getElem?_eq_getElem hi, h2⟩
theorem Rps.app {Y : Yt} {as : List Addr} {F : Hp} : ∀ {ds es : List D} {vs ws : List V}, Rps Y as F ds vs → Rps Y as F es ws → Rps Y as F (ds ++ es) (vs ++ ws)
  | _, _, _, _, .nil, s => s
  | _, _, _, _, .cons h r, s => .cons h (Rps.app r s)
theorem Rps.set {Y : Yt} {as : List Addr} {F : Hp} {d : D} {v : V} (h : Rp Y as F d v) : ∀ {ds : List D} {vs : List V} (i : Nat), Rps Y as F ds vs → Rps Y as F (ds.set i d) (vs.set i v)
  | _, _, _, .nil => .nil
  | _, _, 0, .cons _ r => .cons h r
  | _, _, i + 1, .cons q r => .cons q (Rps.set h i r)
theorem Rps.take {Y : Yt} {as : List Addr} {F : Hp} : ∀ {ds : List D} {vs : List V} (n : Nat), Rps Y as F ds vs → Rps Y as F (ds.take n) (vs.take n)
  | _, _, 0, _ => by simp; exact .nil
  | _, _, _ + 1, .nil => .nil
  | _, _, n + 1, .cons h r => .cons h (Rps.take n r)
theorem Rps.drop {Y : Yt} {as : List Addr} {F : Hp} : ∀ {ds : List D} {vs : List V} (n : Nat), Rps Y as F ds vs → Rps Y as F (ds.drop n) (vs.drop n)
  | _, _, 0, r => r
  | _, _, _ + 1, .nil => .nil
  | _, _, n + 1, .cons _ r => Rps.drop n r
/-- what stands in a cell -/
def ObAt (Y : Yt) (as : List Addr) (F H : Hp) (a : Addr) : D → Prop
  | .lst ds => ∃ vs, H a = some (.lst vs) ∧ Rps Y as F ds vs
  | .dk kvs => ∃ ws, H a = some (.dK ws) ∧ ws.map (·.1) = kvs.map (·.1) ∧ Rps Y as F (kvs.map (·.2)) (ws.map (·.2))
  | .dt kvs => ∃ ws, H a = some (.dT ws) ∧ ws.map (·.1) = kvs.map (·.1) ∧ Rps Y as F (kvs.map (·.2)) (ws.map (·.2))
  | .ins c fs => ∃ C dx ws, Y.cls c = some C ∧ H a = some (.ins C dx ws) ∧ ws.map (·.1) = fs.map (·.1) ∧ Rps Y as F (fs.map (·.2)) (ws.map (·.2))
  | _ => False
structure StR (Y : Yt) (H F : Hp) (as : List Addr) (S : Sto) : Prop where
  sub : ∀ a o, F a = some o → a ∉ as ∧ H a = some o
  len : as.length = S.length
  nd : as.Nodup
  ob : ∀ (n : Nat) (a : Addr) (d : D), as[n]? = some a → S[n]? = some d → ObAt Y as F H a d
structure FrR (Y : Yt) (as : List Addr) (F : Hp) (ρ : Rho) (σ : L2.St) : Prop where
  len : ρ.length = σ.length
  at_ : ∀ (i : Nat) (d : D), ρ[i]? = some (some d) → ∃ v, σ[i]? = some (some v) ∧ Rp Y as F d v
theorem FrR.mo {Y : Yt} {as as' : List Addr} {H F H' F' : Hp} {ρ : Rho} {σ : L2.St} (f : FrR Y as F ρ σ) (x : Xt H F as H' F' as') : FrR Y as' F' ρ σ := ⟨f.len, fun i d h => by
  obtain ⟨v, e, r⟩ := f.at_ i d h
  exact ⟨v, e, r.mo x.pre x.ex⟩⟩
theorem FrR.set {Y : Yt} {as : List Addr} {F : Hp} {ρ : Rho} {σ : L2.St} {d : D} {v : V} {i : Nat} (f : FrR Y as F ρ σ) (r : Rp Y as F d v) : FrR Y as F (ρ.set i (some d)) (σ.set i (some v)) := by
  refine ⟨by simp [f.len], fun j e h => ?_⟩
  by_cases hj : i = j
  · subst hj
    rw [List.getElem?_set_self'] at h ⊢
    cases h1 : ρ[i]? with
    | none => rw [h1] at h; simp at h
    | some q =>
      rw [h1] at h
      simp at h
      subst h
      have hi : i < σ.length := by rw [← f.len]; exact (List.getElem?_eq_some_iff.mp h1).1
      refine ⟨v, ?_, r⟩
      rw [List.getElem?_eq_getElem hi]
      rfl
  · rw [List.getElem?_set_ne hj] at h ⊢
    exact f.at_ j e h
/-- an exception as it stands -/
def ExR (Y : Yt) (as : List Addr) (F : Hp) (x : Exn) (cls : Value) (dx : Option Addr) (H : Hp) : Prop :=
  ∃ C, Y.cls x.cls = some C ∧ cls = .ref C ∧ match x.fs with
    | [] => dx = none
    | fs => ∃ d ws, dx = some d ∧ H d = some (.xd ws) ∧ ws.map (·.1) = fs.map (·.1) ∧ Rps Y as F (fs.map (·.2)) (ws.map (·.2))

/-! ### what follows -/
section
variable (Y : Yt) (E : XK)
abbrev Rl (α β : Type) := List Addr → Hp → α → β → Prop
def After {α β : Type} (rl : Rl α β) (as : List Addr) (F H : Hp) (r : Res α) (Q : β → Hp → Prop) : Prop := match r with
  | .stuck => False
  | .ok d S' => ∀ as' F' H' v, Xt H F as H' F' as' → StR Y H' F' as' S' → rl as' F' d v → Q v H'
  | .err x S' => ∀ as' F' H' cls dx, Xt H F as H' F' as' → StR Y H' F' as' S' → ExR Y as' F' x cls dx H' → E cls dx H'
def AfterS (as : List Addr) (F H : Hp) (o : Out) (Dn : Ends) : Prop := match o with
  | .stuck => False
  | .nx ρ S' => ∀ as' F' H' σ', Xt H F as H' F' as' → StR Y H' F' as' S' → FrR Y as' F' ρ σ' → Dn.nx σ' H'
  | .bk ρ S' => ∀ as' F' H' σ', Xt H F as H' F' as' → StR Y H' F' as' S' → FrR Y as' F' ρ σ' → Dn.bk σ' H'
  | .ct ρ S' => ∀ as' F' H' σ', Xt H F as H' F' as' → StR Y H' F' as' S' → FrR Y as' F' ρ σ' → Dn.ct σ' H'
  | .rt d S' => ∀ as' F' H' v, Xt H F as H' F' as' → StR Y H' F' as' S' → Rp Y as' F' d v → Dn.rt v H'
  | .err x S' => ∀ as' F' H' cls dx, Xt H F as H' F' as' → StR Y H' F' as' S' → ExR Y as' F' x cls dx H' → E cls dx H'
/-- a state held by slots and store -/
structure At (σ : L2.St) (H F : Hp) (as : List Addr) (ρ : Rho) (S : Sto) : Prop where
  st : StR Y H F as S
  fr : FrR Y as F ρ σ
def iE (m : M) : TE := fun σ H Q => ∃ F as ρ S, At Y σ H F as ρ S ∧ After Y E (Rp Y) as F H (m ρ S) Q
def iA (m : Rho → Sto → Res (List D)) : TA := fun σ H Q => ∃ F as ρ S, At Y σ H F as ρ S ∧ After Y E (Rps Y) as F H (m ρ S) Q
def iT (m : Rho → Sto → Res Bool) : TT := fun σ H Q => ∃ F as ρ S, At Y σ H F as ρ S ∧ After Y E (fun _ _ a b => a = b) as F H (m ρ S) Q
def iS (m : MS) : TS := fun Dn σ H => ∃ F as ρ S, At Y σ H F as ρ S ∧ AfterS Y E as F H (m ρ S) Dn
end
section
variable {Y : Yt} {E : XK} {α β γ δ : Type} {rl : Rl α β} {as : List Addr} {F H : Hp}
theorem At.mo {σ : L2.St} {ρ : Rho} {S S' : Sto} {as' : List Addr} {F' H' : Hp} (a : At Y σ H F as ρ S) (x : Xt H F as H' F' as') (s : StR Y H' F' as' S') : At Y σ H' F' as' ρ S' := ⟨s, a.fr.mo x⟩
theorem After.imp {r : Res α} {Q Q' : β → Hp → Prop} (h : After Y E rl as F H r Q) (k : ∀ v H', Q v H' → Q' v H') : After Y E rl as F H r Q' := by
  cases r with
  | stuck => exact h
  | ok d S' => exact fun as' F' H' v x s q => k v H' (h as' F' H' v x s q)
  | err x S' => exact h
theorem After.weak {r : Res α} {Q : β → Hp → Prop} {as1 : List Addr} {F1 H1 : Hp} (x : Xt H F as H1 F1 as1) (h : After Y E rl as F H r Q) : After Y E rl as1 F1 H1 r Q := by
  cases r with
  | stuck => exact h
  | ok d S' => exact fun as' F' H' v x' s q => h as' F' H' v (x.trans x') s q
  | err y S' => exact fun as' F' H' c d x' s q => h as' F' H' c d (x.trans x') s q
theorem AfterS.weak {o : Out} {Dn : Ends} {as1 : List Addr} {F1 H1 : Hp} (x : Xt H F as H1 F1 as1) (h : AfterS Y E as F H o Dn) : AfterS Y E as1 F1 H1 o Dn := by
  cases o with
  | stuck => exact h
  | nx ρ S' => exact fun as' F' H' σ' x' s q => h as' F' H' σ' (x.trans x') s q
  | bk ρ S' => exact fun as' F' H' σ' x' s q => h as' F' H' σ' (x.trans x') s q
  | ct ρ S' => exact fun as' F' H' σ' x' s q => h as' F' H' σ' (x.trans x') s q
  | rt d S' => exact fun as' F' H' v x' s q => h as' F' H' v (x.trans x') s q
  | err y S' => exact fun as' F' H' c d x' s q => h as' F' H' c d (x.trans x') s q
/-- one thing, then the next -/
theorem After.bnd {rl' : Rl γ δ} {r : Res α} {k : α → Sto → Res γ} {Q : δ → Hp → Prop} (h : After Y E rl' as F H (r.bnd k) Q) :
    After Y E rl as F H r fun v H1 => ∃ d S1 F1 as1, Xt H F as H1 F1 as1 ∧ StR Y H1 F1 as1 S1 ∧ rl as1 F1 d v ∧ After Y E rl' as1 F1 H1 (k d S1) Q := by
  cases r with
  | stuck => exact h
  | ok d S' => exact fun as' F' H' v x s q => ⟨d, S', F', as', x, s, q, After.weak x h⟩
  | err x S' => exact h
theorem After.out {r : Res α} {k : α → Sto → Out} {Dn : Ends} (h : AfterS Y E as F H (r.out k) Dn) :
    After Y E rl as F H r fun v H1 => ∃ d S1 F1 as1, Xt H F as H1 F1 as1 ∧ StR Y H1 F1 as1 S1 ∧ rl as1 F1 d v ∧ AfterS Y E as1 F1 H1 (k d S1) Dn := by
  cases r with
  | stuck => exact h
  | ok d S' => exact fun as' F' H' v x s q => ⟨d, S', F', as', x, s, q, AfterS.weak x h⟩
  | err x S' => exact h
/-- at once -/
theorem After.now {a : α} {S : Sto} {v : β} {Q : β → Hp → Prop} (h : After Y E rl as F H (.ok a S) Q) (s : StR Y H F as S) (r : rl as F a v) : Q v H := h as F H v (Xt.refl _ _ _) s r
end
theorem PE_imp {X : Cx} {e : Expr} {t t' : TE} (h : PE X e t) (k : ∀ σ H Q, t' σ H Q → t σ H Q) : PE X e t' := ⟨fun pins s σ H Q I q => h.run pins s σ H Q I (k σ H Q q)⟩
theorem PT_imp {X : Cx} {e : Expr} {t t' : TT} (h : PT X e t) (k : ∀ σ H Q, t' σ H Q → t σ H Q) : PT X e t' := ⟨fun pins s σ H Q I q => h.run pins s σ H Q I (k σ H Q q)⟩
theorem PA_imp {X : Cx} {e : List Expr} {t t' : TA} (h : PA X e t) (k : ∀ σ H Q, t' σ H Q → t σ H Q) : PA X e t' := ⟨fun pos pins s σ H Q I q => h.run pos pins s σ H Q I (k σ H Q q)⟩
theorem PS_imp {X : Cx} {e : Stmt} {t t' : TS} (h : PS X e t) (k : ∀ D σ H, t' D σ H → t D σ H) : PS X e t' := ⟨fun pins s σ H D I q => h.run pins s σ H D I (k D σ H q)⟩
theorem PSs_imp {X : Cx} {e : List Stmt} {t t' : TS} (h : PSs X e t) (k : ∀ D σ H, t' D σ H → t D σ H) : PSs X e t' := ⟨fun pins s σ H D I q => h.run pins s σ H D I (k D σ H q)⟩

/-! ### expressions -/
section
variable {X : Cx} {Y : Yt} {E : XK} {pos : Pos} {a b e : Expr} {es : List Expr} {ma mb m : M}
def mV (i : Nat) : M := fun ρ S => match ρ[i]? with
  | some (some d) => .ok d S
  | _ => .stuck
def mC (d : D) : M := fun _ S => .ok d S
theorem i_var {i : Nat} (h : PE X e (tVar i)) : PE X e (iE Y E (mV i)) := PE_imp h fun σ H Q ⟨F, as, ρ, S, t, q⟩ => by
  unfold mV at q
  split at q
  · rename_i d hd
    obtain ⟨v, e1, r⟩ := t.fr.at_ i d hd
    exact ⟨v, e1, q.now t.st r⟩
  · exact q.elim
theorem i_c {v : V} {d : D} (h : PE X e (tC v)) (r : ∀ as F, Rp Y as F d v) : PE X e (iE Y E (mC d)) := PE_imp h fun σ H Q ⟨F, as, ρ, S, t, q⟩ => q.now t.st (r _ _)
theorem i_int {i j} : PE X (.Constant (.int i) j pos) (iE Y E (mC (.int i))) := i_c pe_int fun _ _ => .int i
theorem i_bl {c j} : PE X (.Constant (.bool c) j pos) (iE Y E (mC (.bl c))) := i_c pe_bl fun _ _ => .bl c
theorem i_non {j} : PE X (.Constant .none j pos) (iE Y E (mC .non)) := i_c pe_non fun _ _ => .non
theorem i_str {x j} : PE X (.Constant (.str x) j pos) (iE Y E (mC (.str x))) := i_c pe_str fun _ _ => .str x
/-- arguments -/
def mNil : Rho → Sto → Res (List D) := fun _ S => .ok [] S
def mCons (m : M) (r : Rho → Sto → Res (List D)) : Rho → Sto → Res (List D) := fun ρ S => (m ρ S).bnd fun d S1 => (r ρ S1).bnd fun ds S2 => .ok (d :: ds) S2
variable {mr : Rho → Sto → Res (List D)}
theorem ia_nil : PA X [] (iA Y E mNil) := PA_imp pa_nil fun σ H Q ⟨F, as, ρ, S, t, q⟩ => q.now t.st .nil
theorem ia_cons (ha : PE X e (iE Y E m)) (hr : PA X es (iA Y E mr)) (hs : starEach (e :: es) X.env = (false, eval e X.env) :: starEach es X.env := by rfl) : PA X (e :: es) (iA Y E (mCons m mr)) :=
  PA_imp (pa_cons ha hr hs) fun σ H Q ⟨F, as, ρ, S, t, q⟩ => ⟨F, as, ρ, S, t, (After.bnd q).imp fun v H1 ⟨d, S1, F1, as1, x1, s1, r1, q1⟩ =>
    ⟨F1, as1, ρ, S1, t.mo x1 s1, (After.bnd q1).imp fun vs H2 ⟨ds, S2, F2, as2, x2, s2, r2, q2⟩ => q2.now s2 (.cons (r1.mo x2.pre x2.ex) r2)⟩⟩
/-- an operation on two values -/
abbrev F2 := D → D → Sto → Res D
def rD2 (Y : Yt) (E : XK) (f : F2) : R2 := fun x y H Q => ∃ F as S dx dy, StR Y H F as S ∧ Rp Y as F dx x ∧ Rp Y as F dy y ∧ After Y E (Rp Y) as F H (f dx dy S) Q
def mOp (f : F2) (ma mb : M) : M := fun ρ S => (ma ρ S).bnd fun x S1 => (mb ρ S1).bnd fun y S2 => f x y S2
theorem top_of {f : F2} {σ : L2.St} {H : Hp} {Q : VK} (h : iE Y E (mOp f ma mb) σ H Q) : tOp (rD2 Y E f) (iE Y E ma) (iE Y E mb) σ H Q := by
  obtain ⟨F, as, ρ, S, t, q⟩ := h
  exact ⟨F, as, ρ, S, t, (After.bnd q).imp fun v H1 ⟨d, S1, F1, as1, x1, s1, r1, q1⟩ =>
    ⟨F1, as1, ρ, S1, t.mo x1 s1, (After.bnd q1).imp fun w H2 ⟨d2, S2, F2, as2, x2, s2, r2, q2⟩ => ⟨F2, as2, S2, d, d2, s2, r1.mo x2.pre x2.ex, r2, q2⟩⟩⟩
theorem i_op {op : Operator} {f : F2} (ho : OpR X (binaryOp op) (rD2 Y E f)) (ha : PE X a (iE Y E ma)) (hb : PE X b (iE Y E mb)) : PE X (.BinOp a op b pos) (iE Y E (mOp f ma mb)) := PE_imp (pe_op ho ha hb) fun _ _ _ h => top_of h
theorem i_cmp {op : CmpOp} {f : F2} (ho : OpR X (compareOp op) (rD2 Y E f)) (ha : PE X a (iE Y E ma)) (hb : PE X b (iE Y E mb)) (hm : behindInMarks op b = false) : PE X (.Compare a [op] [b] pos) (iE Y E (mOp f ma mb)) := PE_imp (pe_cmpR ho ha hb hm) fun _ _ _ h => top_of h
theorem i_ix {f : F2} (ho : IxR X (rD2 Y E f)) (ha : PE X a (iE Y E ma)) (hb : PE X b (iE Y E mb)) (hs : PlainIx b) : PE X (.Subscript a b pos) (iE Y E (mOp f ma mb)) := PE_imp (pe_ix ho ha hb hs) fun _ _ _ h => top_of h
end
end Rf

set_option Elab.async false
set_option linter.all false
set_option maxRecDepth 100000
/-! R2: new objects, cells, displays, tests, statements. -/
namespace Rf
open PySem L2
section
variable {Y : Yt} {E : XK} {as : List Addr} {S : Sto} {H F : Hp}
theorem ob_some {a : Addr} {d : D} (h : ObAt Y as F H a d) : ∃ o, H a = some o := by
  cases d with
  | lst ds => obtain ⟨vs, e, _⟩ := h; exact ⟨_, e⟩
  | dk ds => obtain ⟨vs, e, _⟩ := h; exact ⟨_, e⟩
  | dt ds => obtain ⟨vs, e, _⟩ := h; exact ⟨_, e⟩
  | ins c fs => obtain ⟨C, dx, ws, _, e, _⟩ := h; exact ⟨_, e⟩
  | _ => exact h.elim
theorem ob_mo {F' H' : Hp} {as' : List Addr} {a : Addr} {d : D} (p : ∀ (n : Nat) (a : Addr), as[n]? = some a → as'[n]? = some a) (e : ∀ a o, F a = some o → F' a = some o) (k : H' a = H a) (h : ObAt Y as F H a d) : ObAt Y as' F' H' a d := by
  cases d with
  | lst ds => obtain ⟨vs, e1, r⟩ := h; exact ⟨vs, by rw [k]; exact e1, r.mo p e⟩
  | dk ds => obtain ⟨vs, e1, z, r⟩ := h; exact ⟨vs, by rw [k]; exact e1, z, r.mo p e⟩
  | dt ds => obtain ⟨vs, e1, z, r⟩ := h; exact ⟨vs, by rw [k]; exact e1, z, r.mo p e⟩
  | ins c fs => obtain ⟨C, dx, ws, c1, e1, z, r⟩ := h; exact ⟨C, dx, ws, c1, by rw [k]; exact e1, z, r.mo p e⟩
  | _ => exact h.elim
theorem StR.mem (s : StR Y H F as S) {a : Addr} (h : a ∈ as) : ∃ o, H a = some o := by
  obtain ⟨n, hn, e⟩ := List.getElem_of_mem h
  have hs : n < S.length := by rw [← s.len]; exact hn
  exact ob_some (s.ob n a S[n] (by rw [List.getElem?_eq_getElem hn, e]) (List.getElem?_eq_getElem hs))
theorem StR.fresh (s : StR Y H F as S) {p : Addr} (h : H p = none) : p ∉ as := fun z => by
  obtain ⟨o, e⟩ := s.mem z
  rw [h] at e
  cases e
theorem StR.freshF (s : StR Y H F as S) {p : Addr} (h : H p = none) : F p = none := by
  cases e : F p with
  | none => rfl
  | some o =>
    have := (s.sub p o e).2
    rw [h] at this
    cases this
/-- a new object that nobody will change -/
theorem Xt.new (s : StR Y H F as S) {p : Addr} {o : HO} (h : H p = none) : Xt H F as (upd H p o) (upd F p o) as := by
  have hF := s.freshF h
  refine ⟨fun _ _ z => z, fun a u e => ?_, fun a u h1 h2 => ⟨h1, ?_⟩, fun a u e => ?_⟩
  · rw [upd_ne (ne_of_none e hF)]; exact e
  · rw [upd_ne (ne_of_none h2 h)]; exact h2
  · by_cases z : a = p
    · subst z; exact .inr (.inl h)
    · rw [upd_ne z] at e; exact .inl e
theorem StR.new (s : StR Y H F as S) {p : Addr} {o : HO} (h : H p = none) : StR Y (upd H p o) (upd F p o) as S := by
  refine ⟨fun a u e => ?_, s.len, s.nd, fun n a d e1 e2 => ?_⟩
  · by_cases z : a = p
    · subst z
      rw [upd_same] at e ⊢
      exact ⟨s.fresh h, e⟩
    · rw [upd_ne z] at e ⊢
      exact s.sub a u e
  · have q := s.ob n a d e1 e2
    obtain ⟨u, hu⟩ := ob_some q
    exact ob_mo (fun _ _ z => z) (Xt.new s h).ex (upd_ne (ne_of_none hu h)) q
/-- a new object that is left aside -/
theorem Xt.side (s : StR Y H F as S) {p : Addr} {o : HO} (h : H p = none) : Xt H F as (upd H p o) F as := ⟨fun _ _ z => z, fun _ _ e => e, fun a u h1 h2 => ⟨h1, by rw [upd_ne (ne_of_none h2 h)]; exact h2⟩, fun _ _ e => .inl e⟩
theorem StR.side (s : StR Y H F as S) {p : Addr} {o : HO} (h : p ∉ as) (hF : F p = none) : StR Y (upd H p o) F as S := by
  refine ⟨fun a u e => ?_, s.len, s.nd, fun n a d e1 e2 => ?_⟩
  · obtain ⟨h1, h2⟩ := s.sub a u e
    exact ⟨h1, by rw [upd_ne (ne_of_none e hF)]; exact h2⟩
  · have q := s.ob n a d e1 e2
    refine ob_mo (fun _ _ z => z) (fun _ _ z => z) (upd_ne fun z => ?_) q
    subst z
    exact h (List.mem_of_getElem? e1)
/-- what stands aside is taken in -/
theorem Xt.take {p : Addr} {o : HO} {H0 F0 : Hp} {as0 : List Addr} (x : Xt H0 F0 as0 H F as) (hF : F p = none) (h0 : H0 p = none) : Xt H0 F0 as0 H (upd F p o) as := ⟨x.pre, fun a u e => by
  rw [upd_ne (ne_of_none (x.ex a u e) hF)]; exact x.ex a u e, x.st, fun a u e => by
  by_cases z : a = p
  · subst z; exact .inr (.inl h0)
  · rw [upd_ne z] at e; exact x.gr a u e⟩
theorem StR.take (s : StR Y H F as S) {p : Addr} {o : HO} (h : H p = some o) (hp : p ∉ as) (hF : F p = none) : StR Y H (upd F p o) as S := by
  refine ⟨fun a u e => ?_, s.len, s.nd, fun n a d e1 e2 => ob_mo (fun _ _ z => z) (fun b u e => ?_) rfl (s.ob n a d e1 e2)⟩
  · by_cases z : a = p
    · subst z
      rw [upd_same] at e
      cases e
      exact ⟨hp, h⟩
    · rw [upd_ne z] at e
      exact s.sub a u e
  · rw [upd_ne (ne_of_none e hF)]; exact e
/-- a new cell -/
theorem Xt.cell (s : StR Y H F as S) {p : Addr} {o : HO} (h : H p = none) : Xt H F as (upd H p o) F (as ++ [p]) := ⟨fun n a z => by
  have hn := (List.getElem?_eq_some_iff.mp z).1
  rw [List.getElem?_append_left hn]
  exact z, fun _ _ e => e, fun a u h1 h2 => by
    have ne := ne_of_none h2 h
    refine ⟨fun z => ?_, by rw [upd_ne ne]; exact h2⟩
    rcases List.mem_append.mp z with z | z
    · exact h1 z
    · exact ne (List.mem_singleton.mp z), fun _ _ e => .inl e⟩
theorem StR.cell (s : StR Y H F as S) {p : Addr} {o : HO} {d : D} (h : H p = none) (q : ObAt Y (as ++ [p]) F (upd H p o) p d) : StR Y (upd H p o) F (as ++ [p]) (S ++ [d]) := by
  have x := Xt.cell (o := o) s h
  refine ⟨fun a u e => ?_, by simp [s.len], ?_, fun n a e h1 h2 => ?_⟩
  · obtain ⟨h1, h2⟩ := s.sub a u e
    exact x.st a u h1 h2
  · rw [List.nodup_append]
    refine ⟨s.nd, by simp, fun a ha b hb z => ?_⟩
    rw [List.mem_singleton] at hb
    subst hb
    subst z
    exact s.fresh h ha
  · by_cases hn : n < as.length
    · rw [List.getElem?_append_left hn] at h1
      rw [List.getElem?_append_left (by rw [← s.len]; exact hn)] at h2
      have q1 := s.ob n a e h1 h2
      obtain ⟨u, hu⟩ := ob_some q1
      exact ob_mo x.pre x.ex (upd_ne (ne_of_none hu h)) q1
    · have hl : n = as.length := by
        have := (List.getElem?_eq_some_iff.mp h1).1
        simp at this
        omega
      subst hl
      rw [List.getElem?_append_right (Nat.le_refl _)] at h1
      rw [s.len, List.getElem?_append_right (Nat.le_refl _)] at h2
      simp at h1 h2
      subst h1
      subst h2
      exact q
/-- a cell is written -/
theorem Xt.write {a : Addr} {o : HO} (h : a ∈ as) : Xt H F as (upd H a o) F as := ⟨fun _ _ z => z, fun _ _ e => e, fun b u h1 h2 => ⟨h1, by rw [upd_ne (fun z => h1 (by rw [z]; exact h) : b ≠ a)]; exact h2⟩, fun _ _ e => .inl e⟩
theorem StR.write (s : StR Y H F as S) {n : Nat} {a : Addr} {o : HO} {d : D} (h : as[n]? = some a) (q : ObAt Y as F (upd H a o) a d) : StR Y (upd H a o) F as (S.set n d) := by
  have hm : a ∈ as := List.mem_of_getElem? h
  have hn := (List.getElem?_eq_some_iff.mp h).1
  refine ⟨fun b u e => ?_, by simp [s.len], s.nd, fun j b e h1 h2 => ?_⟩
  · obtain ⟨h1, h2⟩ := s.sub b u e
    exact ⟨h1, by rw [upd_ne (fun z => h1 (by rw [z]; exact hm) : b ≠ a)]; exact h2⟩
  by_cases hj : n = j
  · subst hj
    rw [h] at h1
    cases h1
    rw [List.getElem?_set_self (by rw [← s.len]; exact hn)] at h2
    cases h2
    exact q
  · rw [List.getElem?_set_ne hj] at h2
    have q1 := s.ob j b e h1 h2
    refine ob_mo (fun _ _ z => z) (fun _ _ z => z) (upd_ne fun z => ?_) q1
    subst z
    obtain ⟨hj', ej⟩ := List.getElem?_eq_some_iff.mp h1
    obtain ⟨_, en⟩ := List.getElem?_eq_some_iff.mp h
    exact hj ((List.getElem_inj s.nd).mp (en.trans ej.symm))
theorem StR.at_ (s : StR Y H F as S) {n : Nat} {d : D} (h : S[n]? = some d) : ∃ a, as[n]? = some a ∧ ObAt Y as F H a d := by
  have hn : n < as.length := by rw [s.len]; exact (List.getElem?_eq_some_iff.mp h).1
  exact ⟨_, List.getElem?_eq_getElem hn, s.ob n _ d (List.getElem?_eq_getElem hn) h⟩
end
theorem big {n : Nat} (h : n ≤ 1000000) : n ≤ sizeLine := by rw [sizeLine_eq]; omega

/-! ### displays -/
section
variable {X : Cx} {Y : Yt} {E : XK} {pos : Pos} {a b e : Expr} {es : List Expr} {ma mb m : M} {mr : Rho → Sto → Res (List D)}
def few (n : Nat) : Bool := decide (n ≤ 1000000)
theorem few_line {n : Nat} (h : few n = true) : n ≤ sizeLine := big (of_decide_eq_true h)
def mTup (mr : Rho → Sto → Res (List D)) : M := fun ρ S => (mr ρ S).bnd fun ds S1 => if few ds.length = true then .ok (.tup ds) S1 else .stuck
/-- a list that nobody changes -/
def mLst (mr : Rho → Sto → Res (List D)) : M := fun ρ S => (mr ρ S).bnd fun ds S1 => if few ds.length = true then .ok (.lst ds) S1 else .stuck
/-- a list that may be changed: a cell -/
def mLstC (mr : Rho → Sto → Res (List D)) : M := fun ρ S => (mr ρ S).bnd fun ds S1 => if few ds.length = true then .ok (.loc S1.length) (S1 ++ [.lst ds]) else .stuck
/-- an answer that is a new tuple | a new list | a new list in a cell -/
theorem new_tup {as : List Addr} {S : Sto} {H F : Hp} {ds : List D} {vs : List V} {Q : VK} (s : StR Y H F as S) (r : Rps Y as F ds vs) (q : After Y E (Rp Y) as F H (if few ds.length = true then .ok (.tup ds) S else .stuck) Q) : vs.length ≤ sizeLine ∧ ∀ p, H p = none → Q (.ref p) (upd H p (.tup vs)) := by
  split at q
  · rename_i h
    refine ⟨by rw [← r.length]; exact few_line h, fun p hp => ?_⟩
    have x := Xt.new (o := .tup vs) s hp
    exact q as _ _ _ x (s.new hp) (.tup (.inl (.inl upd_same)) (r.mo x.pre x.ex))
  · exact q.elim
theorem new_lst {as : List Addr} {S : Sto} {H F : Hp} {ds : List D} {vs : List V} {Q : VK} (s : StR Y H F as S) (r : Rps Y as F ds vs) (q : After Y E (Rp Y) as F H (if few ds.length = true then .ok (.lst ds) S else .stuck) Q) : vs.length ≤ sizeLine ∧ ∀ p, H p = none → Q (.ref p) (upd H p (.lst vs)) := by
  split at q
  · rename_i h
    refine ⟨by rw [← r.length]; exact few_line h, fun p hp => ?_⟩
    have x := Xt.new (o := .lst vs) s hp
    exact q as _ _ _ x (s.new hp) (.lst upd_same (r.mo x.pre x.ex))
  · exact q.elim
theorem new_lstC {as : List Addr} {S : Sto} {H F : Hp} {ds : List D} {vs : List V} {Q : VK} (s : StR Y H F as S) (r : Rps Y as F ds vs) (q : After Y E (Rp Y) as F H (if few ds.length = true then .ok (.loc S.length) (S ++ [.lst ds]) else .stuck) Q) : vs.length ≤ sizeLine ∧ ∀ p, H p = none → Q (.ref p) (upd H p (.lst vs)) := by
  split at q
  · rename_i h
    refine ⟨by rw [← r.length]; exact few_line h, fun p hp => ?_⟩
    have x := Xt.cell (o := .lst vs) s hp
    have e : (as ++ [p])[S.length]? = some p := by rw [← s.len]; simp
    exact q (as ++ [p]) _ _ _ x (s.cell hp ⟨vs, upd_same, r.mo x.pre (fun _ _ z => z)⟩) (.loc e)
  · exact q.elim
theorem i_tup {x1} (h : PA X es (iA Y E mr)) : PE X (.Tuple es x1 pos) (iE Y E (mTup mr)) := PE_imp (pe_tup h) fun σ H Q ⟨F, as, ρ, S, t, q⟩ =>
  ⟨F, as, ρ, S, t, (After.bnd q).imp fun vs H1 ⟨ds, S1, F1, as1, x1, s1, r1, q1⟩ => new_tup s1 r1 q1⟩
theorem i_lst (h : PA X es (iA Y E mr)) : PE X (.List es pos) (iE Y E (mLst mr)) := PE_imp (pe_lst h) fun σ H Q ⟨F, as, ρ, S, t, q⟩ =>
  ⟨F, as, ρ, S, t, (After.bnd q).imp fun vs H1 ⟨ds, S1, F1, as1, x1, s1, r1, q1⟩ => new_lst s1 r1 q1⟩
theorem i_lstC (h : PA X es (iA Y E mr)) : PE X (.List es pos) (iE Y E (mLstC mr)) := PE_imp (pe_lst h) fun σ H Q ⟨F, as, ρ, S, t, q⟩ =>
  ⟨F, as, ρ, S, t, (After.bnd q).imp fun vs H1 ⟨ds, S1, F1, as1, x1, s1, r1, q1⟩ => new_lstC s1 r1 q1⟩

/-! ### built-ins and methods, by values -/
abbrev FA := List D → Sto → Res D
def rDA (Y : Yt) (E : XK) (f : FA) : List V → Hp → VK → Prop := fun vs H Q => ∃ F as S ds, StR Y H F as S ∧ Rps Y as F ds vs ∧ After Y E (Rp Y) as F H (f ds S) Q
def mA (f : FA) (mr : Rho → Sto → Res (List D)) : M := fun ρ S => (mr ρ S).bnd f
theorem tcb_of {f : FA} {σ : L2.St} {H : Hp} {Q : VK} (h : iE Y E (mA f mr) σ H Q) : tCB (rDA Y E f) (iA Y E mr) σ H Q := by
  obtain ⟨F, as, ρ, S, t, q⟩ := h
  exact ⟨F, as, ρ, S, t, (After.bnd q).imp fun vs H1 ⟨ds, S1, F1, as1, x1, s1, r1, q1⟩ => ⟨F1, as1, S1, ds, s1, r1, q1⟩⟩
theorem i_callB {x : Str} {p : Pos} {id : String} {f : FA} (hc : CallR X (.builtin id) (rDA Y E f)) (hg : Gl X x) (hm : X.mg x = none) (hv : bootBuiltins x = some (.builtin id)) (ha : PA X (e :: es) (iA Y E mr)) (hn : x ≠ "__name__" := by decide) (hdb : (x == ("__debug__" : Str)) = false := by decide)
    (he : starEach (e :: es) X.env = (false, eval e X.env) :: starEach es X.env := by rfl) (hpl : (backTo pos (starEach es X.env)).any (·.1) = false := by rfl) : PE X (.Call (.Name x p) (e :: es) [] pos) (iE Y E (mA f mr)) :=
  PE_imp (pe_callB hc hg hm hv ha hn hdb he hpl) fun _ _ _ h => tcb_of h
theorem i_callTy {x : Str} {p : Pos} {T : String} {f : FA} (hc : CallR X (.type T) (rDA Y E f)) (hg : Gl X x) (hm : X.mg x = none) (hv : bootBuiltins x = some (.type T)) (ha : PA X (e :: es) (iA Y E mr)) (hn : x ≠ "__name__" := by decide) (hdb : (x == ("__debug__" : Str)) = false := by decide)
    (he : starEach (e :: es) X.env = (false, eval e X.env) :: starEach es X.env := by rfl) (hpl : (backTo pos (starEach es X.env)).any (·.1) = false := by rfl) : PE X (.Call (.Name x p) (e :: es) [] pos) (iE Y E (mA f mr)) :=
  PE_imp (pe_callTy hc hg hm hv ha hn hdb he hpl) fun _ _ _ h => tcb_of h

/-! ### tests -/
abbrev MT := Rho → Sto → Res Bool
variable {ta tb : MT} {rest : List Expr}
def mB (m : M) : MT := fun ρ S => (m ρ S).bnd fun d S1 => match d with
  | .bl c => .ok c S1
  | _ => .stuck
theorem b_of {m : M} {σ : L2.St} {H : Hp} {Q : Bool → Hp → Prop} (h : iT Y E (mB m) σ H Q) : iE Y E m σ H fun x H1 => ∃ c, x = .bl c ∧ Q c H1 := by
  obtain ⟨F, as, ρ, S, t, q⟩ := h
  refine ⟨F, as, ρ, S, t, (After.bnd q).imp fun v H1 ⟨d, S1, F1, as1, x1, s1, r1, q1⟩ => ?_⟩
  cases r1 with
  | bl c => exact ⟨c, rfl, q1.now s1 rfl⟩
  | _ => exact q1.elim
theorem it_cmp {op : CmpOp} {f : F2} (ho : OpR X (compareOp op) (rD2 Y E f)) (ha : PE X a (iE Y E ma)) (hb : PE X b (iE Y E mb)) (hm : behindInMarks op b = false) : PT X (.Compare a [op] [b] pos) (iT Y E (mB (mOp f ma mb))) :=
  PT_imp (pt_cmpR ho ha hb hm) fun σ H Q h => top_of (b_of h)
theorem it_val (h : PE X e (iE Y E m)) (he : ∀ whole, isTrue e X.env whole = (do let v ← whole; standAt e.pos; holding [v] (truthy v)) := by intro _; rfl) : PT X e (iT Y E (mB m)) := PT_imp (pt_val h he) fun σ H Q h => b_of h
def mAnd (ta tb : MT) : MT := fun ρ S => (ta ρ S).bnd fun c S1 => if c = true then tb ρ S1 else .ok false S1
def mOr (ta tb : MT) : MT := fun ρ S => (ta ρ S).bnd fun c S1 => if c = true then .ok true S1 else tb ρ S1
def mNot (ta : MT) : MT := fun ρ S => (ta ρ S).bnd fun c S1 => .ok (!c) S1
theorem PW_imp {X : Cx} {e : Expr} {t t' : TT} (h : PW X e t) (k : ∀ σ H Q, t' σ H Q → t σ H Q) : PW X e t' := ⟨fun wh pins s σ H Q I q => h.run wh pins s σ H Q I (k σ H Q q)⟩
theorem iw_and (ha : PT X a (iT Y E ta)) (hb : PW X (.BoolOp .And (b :: rest) pos) (iT Y E tb)) : PW X (.BoolOp .And (a :: b :: rest) pos) (iT Y E (mAnd ta tb)) := PW_imp (pw_and ha hb) fun σ H Q ⟨F, as, ρ, S, t, q⟩ =>
  ⟨F, as, ρ, S, t, (After.bnd q).imp fun c H1 ⟨d, S1, F1, as1, x1, s1, r1, q1⟩ => by
    cases r1
    cases c with
    | true => exact ⟨F1, as1, ρ, S1, t.mo x1 s1, q1⟩
    | false => exact q1.now s1 rfl⟩
theorem iw_or (ha : PT X a (iT Y E ta)) (hb : PW X (.BoolOp .Or (b :: rest) pos) (iT Y E tb)) : PW X (.BoolOp .Or (a :: b :: rest) pos) (iT Y E (mOr ta tb)) := PW_imp (pw_or ha hb) fun σ H Q ⟨F, as, ρ, S, t, q⟩ =>
  ⟨F, as, ρ, S, t, (After.bnd q).imp fun c H1 ⟨d, S1, F1, as1, x1, s1, r1, q1⟩ => by
    cases r1
    cases c with
    | false => exact ⟨F1, as1, ρ, S1, t.mo x1 s1, q1⟩
    | true => exact q1.now s1 rfl⟩
theorem iw_and1 (ha : PT X a (iT Y E ta)) : PW X (.BoolOp .And [a] pos) (iT Y E ta) := pw_and1 ha
theorem iw_or1 (ha : PT X a (iT Y E ta)) : PW X (.BoolOp .Or [a] pos) (iT Y E ta) := pw_or1 ha
theorem it_not (ha : PT X a (iT Y E ta)) : PT X (.UnaryOp .Not a pos) (iT Y E (mNot ta)) := PT_imp (pt_not ha) fun σ H Q ⟨F, as, ρ, S, t, q⟩ =>
  ⟨F, as, ρ, S, t, (After.bnd q).imp fun c H1 ⟨d, S1, F1, as1, x1, s1, r1, q1⟩ => by
    cases r1
    exact q1.now s1 rfl⟩
/-- and, or, not of bools as values -/
def mAndV (ma mb : M) : M := fun ρ S => (ma ρ S).bnd fun d S1 => match d with
  | .bl c => if c = true then mb ρ S1 else .ok (.bl false) S1
  | _ => .stuck
def mOrV (ma mb : M) : M := fun ρ S => (ma ρ S).bnd fun d S1 => match d with
  | .bl c => if c = true then .ok (.bl true) S1 else mb ρ S1
  | _ => .stuck
def mNotV (ma : M) : M := fun ρ S => (ma ρ S).bnd fun d S1 => match d with
  | .bl c => .ok (.bl (!c)) S1
  | _ => .stuck
theorem i_one {op} (h : PE X a (iE Y E m)) : PE X (.BoolOp op [a] pos) (iE Y E m) := pe_one h
theorem i_and (ha : PE X a (iE Y E ma)) (hb : PE X (.BoolOp .And (b :: rest) pos) (iE Y E mb)) : PE X (.BoolOp .And (a :: b :: rest) pos) (iE Y E (mAndV ma mb)) := PE_imp (pe_and ha hb) fun σ H Q ⟨F, as, ρ, S, t, q⟩ =>
  ⟨F, as, ρ, S, t, (After.bnd q).imp fun v H1 ⟨d, S1, F1, as1, x1, s1, r1, q1⟩ => by
    cases r1 with
    | bl c =>
      refine ⟨c, rfl, ?_⟩
      cases c with
      | true => exact ⟨F1, as1, ρ, S1, t.mo x1 s1, q1⟩
      | false => exact q1.now s1 (.bl false)
    | _ => exact q1.elim⟩
theorem i_or (ha : PE X a (iE Y E ma)) (hb : PE X (.BoolOp .Or (b :: rest) pos) (iE Y E mb)) : PE X (.BoolOp .Or (a :: b :: rest) pos) (iE Y E (mOrV ma mb)) := PE_imp (pe_or ha hb) fun σ H Q ⟨F, as, ρ, S, t, q⟩ =>
  ⟨F, as, ρ, S, t, (After.bnd q).imp fun v H1 ⟨d, S1, F1, as1, x1, s1, r1, q1⟩ => by
    cases r1 with
    | bl c =>
      refine ⟨c, rfl, ?_⟩
      cases c with
      | false => exact ⟨F1, as1, ρ, S1, t.mo x1 s1, q1⟩
      | true => exact q1.now s1 (.bl true)
    | _ => exact q1.elim⟩
theorem i_not (ha : PE X a (iE Y E m)) : PE X (.UnaryOp .Not a pos) (iE Y E (mNotV m)) := PE_imp (pe_not ha) fun σ H Q ⟨F, as, ρ, S, t, q⟩ =>
  ⟨F, as, ρ, S, t, (After.bnd q).imp fun v H1 ⟨d, S1, F1, as1, x1, s1, r1, q1⟩ => by
    cases r1 with
    | bl c => exact ⟨c, rfl, q1.now s1 (.bl _)⟩
    | _ => exact q1.elim⟩
def mIf (t : MT) (ma mb : M) : M := fun ρ S => (t ρ S).bnd fun c S1 => if c = true then ma ρ S1 else mb ρ S1
theorem i_ifExp {c : Expr} (hc : PT X c (iT Y E ta)) (ha : PE X a (iE Y E ma)) (hb : PE X b (iE Y E mb)) : PE X (.IfExp c a b pos) (iE Y E (mIf ta ma mb)) := PE_imp (pe_ifExp hc ha hb) fun σ H Q ⟨F, as, ρ, S, t, q⟩ =>
  ⟨F, as, ρ, S, t, (After.bnd q).imp fun v H1 ⟨d, S1, F1, as1, x1, s1, r1, q1⟩ => by
    cases r1
    cases v with
    | true => exact ⟨F1, as1, ρ, S1, t.mo x1 s1, q1⟩
    | false => exact ⟨F1, as1, ρ, S1, t.mo x1 s1, q1⟩⟩
/-- a op b op' c -/
def mChain (f g : F2) (ma mb mc : M) : M := fun ρ S => (ma ρ S).bnd fun x S1 => (mb ρ S1).bnd fun y S2 => (f x y S2).bnd fun z S3 => match z with
  | .bl k => if k = true then (mc ρ S3).bnd fun w S4 => g y w S4 else .ok (.bl false) S3
  | _ => .stuck
variable {c : Expr} {mc : M}
theorem tchain_of {f g : F2} {σ : L2.St} {H : Hp} {Q : VK} (h : iE Y E (mChain f g ma mb mc) σ H Q) : tChain (rD2 Y E f) (rD2 Y E g) (iE Y E ma) (iE Y E mb) (iE Y E mc) σ H Q := by
  obtain ⟨F, as, ρ, S, t, q⟩ := h
  refine ⟨F, as, ρ, S, t, (After.bnd q).imp fun v H1 ⟨d, S1, F1, as1, x1, s1, r1, q1⟩ => ?_⟩
  refine ⟨F1, as1, ρ, S1, t.mo x1 s1, (After.bnd q1).imp fun w H2 ⟨d2, S2, F2, as2, x2, s2, r2, q2⟩ => ?_⟩
  refine ⟨F2, as2, S2, d, d2, s2, r1.mo x2.pre x2.ex, r2, (After.bnd q2).imp fun z H3 ⟨d3, S3, F3, as3, x3, s3, r3, q3⟩ => ?_⟩
  cases r3 with
  | bl k =>
    refine ⟨k, rfl, ?_⟩
    cases k with
    | true =>
      exact ⟨F3, as3, ρ, S3, ((t.mo x1 s1).mo x2 s2).mo x3 s3, (After.bnd q3).imp fun u H4 ⟨d4, S4, F4, as4, x4, s4, r4, q4⟩ => ⟨F4, as4, S4, d2, d4, s4, (r2.mo x3.pre x3.ex).mo x4.pre x4.ex, r4, q4⟩⟩
    | false => exact q3.now s3 (.bl false)
  | _ => exact q3.elim
theorem i_chain {op op' : CmpOp} {f g : F2} (ho : OpR X (compareOp op) (rD2 Y E f)) (ho' : OpR X (compareOp op') (rD2 Y E g)) (ha : PE X a (iE Y E ma)) (hb : PE X b (iE Y E mb)) (hc : PE X c (iE Y E mc)) (hm : lastMarks [op, op'] [b, c] = false := by with_unfolding_all rfl) :
    PE X (.Compare a [op, op'] [b, c] pos) (iE Y E (mChain f g ma mb mc)) := PE_imp (pe_chain ho ho' ha hb hc hm) fun _ _ _ h => tchain_of h
theorem it_chain {op op' : CmpOp} {f g : F2} (ho : OpR X (compareOp op) (rD2 Y E f)) (ho' : OpR X (compareOp op') (rD2 Y E g)) (ha : PE X a (iE Y E ma)) (hb : PE X b (iE Y E mb)) (hc : PE X c (iE Y E mc)) (hm : lastMarks [op, op'] [b, c] = false := by with_unfolding_all rfl) :
    PT X (.Compare a [op, op'] [b, c] pos) (iT Y E (mB (mChain f g ma mb mc))) := PT_imp (pt_chain ho ho' ha hb hc hm) fun _ _ _ h => tchain_of (b_of h)

/-! ### statements -/
variable {st : Stmt} {sts : List Stmt} {mt mu : MS} {t : MT}
def sNil : MS := fun ρ S => .nx ρ S
def sSeq (mt mu : MS) : MS := fun ρ S => match mt ρ S with
  | .nx ρ1 S1 => mu ρ1 S1
  | o => o
theorem is_nil : PSs X [] (iS Y E sNil) := PSs_imp pss_nil fun Dn σ H ⟨F, as, ρ, S, t, q⟩ => q as F H σ (Xt.refl _ _ _) t.st t.fr
theorem is_one (h : PS X st (iS Y E mt)) : PSs X [st] (iS Y E mt) := pss_one h
theorem is_cons (h1 : PS X st (iS Y E mt)) (h2 : PSs X sts (iS Y E mu)) : PSs X (st :: sts) (iS Y E (sSeq mt mu)) := PSs_imp (pss_cons h1 h2) fun Dn σ H ⟨F, as, ρ, S, t, q⟩ => by
  refine ⟨F, as, ρ, S, t, ?_⟩
  unfold sSeq at q
  cases hm : mt ρ S with
  | nx ρ1 S1 =>
    rw [hm] at q
    exact fun as' F' H' σ' x s f => ⟨F', as', ρ1, S1, ⟨s, f⟩, AfterS.weak x q⟩
  | stuck => rw [hm] at q; exact q
  | rt d S1 => rw [hm] at q; exact q
  | bk ρ1 S1 => rw [hm] at q; exact q
  | ct ρ1 S1 => rw [hm] at q; exact q
  | err x S1 => rw [hm] at q; exact q
def sPass : MS := fun ρ S => .nx ρ S
def sBrk : MS := fun ρ S => .bk ρ S
def sCnt : MS := fun ρ S => .ct ρ S
theorem is_pass : PS X (.Pass pos) (iS Y E sPass) := PS_imp ps_pass fun Dn σ H ⟨F, as, ρ, S, t, q⟩ => q as F H σ (Xt.refl _ _ _) t.st t.fr
theorem is_break : PS X (.Break pos) (iS Y E sBrk) := PS_imp ps_break fun Dn σ H ⟨F, as, ρ, S, t, q⟩ => q as F H σ (Xt.refl _ _ _) t.st t.fr
theorem is_continue : PS X (.Continue pos) (iS Y E sCnt) := PS_imp ps_continue fun Dn σ H ⟨F, as, ρ, S, t, q⟩ => q as F H σ (Xt.refl _ _ _) t.st t.fr
def sRet (m : M) : MS := fun ρ S => (m ρ S).out fun d S1 => .rt d S1
theorem is_ret (h : PE X e (iE Y E m)) : PS X (.Return (some e) pos) (iS Y E (sRet m)) := PS_imp (ps_ret h) fun Dn σ H ⟨F, as, ρ, S, t, q⟩ =>
  ⟨F, as, ρ, S, t, (After.out q).imp fun v H1 ⟨d, S1, F1, as1, x1, s1, r1, q1⟩ => q1 as1 F1 H1 v (Xt.refl _ _ _) s1 r1⟩
def sRetN : MS := fun _ S => .rt .non S
theorem is_retN : PS X (.Return none pos) (iS Y E sRetN) := PS_imp ps_retN fun Dn σ H ⟨F, as, ρ, S, t, q⟩ => q as F H .non (Xt.refl _ _ _) t.st .non
def sExpr (m : M) : MS := fun ρ S => (m ρ S).out fun _ S1 => .nx ρ S1
theorem is_expr (h : PE X e (iE Y E m)) (hs : swapsWith e none pos.line X.env = pure false := by rfl) : PS X (.Expr e pos) (iS Y E (sExpr m)) := PS_imp (ps_expr h hs) fun Dn σ H ⟨F, as, ρ, S, t, q⟩ =>
  ⟨F, as, ρ, S, t, (After.out q).imp fun v H1 ⟨d, S1, F1, as1, x1, s1, r1, q1⟩ => q1 as1 F1 H1 σ (Xt.refl _ _ _) s1 (t.fr.mo x1)⟩
def sIf (t : MT) (mt mu : MS) : MS := fun ρ S => (t ρ S).out fun c S1 => if c = true then mt ρ S1 else mu ρ S1
theorem is_if {c : Expr} {as' bs : List Stmt} (hc : PT X c (iT Y E t)) (ha : PSs X as' (iS Y E mt)) (hb : PSs X bs (iS Y E mu)) : PS X (.If c as' bs pos) (iS Y E (sIf t mt mu)) := PS_imp (ps_if hc ha hb) fun Dn σ H ⟨F, as, ρ, S, t, q⟩ =>
  ⟨F, as, ρ, S, t, (After.out q).imp fun v H1 ⟨d, S1, F1, as1, x1, s1, r1, q1⟩ => by
    cases r1
    cases v with
    | true => exact ⟨F1, as1, ρ, S1, t.mo x1 s1, q1⟩
    | false => exact ⟨F1, as1, ρ, S1, t.mo x1 s1, q1⟩⟩
/-- a target: what it does to the slots (to those in vs) and the store -/
abbrev MG := D → Rho → Sto → Option (Rho × Sto)
def But (vs : List Nat) (σ σ' : L2.St) : Prop := σ'.length = σ.length ∧ ∀ j, j ∉ vs → σ'[j]? = σ[j]?
theorem But.refl {vs : List Nat} {σ : L2.St} : But vs σ σ := ⟨rfl, fun _ _ => rfl⟩
theorem But.trans {vs : List Nat} {σ σ1 σ2 : L2.St} (a : But vs σ σ1) (b : But vs σ1 σ2) : But vs σ σ2 := ⟨b.1.trans a.1, fun j h => (b.2 j h).trans (a.2 j h)⟩
theorem But.set {vs : List Nat} {σ : L2.St} {i : Nat} {v : Option V} (h : i ∈ vs) : But vs σ (σ.set i v) := ⟨by simp, fun j hj => List.getElem?_set_ne fun e => hj (by rw [← e]; exact h)⟩
def iG (Y : Yt) (vs : List Nat) (g : MG) : TG := fun v σ H Q => ∃ F as ρ S d ρ1 S1, At Y σ H F as ρ S ∧ Rp Y as F d v ∧ g d ρ S = some (ρ1, S1) ∧ ∀ as' F' H' σ', Xt H F as H' F' as' → StR Y H' F' as' S1 → FrR Y as' F' ρ1 σ' → But vs σ σ' → Q σ' H'
theorem PG_imp {X : Cx} {e : Expr} {t t' : TG} (h : PG X e t) (k : ∀ v σ H Q, t' v σ H Q → t v σ H Q) : PG X e t' := ⟨fun pins s σ H v u Q I r q => h.run pins s σ H v u Q I r (k v σ H Q q)⟩
def gV (i : Nat) : MG := fun d ρ S => some (ρ.set i (some d), S)
variable {vs : List Nat}
theorem ig_name {i : Nat} (h : PG X e (gName i)) (hv : i ∈ vs) : PG X e (iG Y vs (gV i)) := PG_imp h fun v σ H Q ⟨F, as, ρ, S, d, ρ1, S1, t, r, e1, q⟩ => by
  cases e1
  exact q as F H _ (Xt.refl _ _ _) t.st (t.fr.set r) (But.set hv)
def sAsg (m : M) (g : MG) : MS := fun ρ S => (m ρ S).out fun d S1 => match g d ρ S1 with
  | some (ρ1, S2) => .nx ρ1 S2
  | none => .stuck
theorem tasg_of {g : MG} {Dn : Ends} {σ : L2.St} {H : Hp} (h : iS Y E (sAsg m g) Dn σ H) : tAsg (iE Y E m) (iG Y vs g) Dn σ H := by
  obtain ⟨F, as, ρ, S, t, q⟩ := h
  refine ⟨F, as, ρ, S, t, (After.out q).imp fun v H1 ⟨d, S1, F1, as1, x1, s1, r1, q1⟩ => ?_⟩
  cases hg : g d ρ S1 with
  | none => rw [hg] at q1; exact q1.elim
  | some p =>
    obtain ⟨ρ1, S2⟩ := p
    rw [hg] at q1
    exact ⟨F1, as1, ρ, S1, d, ρ1, S2, t.mo x1 s1, r1, hg, fun as' F' H' σ' x s f _ => q1 as' F' H' σ' x s f⟩
theorem is_asg {tg : Expr} {g : MG} (he : PE X e (iE Y E m)) (hg : PG X tg (iG Y vs g)) (hs : swapsWithSole [tg] e pos.line X.env = pure false := by rfl) (hw : swappedStores [tg] e X.env = pure none := by rfl)
    (h1 : (assignEach [tg] X.env).map (·.2) = [assign tg X.env] := by rfl) : PS X (.Assign [tg] e pos) (iS Y E (sAsg m g)) := PS_imp (ps_asg he hg hs hw h1) fun _ _ _ h => tasg_of h
theorem is_set {i : Nat} {x : Str} {pos' : Pos} (hN : X.N.Nodup) (hi : X.N[i]? = some x) (hx : Loc X.env.scope x) (he : PE X e (iE Y E m)) (hs : swapsWith e (some (.Name x pos')) pos.line X.env = pure false := by rfl)
    (hf : X.fn x = true ∨ X.env.scope.names.lookup x = some .local := by first | exact .inl rfl | exact .inr rfl | assumption) : PS X (.Assign [.Name x pos'] e pos) (iS Y E (sAsg m (gV i))) :=
  PS_imp (ps_set hN hi hx he hs hf) fun Dn σ H ⟨F, as, ρ, S, t, q⟩ => ⟨F, as, ρ, S, t, (After.out q).imp fun v H1 ⟨d, S1, F1, as1, x1, s1, r1, q1⟩ => q1 as1 F1 H1 _ (Xt.refl _ _ _) s1 ((t.fr.mo x1).set r1)⟩
/-- several targets -/
abbrev MGs := List D → Rho → Sto → Option (Rho × Sto)
def iGs (Y : Yt) (vs : List Nat) (g : MGs) : TGs := fun ws σ H Q => ∃ F as ρ S ds ρ1 S1, At Y σ H F as ρ S ∧ Rps Y as F ds ws ∧ g ds ρ S = some (ρ1, S1) ∧ ∀ as' F' H' σ', Xt H F as H' F' as' → StR Y H' F' as' S1 → FrR Y as' F' ρ1 σ' → But vs σ σ' → Q σ' H'
theorem PGs_imp {X : Cx} {e : List Expr} {t t' : TGs} (h : PGs X e t) (k : ∀ v σ H Q, t' v σ H Q → t v σ H Q) : PGs X e t' := ⟨fun pins s σ H v u Q I r q => h.run pins s σ H v u Q I r (k v σ H Q q)⟩
def gsNil : MGs := fun ds ρ S => match ds with
  | [] => some (ρ, S)
  | _ => none
def gsCons (g : MG) (gs : MGs) : MGs := fun ds ρ S => match ds with
  | d :: ds => match g d ρ S with
    | some (ρ1, S1) => gs ds ρ1 S1
    | none => none
  | [] => none
theorem igs_nil : PGs X [] (iGs Y vs gsNil) := PGs_imp pgs_nil fun ws σ H Q ⟨F, as, ρ, S, ds, ρ1, S1, t, r, e1, q⟩ => by
  cases r with
  | nil =>
    cases e1
    exact ⟨rfl, q as F H _ (Xt.refl _ _ _) t.st t.fr But.refl⟩
  | cons h r => cases e1
theorem igs_cons {g : MG} {gs : MGs} (h1 : PG X e (iG Y vs g)) (h2 : PGs X es (iGs Y vs gs)) (hs : (assignEach (e :: es) X.env).map (·.2) = assign e X.env :: (assignEach es X.env).map (·.2) := by rfl) : PGs X (e :: es) (iGs Y vs (gsCons g gs)) :=
  PGs_imp (pgs_cons h1 h2 hs) fun ws σ H Q ⟨F, as, ρ, S, ds, ρ1, S1, t, r, e1, q⟩ => by
    cases r with
    | nil => cases e1
    | @cons d v ds' vs' h r =>
      refine ⟨v, vs', rfl, ?_⟩
      have e2 : (match g d ρ S with | some (ρ1, S1) => gs ds' ρ1 S1 | none => none) = some (ρ1, S1) := e1
      cases hg : g d ρ S with
      | none => rw [hg] at e2; cases e2
      | some p =>
        obtain ⟨ρ2, S2⟩ := p
        rw [hg] at e2
        refine ⟨F, as, ρ, S, d, ρ2, S2, t, h, hg, fun as' F' H' σ' x s f b => ⟨F', as', ρ2, S2, ds', ρ1, S1, ⟨s, f⟩, r.mo x.pre x.ex, e2, fun as2 F2 H2 σ2 x2 s2 f2 b2 => q as2 F2 H2 σ2 (x.trans x2) s2 f2 (b.trans b2)⟩⟩
/-- (a, b, ..) = a tuple of that length -/
def gTp (n : Nat) (gs : MGs) : MG := fun d ρ S => match d with
  | .tup ds => if ds.length = n then gs ds ρ S else none
  | _ => none
theorem ig_tup {k n : Nat} {gs : MGs} (hK : X.K = Y.K) (hc : X.calm = true) (h : PGs X es (iGs Y vs gs)) (hn : (assignEach es X.env).length = n := by rfl) (hst : (assignEach es X.env).findIdx? (·.1) = none := by rfl) : PG X (.Tuple es k pos) (iG Y vs (gTp n gs)) :=
  PG_imp (pg_tup hc h hn hst) fun v σ H Q ⟨F, as, ρ, S, d, ρ1, S1, t, r, e1, q⟩ => by
    cases r with
    | @tup a vs ds h r =>
      have e2 : (if ds.length = n then gs ds ρ S else none) = some (ρ1, S1) := e1
      split at e2
      · rename_i hl
        exact ⟨a, vs, rfl, sqt_ex (fun b o z => (t.st.sub b o z).2) (by rw [hK]; exact h), by rw [← r.length]; exact hl, F, as, ρ, S, ds, ρ1, S1, t, r, e2, q⟩
      · cases e2
    | _ => cases e1
end
end Rf

set_option Elab.async false
set_option linter.all false
set_option maxRecDepth 100000
/-! R3: operators by data. -/
namespace Rf
open PySem L2

/-! ### lists of data and what stands below them -/
section
variable {Y : Yt} {E : XK} {as : List Addr} {S : Sto} {H F : Hp}
theorem seqT_up (s : StR Y H F as S) {a : Addr} {vs : List V} (h : SqT Y.K F a vs) : SqT Y.K H a vs := sqt_ex (fun b o z => (s.sub b o z).2) h
theorem seqL_up (s : StR Y H F as S) {a : Addr} {vs : List V} (h : SqL Y.K F a vs) : SqL Y.K H a vs := sql_ex (fun b o z => (s.sub b o z).2) h
theorem lst_up (s : StR Y H F as S) {a : Addr} {o : HO} (h : F a = some o) : H a = some o := (s.sub a o h).2
end

/-- what a rule by values must show for a rule by data -/
abbrev rV {X : Cx} (Y : Yt) (hK : X.K = Y.K) : Prop := True

/-! ### arithmetic -/
def okI (i : Int) : Bool := decide (i.natAbs.log2 < 400000)
def dAdd : F2 := fun x y S => match x, y with
  | .int i, .int j => .ok (.int (i + j)) S
  | .str a, .str b => if few (a.length + b.length) = true then .ok (.str (a ++ b)) S else .stuck
  | .tup xs, .tup ys => if few (xs.length + ys.length) = true then .ok (.tup (xs ++ ys)) S else .stuck
  | .lst xs, .lst ys => if few (xs.length + ys.length) = true then .ok (.lst (xs ++ ys)) S else .stuck
  | _, _ => .stuck
def dSub : F2 := fun x y S => match x, y with
  | .int i, .int j => .ok (.int (i - j)) S
  | _, _ => .stuck
def dMul : F2 := fun x y S => match x, y with
  | .int i, .int j => if okI i = true ∧ okI j = true then .ok (.int (i * j)) S else .stuck
  | .lst xs, .int k => if 0 ≤ k ∧ k ≤ 1000 ∧ xs.length ≤ 1000 then .ok (.lst (List.replicate k.toNat xs).flatten) S else .stuck
  | _, _ => .stuck
def dMod : F2 := fun x y S => match x, y with
  | .int i, .int j => if 0 < j then .ok (.int (i % j)) S else .stuck
  | _, _ => .stuck
def dDiv : F2 := fun x y S => match x, y with
  | .int i, .int j => if 0 < j ∧ j.natAbs.log2 < 9000 then .ok (.int (i / j)) S else .stuck
  | _, _ => .stuck
def dPow : F2 := fun x y S => match x, y with
  | .int i, .int j => if 0 ≤ j ∧ (Builtin.Int.intBits i : Int) * j ≤ 2 ^ 27 then .ok (.int (i ^ j.toNat)) S else .stuck
  | _, _ => .stuck
theorem ite_stuck {α β : Type} {Y : Yt} {E : XK} {rl : Rl α β} {as : List Addr} {F H : Hp} {c : Prop} [Decidable c] {r : Res α} {Q : β → Hp → Prop} (q : After Y E rl as F H (if c then r else .stuck) Q) : c ∧ After Y E rl as F H r Q := by
  split at q
  · rename_i h; exact ⟨h, q⟩
  · exact q.elim
section
variable {X : Cx} {Y : Yt} {E : XK}
theorem Rps.flat {as : List Addr} {F : Hp} {ds : List D} {vs : List V} (r : Rps Y as F ds vs) : ∀ n : Nat, Rps Y as F (List.replicate n ds).flatten (List.replicate n vs).flatten
  | 0 => by simp; exact .nil
  | n + 1 => by
    rw [List.replicate_succ, List.replicate_succ, List.flatten_cons, List.flatten_cons]
    exact r.app (Rps.flat r n)
theorem o_add (hK : X.K = Y.K) : OpR X (binaryOp .Add) (rD2 Y E dAdd) := by
  rintro pins s σ H x y v u Q I rx ry ⟨F, as, S, dx, dy, st, r1, r2, q⟩
  cases r1 <;> cases r2 <;> first | exact q.elim | skip
  case int.int i j => exact op_add pins s σ H _ _ v u Q I rx ry ⟨i, j, rfl, rfl, q.now st (.int _)⟩
  case str.str a b =>
    obtain ⟨h, q⟩ := ite_stuck q
    exact op_add_str pins s σ H _ _ v u Q I rx ry ⟨a, b, rfl, rfl, few_line h, q.now st (.str _)⟩
  case tup.tup a xs ds ha ra b ys es hb rb =>
    obtain ⟨h, q⟩ := ite_stuck q
    have hz : xs.length + ys.length ≤ sizeLine := by rw [← ra.length, ← rb.length]; exact few_line h
    have ha' := ha
    have hb' := hb
    rw [← hK] at ha' hb'
    refine op_catA pins s σ H _ _ v u Q I rx ry ⟨a, b, xs, ys, rfl, rfl, sqt_ex (fun c o z => (st.sub c o z).2) ha', sqt_ex (fun c o z => (st.sub c o z).2) hb', hz, fun e => ?_, fun _ e => ?_, fun e1 e2 p hp => ?_⟩
    · subst e
      cases ra
      exact q.now st (.tup hb rb)
    · subst e
      cases rb
      rw [List.append_nil] at q
      exact q.now st (.tup ha ra)
    · have x := Xt.new (o := .tup (xs ++ ys)) st hp
      exact q as _ _ _ x (st.new hp) (.tup (.inl (.inl upd_same)) ((ra.app rb).mo x.pre x.ex))
  case lst.lst a xs ds ha ra b ys es hb rb =>
    obtain ⟨h, q⟩ := ite_stuck q
    have hz : xs.length + ys.length ≤ sizeLine := by rw [← ra.length, ← rb.length]; exact few_line h
    refine op_cat pins s σ H _ _ v u Q I rx ry ⟨a, b, xs, ys, rfl, rfl, lst_up st ha, lst_up st hb, hz, fun p hp => ?_⟩
    have x := Xt.new (o := .lst (xs ++ ys)) st hp
    exact q as _ _ _ x (st.new hp) (.lst upd_same ((ra.app rb).mo x.pre x.ex))
theorem o_sub : OpR X (binaryOp .Sub) (rD2 Y E dSub) := by
  rintro pins s σ H x y v u Q I rx ry ⟨F, as, S, dx, dy, st, r1, r2, q⟩
  cases r1 <;> cases r2 <;> first | exact q.elim | skip
  case int.int i j => exact op_sub pins s σ H _ _ v u Q I rx ry ⟨i, j, rfl, rfl, q.now st (.int _)⟩
theorem o_mul : OpR X (binaryOp .Mult) (rD2 Y E dMul) := by
  rintro pins s σ H x y v u Q I rx ry ⟨F, as, S, dx, dy, st, r1, r2, q⟩
  cases r1 <;> cases r2 <;> first | exact q.elim | skip
  case int.int i j =>
    obtain ⟨⟨h1, h2⟩, q⟩ := ite_stuck q
    have h1 := of_decide_eq_true h1
    have h2 := of_decide_eq_true h2
    exact op_mulW pins s σ H _ _ v u Q I rx ry ⟨i, j, rfl, rfl, (show i.natAbs.log2 + j.natAbs.log2 < 1000000 by omega), q.now st (.int _)⟩
  case lst.int a xs ds ha ra k =>
    obtain ⟨⟨h1, h2, h3⟩, q⟩ := ite_stuck q
    refine op_rep pins s σ H _ _ v u Q I rx ry ⟨a, k, xs, rfl, rfl, lst_up st ha, by omega, by omega, ?_, fun p hp => ?_⟩
    · have e := ra.length
      have hk : k.toNat ≤ 1000 := by omega
      have hx : xs.length ≤ 1000 := by omega
      exact big (Nat.le_trans (Nat.mul_le_mul hx hk) (by decide))
    · have x := Xt.new (o := .lst (List.replicate k.toNat xs).flatten) st hp
      exact q as _ _ _ x (st.new hp) (.lst upd_same ((ra.flat _).mo x.pre x.ex))
theorem o_mod : OpR X (binaryOp .Mod) (rD2 Y E dMod) := by
  rintro pins s σ H x y v u Q I rx ry ⟨F, as, S, dx, dy, st, r1, r2, q⟩
  cases r1 <;> cases r2 <;> first | exact q.elim | skip
  case int.int i j =>
    obtain ⟨h, q⟩ := ite_stuck q
    exact op_mod pins s σ H _ _ v u Q I rx ry ⟨i, j, rfl, rfl, h, q.now st (.int _)⟩
theorem o_div : OpR X (binaryOp .FloorDiv) (rD2 Y E dDiv) := by
  rintro pins s σ H x y v u Q I rx ry ⟨F, as, S, dx, dy, st, r1, r2, q⟩
  cases r1 <;> cases r2 <;> first | exact q.elim | skip
  case int.int i j =>
    obtain ⟨h, q⟩ := ite_stuck q
    exact op_fdivW pins s σ H _ _ v u Q I rx ry ⟨i, j, rfl, rfl, h, q.now st (.int _)⟩
theorem o_pow : OpR X (binaryOp .Pow) (rD2 Y E dPow) := by
  rintro pins s σ H x y v u Q I rx ry ⟨F, as, S, dx, dy, st, r1, r2, q⟩
  cases r1 <;> cases r2 <;> first | exact q.elim | skip
  case int.int i j =>
    obtain ⟨⟨h1, h2⟩, q⟩ := ite_stuck q
    obtain ⟨t, rfl⟩ := rx
    obtain ⟨t', rfl⟩ := ry
    exact PyProof.Rows.pow_int h1 h2 ⟨.int _, H, I.tok _, ⟨_, rfl⟩, q.now st (.int _)⟩
end

/-! ### order -/
def cmpI (p : Int → Int → Bool) (g : List Nat → List Nat → Bool) : F2 := fun x y S => match x, y with
  | .int i, .int j => .ok (.bl (p i j)) S
  | .str a, .str b => .ok (.bl (g a.cps.toList b.cps.toList)) S
  | _, _ => .stuck
def dLt : F2 := cmpI (fun i j => decide (i < j)) fun a b => decide (a < b)
def dLe : F2 := cmpI (fun i j => decide (i ≤ j)) fun a b => !decide (b < a)
def dGt : F2 := cmpI (fun i j => decide (j < i)) fun a b => decide (b < a)
def dGe : F2 := cmpI (fun i j => decide (j ≤ i)) fun a b => !decide (a < b)
section
variable {X : Cx} {Y : Yt} {E : XK}
theorem o_lt : OpR X (compareOp .Lt) (rD2 Y E dLt) := by
  rintro pins s σ H x y v u Q I rx ry ⟨F, as, S, dx, dy, st, r1, r2, q⟩
  cases r1 <;> cases r2 <;> first | exact q.elim | skip
  case int.int i j => exact op_lt pins s σ H _ _ v u Q I rx ry ⟨i, j, rfl, rfl, q.now st (.bl _)⟩
  case str.str i j => exact op_lt_str pins s σ H _ _ v u Q I rx ry ⟨i, j, rfl, rfl, q.now st (.bl _)⟩
theorem o_le : OpR X (compareOp .LtE) (rD2 Y E dLe) := by
  rintro pins s σ H x y v u Q I rx ry ⟨F, as, S, dx, dy, st, r1, r2, q⟩
  cases r1 <;> cases r2 <;> first | exact q.elim | skip
  case int.int i j => exact op_le pins s σ H _ _ v u Q I rx ry ⟨i, j, rfl, rfl, q.now st (.bl _)⟩
  case str.str i j => exact op_le_str pins s σ H _ _ v u Q I rx ry ⟨i, j, rfl, rfl, q.now st (.bl _)⟩
theorem o_gt : OpR X (compareOp .Gt) (rD2 Y E dGt) := by
  rintro pins s σ H x y v u Q I rx ry ⟨F, as, S, dx, dy, st, r1, r2, q⟩
  cases r1 <;> cases r2 <;> first | exact q.elim | skip
  case int.int i j => exact op_gt pins s σ H _ _ v u Q I rx ry ⟨i, j, rfl, rfl, q.now st (.bl _)⟩
  case str.str i j => exact op_gt_str pins s σ H _ _ v u Q I rx ry ⟨i, j, rfl, rfl, q.now st (.bl _)⟩
theorem o_ge : OpR X (compareOp .GtE) (rD2 Y E dGe) := by
  rintro pins s σ H x y v u Q I rx ry ⟨F, as, S, dx, dy, st, r1, r2, q⟩
  cases r1 <;> cases r2 <;> first | exact q.elim | skip
  case int.int i j => exact op_ge pins s σ H _ _ v u Q I rx ry ⟨i, j, rfl, rfl, q.now st (.bl _)⟩
  case str.str i j => exact op_ge_str pins s σ H _ _ v u Q I rx ry ⟨i, j, rfl, rfl, q.now st (.bl _)⟩
end
end Rf

set_option Elab.async false
set_option linter.all false
set_option maxRecDepth 100000
/-! R4: data as PyData; ==, !=, in, not in, is None, by data. -/
namespace Rf
open PySem L2 PyProof.Rows

/-! ### data without addresses, as the library has them -/
mutual
def toP (S : Sto) : Nat → D → Option PyData
  | 0, _ => none
  | _ + 1, .non => some .none
  | _ + 1, .bl b => some (.bool b)
  | _ + 1, .int i => some (.int i)
  | _ + 1, .str x => some (.str x)
  | n + 1, .tup ds => (toPs S n ds).map .tuple
  | n + 1, .lst ds => (toPs S n ds).map .list
  | n + 1, .fro ds => (toPs S n ds).map .list
  | _ + 1, .dk kvs => if kvs.isEmpty = true then some (.dict []) else none
  | n + 1, .loc k => match S[k]? with
    | some (.lst ds) => (toPs S n ds).map .list
    | some (.dk kvs) => if kvs.isEmpty = true then some (.dict []) else none
    | _ => none
  | _ + 1, .dt _ => none
  | _ + 1, .ins _ _ => none
  | _ + 1, .ty _ => none
  | _ + 1, .cl _ => none
  | _ + 1, .sti _ => none
  | _ + 1, .fdk _ => none
def toPs (S : Sto) : Nat → List D → Option (List PyData)
  | 0, _ => none
  | _ + 1, [] => some []
  | n + 1, d :: ds => match toP S n d with
    | some p => match toPs S n ds with
      | some ps => some (p :: ps)
      | none => none
    | none => none
end
section
variable {Y : Yt} {E : XK} {as : List Addr} {S : Sto} {H F : Hp}
theorem map_some {α β : Type} {f : α → β} {o : Option α} {b : β} (h : o.map f = some b) : ∃ a, o = some a ∧ f a = b := by
  cases o with
  | none => cases h
  | some a => exact ⟨a, rfl, Option.some.inj h⟩
mutual
theorem toP_dp (s : StR Y H F as S) : ∀ (n : Nat) (d : D) (v : V) (p : PyData), Rp Y as F d v → toP S n d = some p → p.canLay0 = true → Dp Y.K H v p
  | 0, _, _, _, _, e, _ => by rw [toP] at e; cases e
  | n + 1, _, _, _, .non, e, _ => by rw [toP] at e; cases e; exact .non
  | n + 1, _, _, _, .bl b, e, _ => by rw [toP] at e; cases e; exact .bl b
  | n + 1, _, _, _, .int i, e, _ => by rw [toP] at e; cases e; exact .int i
  | n + 1, _, _, _, .str x, e, _ => by rw [toP] at e; cases e; exact .str x
  | n + 1, _, _, _, .tup h r, e, c => by
    rw [toP] at e
    obtain ⟨ps, e1, rfl⟩ := map_some e
    exact .tup (seqT_up s h) (toPs_dp s n _ _ _ r e1 (by simpa [PyData.canLay0] using c))
  | n + 1, _, _, _, .lst h r, e, c => by
    rw [toP] at e
    obtain ⟨ps, e1, rfl⟩ := map_some e
    exact .lst (SqL.of (lst_up s h)) (toPs_dp s n _ _ _ r e1 (by simpa [PyData.canLay0] using c))
  | n + 1, _, _, _, .fro h r, e, c => by
    rw [toP] at e
    obtain ⟨ps, e1, rfl⟩ := map_some e
    exact .lst (seqL_up s h) (toPs_dp s n _ _ _ r e1 (by simpa [PyData.canLay0] using c))
  | n + 1, _, _, _, .dk (kvs := kvs) h k z r, e, c => by
    rw [toP] at e
    split at e
    · cases e; rw [PyData.canLay0] at c; cases c
    · cases e
  | n + 1, _, _, _, .dt h k z r, e, c => by rw [toP] at e; cases e
  | n + 1, _, _, _, .ins h k z r w, e, c => by rw [toP] at e; cases e
  | n + 1, _, _, _, .ty _, e, c => by rw [toP] at e; cases e
  | n + 1, _, _, _, .cl _, e, c => by rw [toP] at e; cases e
  | n + 1, _, _, _, .sti _ _, e, c => by rw [toP] at e; cases e
  | n + 1, _, _, _, .fdk h k z r, e, c => by rw [toP] at e; cases e
  | n + 1, _, _, _, .loc (n := k) h, e, c => by
    rw [toP] at e
    split at e
    · rename_i ds hS
      obtain ⟨ps, e1, rfl⟩ := map_some e
      obtain ⟨vs, e2, r⟩ := s.ob k _ _ h hS
      exact .lst (SqL.of e2) (toPs_dp s n _ _ _ r e1 (by simpa [PyData.canLay0] using c))
    · split at e
      · cases e; rw [PyData.canLay0] at c; cases c
      · cases e
    · cases e
theorem toPs_dp (s : StR Y H F as S) : ∀ (n : Nat) (ds : List D) (vs : List V) (ps : List PyData), Rps Y as F ds vs → toPs S n ds = some ps → PyData.canLayAll0 ps = true → DpAll Y.K H vs ps
  | 0, _, _, _, _, e, _ => by rw [toPs] at e; cases e
  | n + 1, _, _, _, .nil, e, _ => by rw [toPs] at e; cases e; exact .nil
  | n + 1, _, _, _, .cons h r, e, c => by
    rw [toPs] at e
    split at e
    · rename_i p hp
      split at e
      · rename_i ps hps
        cases e
        rw [PyData.canLayAll0, Bool.and_eq_true] at c
        exact .cons (toP_dp s n _ _ _ h hp c.1) (toPs_dp s n _ _ _ r hps c.2)
      · cases e
    · cases e
end
end
/-- how deep data may be -/
abbrev deep : Nat := 200
def shP (S : Sto) (d : D) : Option PyData := match toP S deep d with
  | some p => if SeqAt.shaped p = true then some p else none
  | none => none
theorem shP_dp {Y : Yt} {as : List Addr} {S : Sto} {H F : Hp} (s : StR Y H F as S) {d : D} {v : V} {p : PyData} (r : Rp Y as F d v) (e : shP S d = some p) : Dp Y.K H v p ∧ SeqAt.shaped p = true := by
  unfold shP at e
  split at e
  · rename_i q hq
    split at e
    · rename_i h
      cases e
      exact ⟨toP_dp s _ _ _ _ r hq (SeqAt.canLay_of_shaped h), h⟩
    · cases e
  · cases e

/-! ### a dict and a text are not equal -/
section
open SeqAt AutoSeq1
abbrev dictObj (es : Array DictEntry) (ep : Nat) (dd : Option Addr) (sl : Array (Option Value)) : Obj := { cls := .type "dict", dict := dd, data := .dict es ep, slots := sl }
theorem dict_eq_str (l : Addr) (es : Array DictEntry) (ep : Nat) (dd : Option Addr) (sl : Array (Option Value)) (b : Str) (u : Tok) :
    Meets (Builtin.«dict.__eq__» ⟨[.ref l, .str b u], []⟩) (fun _ R s => s.heap.get? l = some (dictObj es ep dd sl) ∧ R (.ok (.ret .notImplemented)) s) :=
  .of_wp fun prog w A R s h => by
    obtain ⟨hp, g, d, tk, os⟩ := s
    obtain ⟨hl, h⟩ := h
    have f1 := PySem.F.sub_str_dict
    wp_walk using wpAny_load hl
    exact ⟨_, rfl, h⟩
theorem str_eq_dict (b : Str) (u : Tok) (l : Addr) (es : Array DictEntry) (ep : Nat) (dd : Option Addr) (sl : Array (Option Value)) :
    Meets (Builtin.«str.__eq__» ⟨[.str b u, .ref l], []⟩) (fun _ R s => s.heap.get? l = some (dictObj es ep dd sl) ∧ R (.ok (.ret .notImplemented)) s) :=
  .of_wp fun prog w A R s h => by
    obtain ⟨hp, g, d, tk, os⟩ := s
    obtain ⟨hl, h⟩ := h
    wp_walk using wpAny_load hl
    exact ⟨_, rfl, h⟩
variable {A : Around} {s : Shared}
theorem rc_dict_str {l : Addr} {es : Array DictEntry} {ep : Nat} {dd : Option Addr} {sl : Array (Option Value)} (b : Str) (u : Tok) (ho : s.heap.get? l = some (dictObj es ep dd sl)) (hu : A.units < cLine) : RcAt A s (.ref l) (.str b u) false := fun prog w E Q h =>
  rc_eq_decline_or (k := false) ⟨_, ho, rfl⟩ (typeIs_str s b u) (by decide) PySem.F.sub_str_dict PySem.F.slot_dict_eq PySem.F.slot_str_eq_refl
    (fun _ hq => call_meets PySem.F.slot_dict_eq ⟨_, ho, rfl⟩ PySem.F.entry_dict_eq (PySem.F.args_dict_eq_2 _ _) (dict_eq_str l es ep dd sl b u) ⟨ho, hq⟩)
    (fun _ hq => call_meets PySem.F.slot_str_eq_refl (typeIs_str s b u) PySem.F.entry_str_eq (PySem.F.args_str_eq_2 _ _) (str_eq_dict b u l es ep dd sl) ⟨ho, hq⟩)
    (fun _ hq => wpAny_of_eq (rfl : isSame (.ref l) (.str b u) = pure false) hq) (.inr hu) h
theorem rc_str_dict {l : Addr} {es : Array DictEntry} {ep : Nat} {dd : Option Addr} {sl : Array (Option Value)} (b : Str) (u : Tok) (ho : s.heap.get? l = some (dictObj es ep dd sl)) (hu : A.units < cLine) : RcAt A s (.str b u) (.ref l) false := fun prog w E Q h =>
  rc_eq_decline_or (k := false) (typeIs_str s b u) ⟨_, ho, rfl⟩ (by decide) PySem.F.sub_dict_str PySem.F.slot_str_eq PySem.F.slot_dict_eq_refl
    (fun _ hq => call_meets PySem.F.slot_str_eq (typeIs_str s b u) PySem.F.entry_str_eq (PySem.F.args_str_eq_2 _ _) (str_eq_dict b u l es ep dd sl) ⟨ho, hq⟩)
    (fun _ hq => call_meets PySem.F.slot_dict_eq_refl ⟨_, ho, rfl⟩ PySem.F.entry_dict_eq (PySem.F.args_dict_eq_2 _ _) (dict_eq_str l es ep dd sl b u) ⟨ho, hq⟩)
    (fun _ hq => wpAny_of_eq (rfl : isSame (.str b u) (.ref l) = pure false) hq) (.inr hu) h
theorem eq_str_dict {l : Addr} {es : Array DictEntry} {ep : Nat} {dd : Option Addr} {sl : Array (Option Value)} (b : Str) (u : Tok) (ho : s.heap.get? l = some (dictObj es ep dd sl)) (hu : A.units < cLine) : EqAt A s (.str b u) (.ref l) false := fun prog w E Q h => by
  unfold eqBool
  refine wpAny_holding ?_
  refine wpAny_ite_split (fun hab => absurd (eq_of_beq hab) nofun) (fun _ => ?_)
  exact wpAny_bind (rc_str_dict b u ho hu prog w E _ (wpAny_truthy_bool h))
end

/-! ### == and !=, in and not in -/
def isDO : Option D → Bool
  | some (.dk _) => true
  | _ => false
def isD (S : Sto) : D → Bool
  | .dk _ => true
  | .loc k => isDO S[k]?
  | _ => false
def isS : D → Bool
  | .str _ => true
  | _ => false
/-- are they equal: known where both are plain data, or one is a dict and the other a text -/
def eqD (S : Sto) (x y : D) : Option Bool := match shP S x, shP S y with
  | some p, some q => some (PyData.eqv p q)
  | _, _ => if (isD S x && isS y) = true then some false else none
def neD (S : Sto) (x y : D) : Option Bool := match shP S x, shP S y with
  | some p, some q => some (!PyData.eqv p q)
  | _, _ => match x, y with
    | .str a, .str b => some (a != b)
    | _, _ => none
def ofB (S : Sto) : Option Bool → Res D
  | some b => .ok (.bl b) S
  | none => .stuck
def dEq : F2 := fun x y S => ofB S (eqD S x y)
def dNe : F2 := fun x y S => ofB S (neD S x y)
/-- the items of a list or a tuple -/
def lstOf : Option D → Option (List D)
  | some (.lst ds) => some ds
  | _ => none
theorem lstOf_some {o : Option D} {ds : List D} (h : lstOf o = some ds) : o = some (.lst ds) := by
  cases o with
  | none => cases h
  | some d => cases d <;> first | (cases h; rfl) | cases h
def seqOf (S : Sto) : D → Option (List D)
  | .tup ds => some ds
  | .lst ds => some ds
  | .fro ds => some ds
  | .loc k => lstOf S[k]?
  | _ => none
/-- is x in c: of plain data; a dict in a row of texts; a sign in a text -/
def inD (S : Sto) (x c : D) : Option Bool := match shP S x, shP S c with
  | some p, some (.tuple ps) => some (ps.any fun z => PyData.eqv z p)
  | some p, some (.list ps) => some (ps.any fun z => PyData.eqv z p)
  | some (.str a), some (.str b) => if a.cps.size = 1 then some (decide (a.cps.getD 0 0 ∈ b.cps.toList)) else none
  | _, _ => match c with
    | .tup ds => if (isD S x && ds.all isS) = true then some false else none
    | _ => none
def dIn : F2 := fun x c S => ofB S (inD S x c)
def dNotIn : F2 := fun x c S => ofB S ((inD S x c).map (!·))
def isNon : D → Bool
  | .non => true
  | _ => false
def dIsN : F2 := fun x y S => if isNon y = true then .ok (.bl (isNon x)) S else .stuck
def dNotN : F2 := fun x y S => if isNon y = true then .ok (.bl (!isNon x)) S else .stuck
theorem ofB_some {Y : Yt} {E : XK} {as : List Addr} {S : Sto} {H F : Hp} {o : Option Bool} {Q : VK} (q : After Y E (Rp Y) as F H (ofB S o) Q) : ∃ b, o = some b ∧ After Y E (Rp Y) as F H (.ok (.bl b) S) Q := by
  cases o with
  | none => exact q.elim
  | some b => exact ⟨b, rfl, q⟩
section
variable {X : Cx} {Y : Yt} {E : XK} {as : List Addr} {S : Sto} {H F : Hp}
theorem dict_at {pins : List (Addr × Obj)} {s : Shared} {σ : L2.St} {d : D} {v : V} {u : Value} (I : L2.Inv X pins σ H s) (st : StR Y H F as S) (r : Rp Y as F d v) (e : isD S d = true) (ru : RelV v u) : ∃ l es ep dd sl, u = .ref l ∧ s.heap.get? l = some (dictObj es ep dd sl) := by
  have key : ∀ (a : Addr) (kvs : List (Key × V)), H a = some (.dK kvs) → ∃ es ep dd sl, s.heap.get? a = some (dictObj es ep dd sl) := fun a kvs h => by
    obtain ⟨_, _, vs, _, ⟨c, dd, da, sl⟩, es, ep, h1, h2, h3, _⟩ := (show ObjOk X.prog X.w H s.heap a (.dK kvs) from I.hok a _ h)
    have hc : c = .type "dict" := h2.1
    have hd : da = .dict es ep := h3
    subst hc
    subst hd
    exact ⟨es, ep, dd, sl, h1⟩
  cases r with
  | dk h k z r =>
    cases ru
    obtain ⟨es, ep, dd, sl, h1⟩ := key _ _ (lst_up st h)
    exact ⟨_, es, ep, dd, sl, rfl, h1⟩
  | @loc k a h =>
    cases ru
    have e : isDO S[k]? = true := e
    cases hS : S[k]? with
    | none => rw [hS] at e; cases e
    | some d =>
      rw [hS] at e
      cases d with
      | dk kvs =>
        obtain ⟨ws, e2, _⟩ := st.ob k _ _ h hS
        obtain ⟨es, ep, dd, sl, h1⟩ := key _ _ e2
        exact ⟨_, es, ep, dd, sl, rfl, h1⟩
      | _ => cases e
  | _ => cases e
theorem str_at {d : D} {v : V} {u : Value} (r : Rp Y as F d v) (e : isS d = true) (ru : RelV v u) : ∃ x t, u = .str x t := by
  cases r with
  | str x =>
    obtain ⟨t, rfl⟩ := ru
    exact ⟨x, t, rfl⟩
  | _ => cases e
theorem shP_reads {pins : List (Addr × Obj)} {s : Shared} {σ : L2.St} {d : D} {v : V} {u : Value} {p : PyData} (hK : X.K = Y.K) (I : L2.Inv X pins σ H s) (st : StR Y H F as S) (r : Rp Y as F d v) (e : shP S d = some p) (ru : RelV v u) : (∃ bs, Reads s.heap u p bs) ∧ SeqAt.shaped p = true := by
  obtain ⟨h, c⟩ := shP_dp st r e
  rw [← hK] at h
  exact ⟨Dp.reads I p v u h ru, c⟩
theorem o_eq (hK : X.K = Y.K) (hu : X.A.units + 64 < cLine) : OpR X (compareOp .Eq) (rD2 Y E dEq) := by
  rintro pins s σ H x y v u Q I rx ry ⟨F, as, S, dx, dy, st, r1, r2, q⟩
  obtain ⟨b, e, q⟩ := ofB_some q
  have fin : EP X pins σ Q (.bool b) s := ⟨.bl b, H, I, rfl, q.now st (.bl b)⟩
  unfold eqD at e
  split at e
  · rename_i p1 p2 h1 h2
    obtain ⟨⟨bs, z1⟩, c1⟩ := shP_reads hK I st r1 h1 rx
    obtain ⟨⟨cs, z2⟩, c2⟩ := shP_reads hK I st r2 h2 ry
    cases e
    exact SeqAt.compareEq_shaped z1 z2 c1 c2 hu fin
  · split at e
    · rename_i h
      rw [Bool.and_eq_true] at h
      cases e
      obtain ⟨l, es, ep, dd, sl, rfl, ho⟩ := dict_at I st r1 h.1 rx
      obtain ⟨z, t, rfl⟩ := str_at r2 h.2 ry
      exact rc_dict_str z t ho (by omega) X.prog X.w X.xe _ fin
    · cases e
theorem o_ne (hK : X.K = Y.K) (hu : X.A.units + 64 < cLine) : OpR X (compareOp .NotEq) (rD2 Y E dNe) := by
  rintro pins s σ H x y v u Q I rx ry ⟨F, as, S, dx, dy, st, r1, r2, q⟩
  obtain ⟨b, e, q⟩ := ofB_some q
  have fin : EP X pins σ Q (.bool b) s := ⟨.bl b, H, I, rfl, q.now st (.bl b)⟩
  unfold neD at e
  split at e
  · rename_i p1 p2 h1 h2
    obtain ⟨⟨bs, z1⟩, c1⟩ := shP_reads hK I st r1 h1 rx
    obtain ⟨⟨cs, z2⟩, c2⟩ := shP_reads hK I st r2 h2 ry
    cases e
    exact SeqAt.compareNe_shaped z1 z2 c1 c2 hu fin
  · split at e
    · cases r1
      cases r2
      obtain ⟨t1, rfl⟩ := rx
      obtain ⟨t2, rfl⟩ := ry
      cases e
      exact PyProof.Rows.ne_str fin
    · cases e
theorem room_in {A : Around} {d : PyData} (h : SeqAt.shaped d = true) (hu : A.units + 65 < cLine) (k : Nat) : A.units + 1 + min k d.depth < cLine := by
  have h1 := SeqAt.depth_of_shaped h
  have h2 : min k d.depth ≤ d.depth := Nat.min_le_right _ _
  omega
theorem sign1 {a : Str} (h : a.cps.size = 1) : a = ⟨#[a.cps.getD 0 0]⟩ := by
  obtain ⟨cs⟩ := a
  have h : cs.size = 1 := h
  have e : cs = #[cs.getD 0 0] := by
    apply Array.ext
    · simpa using h
    · intro i h1 h2
      have : i = 0 := by omega
      subst this
      simp [Array.getD, h]
  exact congrArg Str.mk e
theorem all_str {ds : List D} {vs : List V} {us : List Value} (r : Rps Y as F ds vs) (e : ds.all isS = true) (rv : Vals vs us) : ∀ u ∈ us, ∃ x t, u = .str x t := by
  induction ds generalizing vs us with
  | nil => cases r; cases rv; intro u hu; cases hu
  | cons d ds ih =>
    cases r with
    | cons h1 h2 =>
      cases rv with
      | cons g1 g2 =>
        rw [List.all_cons, Bool.and_eq_true] at e
        intro u hu
        rcases List.mem_cons.mp hu with rfl | hu
        · exact str_at h1 e.1 g1
        · exact ih h2 e.2 g2 u hu
theorem in_core (hK : X.K = Y.K) (hu : X.A.units + 65 < cLine) {pins : List (Addr × Obj)} {s : Shared} {σ : L2.St} {dx dy : D} {x y : V} {v u : Value} {b : Bool} (I : L2.Inv X pins σ H s) (rx : RelV x v) (ry : RelV y u) (st : StR Y H F as S) (r1 : Rp Y as F dx x) (r2 : Rp Y as F dy y)
    (e : inD S dx dy = some b) (neg : Bool) {Q : Value → Shared → Prop} {E' : Value → Shared → Prop} (fin : Q (.bool (if neg then !b else b)) s) : wpAny (model X.prog X.w) X.A (compareOp (if neg then .NotIn else .In) v u) Q E' s := by
  unfold inD at e
  split at e
  · rename_i p1 ps h1 h2
    obtain ⟨⟨bs, z1⟩, c1⟩ := shP_reads hK I st r1 h1 rx
    obtain ⟨⟨cs, z2⟩, c2⟩ := shP_reads hK I st r2 h2 ry
    cases e
    cases neg with
    | false => exact SeqAt.in_tuple_reads z2 z1 (by simpa [PyData.canLay0] using SeqAt.canLay_of_shaped c2) (SeqAt.canLay_of_shaped c1) (room_in c1 hu _) fin
    | true => exact SeqAt.notIn_tuple_reads z2 z1 (by simpa [PyData.canLay0] using SeqAt.canLay_of_shaped c2) (SeqAt.canLay_of_shaped c1) (room_in c1 hu _) fin
  · rename_i p1 ps h1 h2
    obtain ⟨⟨bs, z1⟩, c1⟩ := shP_reads hK I st r1 h1 rx
    obtain ⟨⟨cs, z2⟩, c2⟩ := shP_reads hK I st r2 h2 ry
    cases e
    cases neg with
    | false => exact SeqAt.in_list_reads z2 z1 (by simpa [PyData.canLay0] using SeqAt.canLay_of_shaped c2) (SeqAt.canLay_of_shaped c1) (room_in c1 hu _) fin
    | true => exact SeqAt.notIn_list_reads z2 z1 (by simpa [PyData.canLay0] using SeqAt.canLay_of_shaped c2) (SeqAt.canLay_of_shaped c1) (room_in c1 hu _) fin
  · rename_i a c h1 h2
    split at e
    · rename_i hz
      obtain ⟨⟨bs, z1⟩, _⟩ := shP_reads hK I st r1 h1 rx
      obtain ⟨⟨cs, z2⟩, _⟩ := shP_reads hK I st r2 h2 ry
      cases e
      cases z1
      cases z2
      have ha := sign1 hz
      have hf := PySem.StrLaws.found_one c (a.cps.getD 0 0)
      cases neg with
      | false =>
        refine PyProof.Rows.in_str ?_
        rw [ha, hf]
        exact fin
      | true =>
        refine PyProof.Rows.notIn_str ?_
        rw [ha, hf]
        exact fin
    · cases e
  · split at e
    · rename_i ds
      split at e
      · rename_i h
        rw [Bool.and_eq_true] at h
        cases e
        obtain ⟨l, es, ep, dd, sl, rfl, ho⟩ := dict_at I st r1 h.1 rx
        cases r2 with
        | @tup a vs _ ht rt =>
          cases ry
          have ht' : SqT X.K H a vs := by rw [hK]; exact seqT_up st ht
          obtain ⟨its, rv, tp, _⟩ := I.tuple ht'
          have hu1 : X.A.in1.units < cLine := by show X.A.units + 1 < cLine; omega
          have he : ∀ w ∈ its.toArray, SeqAt.EqAt X.A.in1 s w (.ref l) false := fun w hw => by
            obtain ⟨z, t, rfl⟩ := all_str rt h.2 rv w (by simpa using hw)
            exact eq_str_dict z t ho hu1
          have any0 : its.toArray.any (fun _ => false) = false := by simp
          cases neg with
          | false => exact SeqAt.in_tupleAt (fun _ => false) tp he (by rw [any0]; exact fin)
          | true => exact SeqAt.notIn_tupleAt (fun _ => false) tp he (by rw [any0]; exact fin)
      · cases e
    · cases e
theorem o_in (hK : X.K = Y.K) (hu : X.A.units + 65 < cLine) : OpR X (compareOp .In) (rD2 Y E dIn) := by
  rintro pins s σ H x y v u Q I rx ry ⟨F, as, S, dx, dy, st, r1, r2, q⟩
  obtain ⟨b, e, q⟩ := ofB_some q
  exact in_core hK hu I rx ry st r1 r2 e false ⟨.bl b, H, I, rfl, q.now st (.bl b)⟩
theorem o_notIn (hK : X.K = Y.K) (hu : X.A.units + 65 < cLine) : OpR X (compareOp .NotIn) (rD2 Y E dNotIn) := by
  rintro pins s σ H x y v u Q I rx ry ⟨F, as, S, dx, dy, st, r1, r2, q⟩
  obtain ⟨b, e, q⟩ := ofB_some q
  obtain ⟨c, e1, rfl⟩ := map_some e
  exact in_core hK hu I rx ry st r1 r2 e1 true ⟨.bl _, H, I, rfl, q.now st (.bl _)⟩
theorem non_dec {d : D} {v : V} (r : Rp Y as F d v) : decide (v = .non) = isNon d := by
  cases r <;> simp [isNon]
theorem o_isN : OpR X (compareOp .Is) (rD2 Y E dIsN) := by
  rintro pins s σ H x y v u Q I rx ry ⟨F, as, S, dx, dy, st, r1, r2, q⟩
  obtain ⟨h, q⟩ := ite_stuck q
  cases r2 <;> first | cases h | skip
  refine op_isN pins s σ H _ _ v u Q I rx ry ⟨rfl, ?_⟩
  rw [non_dec r1]
  exact q.now st (.bl _)
theorem o_notN : OpR X (compareOp .IsNot) (rD2 Y E dNotN) := by
  rintro pins s σ H x y v u Q I rx ry ⟨F, as, S, dx, dy, st, r1, r2, q⟩
  obtain ⟨h, q⟩ := ite_stuck q
  cases r2 <;> first | cases h | skip
  refine op_notN pins s σ H _ _ v u Q I rx ry ⟨rfl, ?_⟩
  rw [non_dec r1]
  exact q.now st (.bl _)
end
end Rf

set_option Elab.async false
set_option linter.all false
set_option maxRecDepth 100000
/-! R5: subscripts and slices by data. -/
namespace Rf
open PySem L2 PyProof.Rows

/-! ### t[::-1] of a tuple -/
section
variable {prog : Program} {w : World} {A : Around} {E : Value → Shared → Prop} {s : Shared}
theorem back_bounds (n : Nat) : Builtin.Slice.sliceAdjust none none (-1) (n : Int) = ((n : Int) - 1, -1) := by
  unfold Builtin.Slice.sliceAdjust
  have h1 : ((-1 : Int) < 0) := by decide
  simp only [h1, if_true]
theorem back_places (n : Nat) : Builtin.Slice.slicePlaces ((n : Int) - 1) (-1) (-1) = n := by
  unfold Builtin.Slice.slicePlaces
  have h1 : ¬ ((-1 : Int) > 0) := by decide
  simp only [h1, if_false]
  by_cases h : (n : Int) - 1 > -1
  · rw [if_pos h, show (-(-1) : Int) = 1 by decide, Int.ediv_one]
    omega
  · rw [if_neg h]
    omega
theorem fm_congr {α β : Type} {f g : α → Option β} : ∀ {l : List α}, (∀ x ∈ l, f x = g x) → l.filterMap f = l.filterMap g
  | [], _ => rfl
  | a :: l, h => by
    rw [List.filterMap_cons, List.filterMap_cons, h a (List.mem_cons_self ..), fm_congr fun x hx => h x (List.mem_cons_of_mem _ hx)]
theorem back_pick (xs : Array Value) : ((List.range xs.size).filterMap fun (k : Nat) => xs[(((xs.size : Int) - 1) + (k : Int) * (-1)).toNat]?).toArray = xs.toList.reverse.toArray := by
  congr 1
  have e : ∀ k ∈ List.range xs.size, (fun (k : Nat) => xs[(((xs.size : Int) - 1) + (k : Int) * (-1)).toNat]?) k = (fun k => xs[xs.size - 1 - k]?) k := fun k hk => by
    have := List.mem_range.mp hk
    have h : (((xs.size : Int) - 1) + (k : Int) * (-1)).toNat = xs.size - 1 - k := by omega
    show xs[_]? = xs[_]?
    rw [h]
  rw [fm_congr e]
  have := PySem.W.krv_range xs.size
  rw [show (List.range xs.size).filterMap (fun k => xs[xs.size - 1 - k]?) = ((List.range xs.size).map fun k => xs.size - 1 - k).filterMap (fun j => xs[j]?) by rw [List.filterMap_map]; rfl, this, List.filterMap_reverse, PySem.W.krv_all]
theorem item_back {t sl : Addr} {items : Array Value} {u : Tok} {Q : Value → Shared → Prop} (ht : IsTup s.heap t items) (hs : s.heap.IsSliceOf sl .none .none (.int (-1) u))
    (h : Q (.ref s.heap.objs.size) { s with heap := s.heap.push { cls := .type "tuple", data := .seq items.toList.reverse.toArray } }) (hz : items.size ≤ sizeLine) : wpAny (model prog w) A (getItem (.ref t) (.ref sl)) Q E s := by
  obtain ⟨os, hos, hcs, hds⟩ := id hs
  have hT : s.TypeIs (.ref sl) "slice" := ⟨os, hos, hcs⟩
  unfold getItem
  try with_reducible refine wpAny_holding ?_
  first | refine wpAny_bind (wpAny_pure ?_) | skip
  refine wpAny_bind (wpAny_sequenceKey ht.typeIs (by decide) (wpAny_bind (wpAny_callSpecial?_slot (name := Str.ofString "__getitem__") ht.typeIs PyProof.Rows.slot_tuple_getitem (wpAny_call_entry PyProof.Rows.slot_tuple_getitem ht.typeIs entry_tuple_getitem ?_ (args_tuple_getitem _ _)))))
  show wpAny _ _ (Builtin.Tuple.tupleItemsOf (.ref t) >>= _) _ _ s
  refine wpAny_bind (tupleItemsOf_ ht (wpAny_bind (wpAny_typeOf hT ?_)))
  rw [if_pos (by decide)]
  have ap : ∀ {R : Int × Int × Nat → Shared → Prop} {E' : Value → Shared → Prop} {A' : Around} {prog' : Program} {w' : World}, R ((items.size : Int) - 1, -1, items.size) s → wpAny (model prog' w') A' (Builtin.Slice.sliceApplied (.ref sl) (pure ((items.size : Nat) : Int))) R E' s := fun {R E' A' prog' w'} hr => by
    unfold Builtin.Slice.sliceApplied Builtin.Slice.sliceFields
    refine wpAny_bind (wpAny_bind (wpAny_field hos hds (x := .none) rfl (wpAny_bind (wpAny_field hos hds (x := .none) rfl (wpAny_bind (wpAny_field hos hds (x := .int (-1) u) rfl (wpAny_pure ?_)))))))
    refine wpAny_bind (slicePart_int ?_)
    show wpAny _ _ (if (((-1 : Int)) == 0) = true then _ else _) _ _ s
    rw [if_neg (by decide)]
    refine wpAny_bind (slicePart_none (wpAny_bind (slicePart_none (wpAny_bind (wpAny_pure ?_)))))
    show wpAny _ _ (match Builtin.Slice.sliceAdjust none none (-1) (items.size : Int) with | (lo, hi) => pure (lo, (-1 : Int), Builtin.Slice.slicePlaces lo hi (-1))) _ _ s
    rw [back_bounds]
    show wpAny _ _ (pure (((items.size : Int) - 1), (-1 : Int), Builtin.Slice.slicePlaces ((items.size : Int) - 1) (-1) (-1))) _ _ s
    rw [back_places]
    exact wpAny_pure hr
  refine wpAny_bind (ap ?_)
  show wpAny _ _ (if ((((items.size : Int) - 1) == 0 && (-1 : Int) == 1 && items.size == items.size)) = true then _ else _) _ _ s
  rw [if_neg (by simp), back_pick]
  have hok : sizeOk (.seq items.toList.reverse.toArray) := by
    show items.toList.reverse.toArray.size ≤ sizeLine
    rw [List.size_toArray, List.length_reverse, Array.length_toList]
    exact hz
  first
    | exact wpAny_bind (m := Builtin.Tuple.tupleExact _) (wpAny_newObj_type (wpAny_pure ⟨_, rfl, wpAny_pure h⟩) hok)
    | exact wpAny_bind (m := Builtin.Tuple.tupleExact _) (wpAny_newObj_type (wpAny_bind (wpAny_pure (wpAny_pure ⟨_, rfl, wpAny_pure h⟩))) hok)
    | exact wpAny_bind (wpAny_bind (m := Builtin.Tuple.tupleExact _) (wpAny_newObj_type (wpAny_pure (wpAny_pure ⟨_, rfl, wpAny_pure h⟩)) hok))
    | exact wpAny_bind (wpAny_bind (m := Builtin.Tuple.tupleExact _) (wpAny_newObj_type (wpAny_pure ⟨_, rfl, wpAny_pure h⟩) hok))
end

/-! ### subscripts -/
def dIx : F2 := fun x y S => match y with
  | .int i => match x with
    | .str z => if few z.length = true then (match atI z.cps.toList i with
      | some c => .ok (.str ⟨#[c]⟩) S
      | none => .stuck) else .stuck
    | _ => match seqOf S x with
      | some ds => (match atI ds i with
        | some d => .ok d S
        | none => .stuck)
      | none => .stuck
  | _ => .stuck
section
variable {X : Cx} {Y : Yt} {E : XK} {as : List Addr} {S : Sto} {H F : Hp}
/-- a row by data is a row by values -/
theorem seq_at (st : StR Y H F as S) {d : D} {v : V} {ds : List D} (r : Rp Y as F d v) (e : seqOf S d = some ds) : ∃ a vs, v = .ref a ∧ (SqL Y.K H a vs ∨ SqT Y.K H a vs) ∧ Rps Y as F ds vs := by
  cases r with
  | tup h r => cases e; exact ⟨_, _, rfl, .inr (seqT_up st h), r⟩
  | lst h r => cases e; exact ⟨_, _, rfl, .inl (SqL.of (lst_up st h)), r⟩
  | fro h r => cases e; exact ⟨_, _, rfl, .inl (seqL_up st h), r⟩
  | @loc k a h =>
    obtain ⟨vs, e2, r⟩ := st.ob _ _ _ h (lstOf_some (show lstOf S[k]? = some ds from e))
    exact ⟨_, vs, rfl, .inl (SqL.of e2), r⟩
  | _ => cases e
theorem atI_rel {ds : List D} {vs : List V} {i : Int} {d : D} (r : Rps Y as F ds vs) (e : atI ds i = some d) : ∃ v, atI vs i = some v ∧ Rp Y as F d v := by
  unfold atI at e ⊢
  rw [← r.length]
  cases h : ixN ds.length i with
  | none => rw [h] at e; cases e
  | some k =>
    rw [h] at e
    obtain ⟨v, h1, h2⟩ := r.get (i := k) (d := d) e
    exact ⟨v, h1, h2⟩
theorem x_ix (hK : X.K = Y.K) : IxR X (rD2 Y E dIx) := by
  rintro value slice pins s σ H x y v u Q I rx ry ⟨F, as, S, dx, dy, st, r1, r2, q⟩ hs
  cases r2 <;> first | exact q.elim | skip
  case int i =>
    have other : (∃ ds d, seqOf S dx = some ds ∧ atI ds i = some d ∧ After Y E (Rp Y) as F H (.ok d S) Q) → wpAny (model X.prog X.w) X.A (subscriptTail value slice v u) (EP X pins σ Q) X.xe s := by
      rintro ⟨ds, d, e1, e2, q⟩
      obtain ⟨a, vs, rfl, h, r⟩ := seq_at st r1 e1
      obtain ⟨w, h3, h4⟩ := atI_rel r e2
      rw [← hK] at h
      rcases h with h | h
      · exact ix_list value slice pins s σ H _ _ v u Q I rx ry ⟨a, vs, i, w, rfl, rfl, h, h3, q.now st h4⟩ hs
      · exact ix_tup value slice pins s σ H _ _ v u Q I rx ry ⟨a, vs, i, w, rfl, rfl, h, h3, q.now st h4⟩ hs
    have get : (match seqOf S dx with
      | some ds => (match atI ds i with
        | some d => Res.ok d S
        | none => .stuck)
      | none => .stuck : Res D) = Res.stuck ∨ ∃ ds d, seqOf S dx = some ds ∧ atI ds i = some d := by
      cases h1 : seqOf S dx with
      | none => exact .inl rfl
      | some ds =>
        cases h2 : atI ds i with
        | none => left; simp only [h2]
        | some d => exact .inr ⟨ds, d, rfl, h2⟩
    have go : ∀ (q : After Y E (Rp Y) as F H (match seqOf S dx with
      | some ds => (match atI ds i with
        | some d => Res.ok d S
        | none => .stuck)
      | none => .stuck : Res D) Q), ∃ ds d, seqOf S dx = some ds ∧ atI ds i = some d ∧ After Y E (Rp Y) as F H (.ok d S) Q := fun q => by
      rcases get with h | ⟨ds, d, h1, h2⟩
      · rw [h] at q; exact q.elim
      · refine ⟨ds, d, h1, h2, ?_⟩
        simp only [h1, h2] at q
        exact q
    cases r1 <;> first | exact other (go q) | skip
    case str z =>
      obtain ⟨hz, q⟩ := ite_stuck (show After Y E (Rp Y) as F H (if few z.length = true then (match atI z.cps.toList i with
        | some c => Res.ok (D.str ⟨#[c]⟩) S
        | none => .stuck) else .stuck) Q from q)
      cases h : atI z.cps.toList i with
      | none => rw [h] at q; exact q.elim
      | some c =>
        rw [h] at q
        exact ix_str value slice pins s σ H _ _ v u Q I rx ry ⟨z, i, c, rfl, rfl, few_line hz, h, q.now st (.str _)⟩ hs
end

/-! ### slices -/
def cut {α : Type} (xs : List α) (lo hi : Option Int) : List α := (xs.drop (HT.sIx xs.length 0 lo)).take (HT.sIx xs.length xs.length hi - HT.sIx xs.length 0 lo)
abbrev FSl := D → Option Int → Option Int → Sto → Res D
def dSl : FSl := fun x lo hi S => match x with
  | .tup ds => .ok (.tup (cut ds lo hi)) S
  | .lst ds => .ok (.lst (cut ds lo hi)) S
  | .fro ds => .ok (.lst (cut ds lo hi)) S
  | .str z => if few z.length = true then .ok (.str (cutS z lo hi)) S else .stuck
  | .loc k => match lstOf S[k]? with
    | some ds => .ok (.lst (cut ds lo hi)) S
    | none => .stuck
  | _ => .stuck
abbrev MO := Rho → Sto → Res (Option Int)
def mNoP : MO := fun _ S => .ok none S
def mPart (m : M) : MO := fun ρ S => (m ρ S).bnd fun d S1 => match d with
  | .int i => .ok (some i) S1
  | _ => .stuck
def iO (Y : Yt) (E : XK) (m : MO) : TO := fun σ H Q => ∃ F as ρ S, At Y σ H F as ρ S ∧ After Y E (fun _ _ a b => a = b) as F H (m ρ S) Q
def mSl (f : FSl) (m : M) (ml mh : MO) : M := fun ρ S => (m ρ S).bnd fun x S1 => (ml ρ S1).bnd fun l S2 => (mh ρ S2).bnd fun h S3 => f x l h S3
def rDS (Y : Yt) (E : XK) (f : FSl) : V → Option Int → Option Int → Hp → VK → Prop := fun x lo hi H Q => ∃ F as S dx, StR Y H F as S ∧ Rp Y as F dx x ∧ After Y E (Rp Y) as F H (f dx lo hi S) Q
section
variable {X : Cx} {Y : Yt} {E : XK} {as : List Addr} {S : Sto} {H F : Hp} {pos p2 : Pos} {a : Expr} {lo hi : Option Expr} {m : M} {ml mh : MO}
theorem PO_imp {X : Cx} {e : Option Expr} {t t' : TO} (h : PO X e t) (k : ∀ σ H Q, t' σ H Q → t σ H Q) : PO X e t' := ⟨fun pins s σ H Q I q => h.run pins s σ H Q I (k σ H Q q)⟩
theorem io_none : PO X none (iO Y E mNoP) := PO_imp po_none fun σ H Q ⟨F, as, ρ, S, t, q⟩ => q.now t.st rfl
theorem io_some (h : PE X a (iE Y E m)) : PO X (some a) (iO Y E (mPart m)) := PO_imp (po_some h) fun σ H Q ⟨F, as, ρ, S, t, q⟩ =>
  ⟨F, as, ρ, S, t, (After.bnd q).imp fun v H1 ⟨d, S1, F1, as1, x1, s1, r1, q1⟩ => by
    cases r1 with
    | int i => exact ⟨i, rfl, q1.now s1 rfl⟩
    | _ => exact q1.elim⟩
theorem i_slice {f : FSl} (hr : SlR X (rDS Y E f)) (he : PE X a (iE Y E m)) (hl : PO X lo (iO Y E ml)) (hh : PO X hi (iO Y E mh)) : PE X (.Subscript a (.Slice lo hi none p2) pos) (iE Y E (mSl f m ml mh)) := PE_imp (pe_slice hr he hl hh) fun σ H Q ⟨F, as, ρ, S, t, q⟩ =>
  ⟨F, as, ρ, S, t, (After.bnd q).imp fun v H1 ⟨d, S1, F1, as1, x1, s1, r1, q1⟩ =>
    ⟨F1, as1, ρ, S1, t.mo x1 s1, (After.bnd q1).imp fun l H2 ⟨d2, S2, F2, as2, x2, s2, r2, q2⟩ => by
      have r2 : d2 = l := r2
      subst r2
      exact ⟨F2, as2, ρ, S2, (t.mo x1 s1).mo x2 s2, (After.bnd q2).imp fun h H3 ⟨d3, S3, F3, as3, x3, s3, r3, q3⟩ => by
        have r3 : d3 = h := r3
        subst r3
        exact ⟨F3, as3, S3, d, s3, (r1.mo x2.pre x2.ex).mo x3.pre x3.ex, q3⟩⟩⟩⟩
theorem Rps.cut {ds : List D} {vs : List V} (r : Rps Y as F ds vs) (lo hi : Option Int) : Rps Y as F (cut ds lo hi) (cutV vs lo hi) := by
  unfold Rf.cut cutV
  rw [r.length]
  exact (r.drop _).take _
theorem cut_whole {α : Type} {ds : List α} {lo hi : Option Int} (h : HT.sIx ds.length 0 lo = 0 ∧ HT.sIx ds.length ds.length hi = ds.length) : cut ds lo hi = ds := by
  unfold cut
  rw [h.1, h.2, List.drop_zero, Nat.sub_zero, List.take_length]
theorem cut_few {α : Type} {ds : List α} {lo hi : Option Int} : (cut ds lo hi).length ≤ ds.length := by
  unfold cut
  rw [List.length_take, List.length_drop]
  omega
theorem s_sl (hK : X.K = Y.K) : SlR X (rDS Y E dSl) := by
  rintro pins s σ H x v vl vu lo hi sl Q I rx hs pl pu ⟨F, as, S, dx, st, r1, q⟩
  have new : ∀ {a : Addr} {vs : List V} {ds : List D}, SqL Y.K H a vs → Rps Y as F ds vs → x = .ref a → After Y E (Rp Y) as F H (.ok (.lst (cut ds lo hi)) S) Q → ∃ T id, typeLookup (.type T) "__getitem__" = pure (some (.builtin id)) ∧ s.TypeIs v T ∧ wpAny (model X.prog X.w) X.A (getItem v (.ref sl)) (EP X pins σ Q) X.xe s := fun {a vs ds} h r e q => by
    subst e
    rw [← hK] at h
    refine sl_list pins s σ H _ v vl vu lo hi sl Q I rx hs pl pu ⟨a, vs, rfl, h, fun p hp => ?_⟩
    have x := Xt.new (o := .lst (cutV vs lo hi)) st hp
    exact q as _ _ _ x (st.new hp) (.lst upd_same ((r.cut lo hi).mo x.pre x.ex))
  cases r1 <;> first | exact q.elim | skip
  case tup a vs ds h r =>
    have h' : SqT X.K H a vs := by rw [hK]; exact seqT_up st h
    refine sl_tupA pins s σ H _ v vl vu lo hi sl Q I rx hs pl pu ⟨a, vs, rfl, h', fun e => ?_, fun e p hp => ?_⟩
    · rw [← r.length] at e
      have q : After Y E (Rp Y) as F H (.ok (.tup (cut ds lo hi)) S) Q := q
      rw [cut_whole e] at q
      exact q.now st (.tup h r)
    · have x := Xt.new (o := .tup (cutV vs lo hi)) st hp
      exact q as _ _ _ x (st.new hp) (.tup (.inl (.inl upd_same)) ((r.cut lo hi).mo x.pre x.ex))
  case lst a vs ds h r => exact new (SqL.of (lst_up st h)) r rfl q
  case fro a vs ds h r => exact new (seqL_up st h) r rfl q
  case str z =>
    obtain ⟨hz, q⟩ := ite_stuck q
    exact sl_str pins s σ H _ v vl vu lo hi sl Q I rx hs pl pu ⟨z, rfl, few_line hz, q.now st (.str _)⟩
  case loc k a h =>
    have q : After Y E (Rp Y) as F H (match lstOf S[k]? with
      | some ds => Res.ok (D.lst (cut ds lo hi)) S
      | none => .stuck) Q := q
    cases e : lstOf S[k]? with
    | none => rw [e] at q; exact q.elim
    | some es =>
      rw [e] at q
      obtain ⟨vs, e2, r⟩ := st.ob _ _ _ h (lstOf_some e)
      exact new (SqL.of e2) r rfl q
/-- t[::-1] -/
def dBack : D → Sto → Res D := fun x S => match x with
  | .tup ds => .ok (.tup ds.reverse) S
  | _ => .stuck
def mU (f : D → Sto → Res D) (m : M) : M := fun ρ S => (m ρ S).bnd f
theorem Rps.rev {ds : List D} {vs : List V} (r : Rps Y as F ds vs) : Rps Y as F ds.reverse vs.reverse := by
  induction ds generalizing vs with
  | nil => cases r; exact .nil
  | cons d ds ih =>
    cases r with
    | cons h1 h2 =>
      rw [List.reverse_cons, List.reverse_cons]
      exact (ih h2).app (.cons h1 .nil)
theorem i_back {k : Nat} {p1 p3 p4 : Pos} (hK : X.K = Y.K) (he : PE X a (iE Y E m)) : PE X (.Subscript a (.Slice none none (some (.UnaryOp .USub (.Constant (.int 1) k p1) p3)) p4) pos) (iE Y E (mU dBack m)) := by
  refine ⟨fun pins s σ H Q I ⟨F, as, ρ, S, t, q⟩ => ?_⟩
  refine Subscript_ (thn (he.run pins s σ H _ I ⟨F, as, ρ, S, t, After.bnd q⟩) fun v s1 ⟨x, H1, I1, rx, d, S1, F1, as1, x1, st1, r1, q1⟩ => ?_)
  cases r1 <;> first | exact q1.elim | skip
  case tup b vs ds hb r =>
    have h' : SqT X.K H1 b vs := by rw [hK]; exact seqT_up st1 hb
    cases rx
    refine wpAny_Slice ?_
    rw [evalPart_none]
    refine wpAny_pure (wpAny_pure ?_)
    have hst : PO X (some (.UnaryOp .USub (.Constant (.int 1) k p1) p3)) (tPart (tUn (rU fun i => .int (-i)) (tC (.int 1)))) := po_some (pe_un un_neg pe_int)
    refine thn (hst.run pins s1 σ H1 (fun o H4 => o = some (-1) ∧ H4 = H1) I1 ⟨1, rfl, -1, rfl, rfl, rfl⟩) fun vs4 s4 ⟨o, H4, I4, ps, eo, e4⟩ => ?_
    subst eo e4
    cases ps with
    | int _ tk =>
      have I5 : L2.Inv X pins σ H4 { s4 with heap := s4.heap.push { cls := .type "slice", data := .fields #[.none, .none, .int (-1) tk] } } := I4.kept (t' := s4.toks) fun c ob z => Heap.get?_push_of_some _ z
      obtain ⟨its, rv, ht, hz⟩ := I5.tuple h'
      have hlen := rv.length
      refine tail_any (ops := [.ref b, .ref s4.heap.objs.size]) ht.typeIs (PyProof.Rows.slot_tuple_getitem.lookup) ?_ (by with_unfolding_all rfl)
      refine item_back ht (Heap.IsSliceOf.new ..) ?_ (by rw [List.size_toArray]; omega)
      refine ⟨.ref _, _, I5.laid (t' := s4.toks) (o := .tup vs.reverse) (fun c ob z => Heap.get?_push_of_some _ z) (Nat.le_refl _) ?_, rfl, ?_⟩
      · exact ⟨by rw [List.length_reverse]; exact hz, its.reverse, rv.reverse, ⟨_, Heap.get?_push_size _ rfl, rfl, _, rfl⟩⟩
      · have hp := I5.hok.fresh (Nat.le_refl _)
        have x := Xt.new (o := .tup vs.reverse) st1 hp
        exact q1 as1 _ _ _ x (st1.new hp) (.tup (.inl (.inl upd_same)) ((r.rev).mo x.pre x.ex))
end
end Rf

set_option Elab.async false
set_option linter.all false
set_option maxRecDepth 100000
/-! R6: built-in functions by data. -/
namespace Rf
open PySem L2 PyProof.Rows

/-- sys.modules is a dict of the base -/
def SysD (h : Heap) : Prop := ∃ mm, h.Ns sysModules mm
/-- a context that readings by data hold in -/
structure On (X : Cx) (Y : Yt) : Prop where
  K : X.K = Y.K
  w : X.w = Y.w
  hu : X.A.units + 200 < cLine
  hd : X.A.handled = none
  calm : X.calm = true
  gd : X.A.guards = some []
  sm : SysD X.base

/-! ### types -/
def tyOf (S : Sto) : D → Option String
  | .non => some "NoneType"
  | .bl _ => some "bool"
  | .int _ => some "int"
  | .str _ => some "str"
  | .tup _ => some "tuple"
  | .lst _ => some "list"
  | .dk _ => some "dict"
  | .loc k => match S[k]? with
    | some (.lst _) => some "list"
    | some (.dk _) => some "dict"
    | _ => none
  | _ => none
def kinds7 : List String := ["NoneType", "bool", "int", "str", "tuple", "list", "dict"]
def isa (a b : String) : Bool := a == b || (a == "bool" && b == "int")
theorem isa_ok : ∀ a ∈ kinds7, ∀ b ∈ kinds7, kitB a b = some (isa a b) := by decide +kernel
abbrev FA' := List D → Sto → Res D
def bIsi : FA := fun xs S => match xs with
  | [x, .ty n] => match tyOf S x with
    | some t => if n ∈ kinds7 then .ok (.bl (isa t n)) S else .stuck
    | none => .stuck
  | _ => .stuck
section
variable {X : Cx} {Y : Yt} {E : XK} {as : List Addr} {S : Sto} {H F : Hp}
theorem loc_cases {k : Nat} {r : Option String} (h : (match S[k]? with
    | some (.lst _) => some "list"
    | some (.dk _) => some "dict"
    | _ => none : Option String) = r) (hr : r ≠ none) : (∃ ds, S[k]? = some (.lst ds) ∧ r = some "list") ∨ ∃ kvs, S[k]? = some (.dk kvs) ∧ r = some "dict" := by
  cases e : S[k]? with
  | none => rw [e] at h; exact absurd h.symm hr
  | some d =>
    rw [e] at h
    cases d <;> first | exact absurd h.symm hr | exact .inl ⟨_, rfl, h.symm⟩ | exact .inr ⟨_, rfl, h.symm⟩
theorem ty_at (st : StR Y H F as S) {d : D} {v : V} {t : String} (r : Rp Y as F d v) (e : tyOf S d = some t) : TyX Y.K H v (.type t) ∧ t ∈ kinds7 := by
  cases r with
  | non => cases e; exact ⟨.base .non, by decide⟩
  | bl b => cases e; exact ⟨.base (.bl b), by decide⟩
  | int i => cases e; exact ⟨.base (.int i), by decide⟩
  | str x => cases e; exact ⟨.base (.str x), by decide⟩
  | @tup a vs ds h r =>
    cases e
    refine ⟨?_, by decide⟩
    rcases seqT_up st h with (h | ⟨o, h⟩) | ⟨o, its, n, hk, hc, _⟩
    · exact .base (.tup h)
    · exact .fTuple h
    · exact .kTuple hk hc
  | lst h r => cases e; exact ⟨.base (.lst (lst_up st h)), by decide⟩
  | dk h k z r => cases e; exact ⟨.base (.dK (lst_up st h)), by decide⟩
  | @loc k a h =>
    rcases loc_cases e (by simp) with ⟨ds, e1, e2⟩ | ⟨kvs, e1, e2⟩
    · cases e2
      obtain ⟨vs, e3, _⟩ := st.ob _ _ _ h e1
      exact ⟨.base (.lst e3), by decide⟩
    · cases e2
      obtain ⟨vs, e3, _⟩ := st.ob _ _ _ h e1
      exact ⟨.base (.dK e3), by decide⟩
  | _ => cases e
theorem args2 {xs : List D} {vs : List V} (r : Rps Y as F xs vs) : ∀ {x y : D}, xs = [x, y] → ∃ v w, vs = [v, w] ∧ Rp Y as F x v ∧ Rp Y as F y w := fun e => by
  subst e
  cases r with
  | cons h1 r => cases r with
    | cons h2 r => cases r; exact ⟨_, _, rfl, h1, h2⟩
theorem args1 {xs : List D} {vs : List V} (r : Rps Y as F xs vs) : ∀ {x : D}, xs = [x] → ∃ v, vs = [v] ∧ Rp Y as F x v := fun e => by
  subst e
  cases r with
  | cons h1 r => cases r; exact ⟨_, rfl, h1⟩
theorem c_isi (o : On X Y) : CallR X (.builtin "isinstance") (rDA Y E bIsi) := by
  rintro pins s σ H xs us Q I rv ⟨F, as, S, ds, st, r, q⟩
  unfold bIsi at q
  split at q
  · rename_i x n
    obtain ⟨v, w, rfl, h1, h2⟩ := args2 r rfl
    split at q
    · rename_i t ht
      obtain ⟨hn, q⟩ := ite_stuck q
      cases h2
      obtain ⟨g1, g2⟩ := ty_at st h1 ht
      rw [← o.K] at g1
      exact call_isi pins s σ H _ us Q I rv ⟨v, .ty n, .type t, .type n, isa t n, rfl, .ty n, g1, kit_ty (isa_ok t g2 n hn), q.now st (.bl _)⟩
    · exact q.elim
  · exact q.elim

/-! ### len -/
def lenOf (S : Sto) : D → Option Nat
  | .str z => if few z.length = true then some z.length else none
  | .dk kvs => some kvs.length
  | .loc k => match S[k]? with
    | some (.lst ds) => some ds.length
    | some (.dk kvs) => some kvs.length
    | _ => none
  | d => (seqOf S d).map List.length
def bLen : FA := fun xs S => match xs with
  | [x] => match lenOf S x with
    | some n => .ok (.int n) S
    | none => .stuck
  | _ => .stuck
theorem c_len (o : On X Y) : CallR X (.builtin "len") (rDA Y E bLen) := by
  rintro pins s σ H xs us Q I rv ⟨F, as, S, ds, st, r, q⟩
  unfold bLen at q
  split at q
  · rename_i x
    obtain ⟨v, rfl, h1⟩ := args1 r rfl
    split at q
    · rename_i n hn
      have q := q.now st (.int _)
      have seq : ∀ {es : List D}, seqOf S x = some es → n = es.length → wpAny (model X.prog X.w) X.A (call (.builtin "len") us) (EP X pins σ Q) X.xe s := fun {es} e en => by
        obtain ⟨a, vs, rfl, h, r⟩ := seq_at st h1 e
        rw [← o.K] at h
        rw [en, r.length] at q
        exact call_len_seq pins s σ H _ us Q I rv ⟨a, vs, rfl, h, q⟩
      cases h1 with
      | str z =>
        have hn : (if few z.length = true then some z.length else none) = some n := hn
        split at hn
        · rename_i hz
          cases hn
          exact call_len_str pins s σ H _ us Q I rv ⟨z, rfl, few_line hz, q⟩
        · cases hn
      | @dk a ws kvs vs h k z r =>
        cases hn
        have e : kvs.length = ws.length := by have := congrArg List.length k; simpa using this.symm
        rw [e] at q
        exact call_lenD pins s σ H _ us Q I rv ⟨a, ws, rfl, lst_up st h, q⟩
      | @loc k a h =>
        have hn : (match S[k]? with
          | some (.lst ds) => some ds.length
          | some (.dk kvs) => some kvs.length
          | _ => none : Option Nat) = some n := hn
        cases e : S[k]? with
        | none => rw [e] at hn; cases hn
        | some d =>
          rw [e] at hn
          cases d <;> first | (cases hn; done) | skip
          case lst es =>
            cases hn
            exact seq (es := es) (by show lstOf S[k]? = some es; rw [e]; rfl) rfl
          case dk kvs =>
            cases hn
            obtain ⟨ws, e1, e2, _⟩ := st.ob _ _ _ h e
            have e3 : kvs.length = ws.length := by have := congrArg List.length e2; simpa using this.symm
            rw [e3] at q
            exact call_lenD pins s σ H _ us Q I rv ⟨a, ws, rfl, e1, q⟩
      | tup h r => cases hn; exact seq rfl rfl
      | lst h r => cases hn; exact seq rfl rfl
      | fro h r => cases hn; exact seq rfl rfl
      | _ => cases hn
    · exact q.elim
  · exact q.elim

/-! ### all, any -/
def bools : List D → Option (List Bool)
  | [] => some []
  | .bl b :: ds => (bools ds).map (b :: ·)
  | _ :: _ => none
theorem bools_at : ∀ {ds : List D} {vs : List V} {bs : List Bool}, Rps Y as F ds vs → bools ds = some bs → vs = bs.map V.bl
  | [], _, _, .nil, e => by cases e; rfl
  | d :: ds, _, _, .cons h r, e => by
    cases h with
    | bl b =>
      obtain ⟨cs, e1, rfl⟩ := map_some (show (bools ds).map (b :: ·) = some _ from e)
      rw [bools_at r e1]
      rfl
    | _ => cases e
def bAllAny (f : List Bool → Bool) : FA := fun xs S => match xs with
  | [.lst ds] => match bools ds with
    | some bs => .ok (.bl (f bs)) S
    | none => .stuck
  | _ => .stuck
theorem aa_core (f : List Bool → Bool) {ds : List D} {vs : List V} {Q : VK} (st : StR Y H F as S) (r : Rps Y as F ds vs) (q : After Y E (Rp Y) as F H (bAllAny f ds S) Q) : ∃ a bs, vs = [V.ref a] ∧ SqL Y.K H a (bs.map V.bl) ∧ Q (.bl (f bs)) H := by
  unfold bAllAny at q
  split at q
  · rename_i es
    obtain ⟨v, rfl, h1⟩ := args1 r rfl
    split at q
    · rename_i bs hb
      cases h1 with
      | lst h r2 =>
        refine ⟨_, bs, rfl, ?_, q.now st (.bl _)⟩
        rw [← bools_at r2 hb]
        exact SqL.of (lst_up st h)
    · exact q.elim
  · exact q.elim
theorem c_all (o : On X Y) : CallR X (.builtin "all") (rDA Y E (bAllAny fun bs => bs.all id)) := by
  rintro pins s σ H xs us Q I rv ⟨F, as, S, ds, st, r, q⟩
  obtain ⟨a, bs, e, h, q⟩ := aa_core _ st r q
  rw [← o.K] at h
  exact cr_all o.calm pins s σ H _ us Q I rv ⟨a, bs, e, h, q⟩
theorem c_any (o : On X Y) : CallR X (.builtin "any") (rDA Y E (bAllAny fun bs => bs.any id)) := by
  rintro pins s σ H xs us Q I rv ⟨F, as, S, ds, st, r, q⟩
  obtain ⟨a, bs, e, h, q⟩ := aa_core _ st r q
  rw [← o.K] at h
  exact cr_any o.calm pins s σ H _ us Q I rv ⟨a, bs, e, h, q⟩

/-! ### list, tuple -/
def bList : FA := fun xs S => match xs with
  | [x] => match seqOf S x with
    | some ds => .ok (.lst ds) S
    | none => .stuck
  | _ => .stuck
theorem c_list (o : On X Y) : CallR X (.type "list") (rDA Y E bList) := by
  rintro pins s σ H xs us Q I rv ⟨F, as, S, ds, st, r, q⟩
  unfold bList at q
  split at q
  · rename_i x
    obtain ⟨v, rfl, h1⟩ := args1 r rfl
    split at q
    · rename_i es hs
      obtain ⟨a, vs, rfl, h, r2⟩ := seq_at st h1 hs
      rw [← o.K] at h
      refine call_list_of pins s σ H _ us Q I rv ⟨a, vs, rfl, h, fun p hp => ?_⟩
      have x := Xt.new (o := .lst vs) st hp
      exact q as _ _ _ x (st.new hp) (.lst upd_same (r2.mo x.pre x.ex))
    · exact q.elim
  · exact q.elim
/-- a list that may be changed -/
def bListC : FA := fun xs S => match xs with
  | [x] => match seqOf S x with
    | some ds => .ok (.loc S.length) (S ++ [.lst ds])
    | none => .stuck
  | _ => .stuck
theorem c_listC (o : On X Y) : CallR X (.type "list") (rDA Y E bListC) := by
  rintro pins s σ H xs us Q I rv ⟨F, as, S, ds, st, r, q⟩
  unfold bListC at q
  split at q
  · rename_i x
    obtain ⟨v, rfl, h1⟩ := args1 r rfl
    split at q
    · rename_i es hs
      obtain ⟨a, vs, rfl, h, r2⟩ := seq_at st h1 hs
      rw [← o.K] at h
      refine call_list_of pins s σ H _ us Q I rv ⟨a, vs, rfl, h, fun p hp => ?_⟩
      have x := Xt.cell (o := .lst vs) st hp
      have e : (as ++ [p])[S.length]? = some p := by rw [← st.len]; simp
      exact q (as ++ [p]) _ _ _ x (st.cell hp ⟨vs, upd_same, r2.mo x.pre (fun _ _ z => z)⟩) (.loc e)
    · exact q.elim
  · exact q.elim
def bTuple : FA := fun xs S => match xs with
  | [x] => match seqOf S x with
    | some ds => .ok (.tup ds) S
    | none => .stuck
  | _ => .stuck
theorem c_tuple (o : On X Y) : CallR X (.type "tuple") (rDA Y E bTuple) := by
  rintro pins s σ H xs us Q I rv ⟨F, as, S, ds, st, r, q⟩
  unfold bTuple at q
  split at q
  · rename_i x
    obtain ⟨v, rfl, h1⟩ := args1 r rfl
    split at q
    · rename_i es hs
      have other : (∃ a vs, v = .ref a ∧ SqL Y.K H a vs ∧ Rps Y as F es vs) → wpAny (model X.prog X.w) X.A (call (.type "tuple") us) (EP X pins σ Q) X.xe s := by
        rintro ⟨a, vs, rfl, h, r2⟩
        rw [← o.K] at h
        refine call_tuple_of pins s σ H _ us Q I rv ⟨a, vs, rfl, .inl ⟨h, fun p hp => ?_⟩⟩
        have x := Xt.new (o := .tup vs) st hp
        exact q as _ _ _ x (st.new hp) (.tup (.inl (.inl upd_same)) (r2.mo x.pre x.ex))
      cases h1 with
      | @tup a vs ds h r2 =>
        cases hs
        have h' := seqT_up st h
        rw [← o.K] at h'
        exact call_tuple_of pins s σ H _ us Q I rv ⟨a, vs, rfl, .inr ⟨h', q.now st (.tup h r2)⟩⟩
      | lst h r2 => cases hs; exact other ⟨_, _, rfl, SqL.of (lst_up st h), r2⟩
      | fro h r2 => cases hs; exact other ⟨_, _, rfl, seqL_up st h, r2⟩
      | loc h =>
        obtain ⟨vs, e2, r2⟩ := st.ob _ _ _ h (lstOf_some (show lstOf S[_]? = some es from hs))
        exact other ⟨_, _, rfl, SqL.of e2, r2⟩
      | _ => cases hs
    · exact q.elim
  · exact q.elim

/-! ### numbers -/
def bInt : FA := fun xs S => match xs with
  | [.int i] => .ok (.int i) S
  | [.bl b] => .ok (.int (if b then 1 else 0)) S
  | _ => .stuck
theorem c_int : CallR X (.type "int") (rDA Y E bInt) := by
  rintro pins s σ H xs us Q I rv ⟨F, as, S, ds, st, r, q⟩
  unfold bInt at q
  split at q
  · obtain ⟨v, rfl, h1⟩ := args1 r rfl
    cases h1
    exact call_int1 pins s σ H _ us Q I rv (.inl ⟨_, rfl, q.now st (.int _)⟩)
  · obtain ⟨v, rfl, h1⟩ := args1 r rfl
    cases h1
    exact call_int1 pins s σ H _ us Q I rv (.inr ⟨_, rfl, q.now st (.int _)⟩)
  · exact q.elim
def bAbs : FA := fun xs S => match xs with
  | [.int i] => .ok (.int (if i < 0 then -i else i)) S
  | _ => .stuck
theorem c_abs : CallR X (.builtin "abs") (rDA Y E bAbs) := by
  rintro pins s σ H xs us Q I rv ⟨F, as, S, ds, st, r, q⟩
  unfold bAbs at q
  split at q
  · obtain ⟨v, rfl, h1⟩ := args1 r rfl
    cases h1
    exact call_abs pins s σ H _ us Q I rv ⟨_, rfl, q.now st (.int _)⟩
  · exact q.elim
def bMax2 : FA := fun xs S => match xs with
  | [.int i, .int j] => .ok (.int (if j > i then j else i)) S
  | _ => .stuck
theorem c_max2 (o : On X Y) : CallR X (.builtin "max") (rDA Y E bMax2) := by
  rintro pins s σ H xs us Q I rv ⟨F, as, S, ds, st, r, q⟩
  unfold bMax2 at q
  split at q
  · obtain ⟨v, w, rfl, h1, h2⟩ := args2 r rfl
    cases h1
    cases h2
    exact call_max2 o.calm pins s σ H _ us Q I rv ⟨_, _, rfl, q.now st (.int _)⟩
  · exact q.elim
def bMin2 : FA := fun xs S => match xs with
  | [.int i, .int j] => .ok (.int (if j < i then j else i)) S
  | _ => .stuck
theorem c_min2 (o : On X Y) : CallR X (.builtin "min") (rDA Y E bMin2) := by
  rintro pins s σ H xs us Q I rv ⟨F, as, S, ds, st, r, q⟩
  unfold bMin2 at q
  split at q
  · obtain ⟨v, w, rfl, h1, h2⟩ := args2 r rfl
    cases h1
    cases h2
    exact call_min2 o.calm pins s σ H _ us Q I rv ⟨_, _, rfl, q.now st (.int _)⟩
  · exact q.elim
end
end Rf

set_option Elab.async false
set_option linter.all false
set_option maxRecDepth 100000
/-! R7: what is walked, for, list comprehensions by data. -/
namespace Rf
open PySem L2 PyProof.Rows

/-! ### what is walked -/
/-- the items, and what of the store must stay -/
structure Src where
  items : List D
  ok : Sto → Bool
abbrev MI := Rho → Sto → Res Src
def free : Sto → Bool := fun _ => true
def held (k : Nat) (ds : List D) (n : Nat) : Sto → Bool := fun S => match S[k]? with
  | some (.lst es) => es.length == n
  | _ => false
/-- an iterator J gives the items, one behind the other -/
def IW (Y : Yt) (as : List Addr) (F H : Hp) (c : Src) (J : It) : Prop := ∃ G Yr, Walk J c.items.length G Yr ∧
  (∀ as' F' H' S', Xt H F as H' F' as' → StR Y H' F' as' S' → c.ok S' = true → G H') ∧
  ∀ i d as' F' H' S' x H2, c.items[i]? = some d → Xt H F as H' F' as' → StR Y H' F' as' S' → Yr i H' x H2 → ∃ F2, Xt H' F' as' H2 F2 as' ∧ StR Y H2 F2 as' S' ∧ Rp Y as' F2 d x
def AfterI (Y : Yt) (E : XK) (as : List Addr) (F H : Hp) (r : Res Src) (R : It → Hp → Prop) : Prop := match r with
  | .stuck => False
  | .ok c S' => ∀ as' F' H' J, Xt H F as H' F' as' → StR Y H' F' as' S' → IW Y as' F' H' c J → R J H'
  | .err x S' => ∀ as' F' H' cls dx, Xt H F as H' F' as' → StR Y H' F' as' S' → ExR Y as' F' x cls dx H' → E cls dx H'
def iI (Y : Yt) (E : XK) (m : MI) : TI := fun σ H R => ∃ F as ρ S, At Y σ H F as ρ S ∧ AfterI Y E as F H (m ρ S) R
section
variable {Y : Yt} {E : XK} {as : List Addr} {F H : Hp}
theorem AfterI.weak {r : Res Src} {R : It → Hp → Prop} {as1 : List Addr} {F1 H1 : Hp} (x : Xt H F as H1 F1 as1) (h : AfterI Y E as F H r R) : AfterI Y E as1 F1 H1 r R := by
  cases r with
  | stuck => exact h
  | ok d S' => exact fun as' F' H' v x' s q => h as' F' H' v (x.trans x') s q
  | err y S' => exact fun as' F' H' c d x' s q => h as' F' H' c d (x.trans x') s q
theorem AfterI.bnd {α β : Type} {rl : Rl α β} {r : Res α} {k : α → Sto → Res Src} {R : It → Hp → Prop} (h : AfterI Y E as F H (r.bnd k) R) :
    After Y E rl as F H r fun v H1 => ∃ d S1 F1 as1, Xt H F as H1 F1 as1 ∧ StR Y H1 F1 as1 S1 ∧ rl as1 F1 d v ∧ AfterI Y E as1 F1 H1 (k d S1) R := by
  cases r with
  | stuck => exact h
  | ok d S' => exact fun as' F' H' v x s q => ⟨d, S', F', as', x, s, q, AfterI.weak x h⟩
  | err x S' => exact h
theorem seqT_on {K : PySem.W.Frag} {a : Addr} {vs : List V} (h : SqT Y.K F a vs) {as' : List Addr} {F' H' : Hp} {S' : Sto} (x : Xt H F as H' F' as') (s : StR Y H' F' as' S') : SqT Y.K H' a vs := seqT_up s (sqt_ex x.ex h)
/-- items that stand as they stood -/
theorem iw_at {J : It} {vs : List V} {ds : List D} {G : Hp → Prop} {ok : Sto → Bool} (w : Walk J vs.length G (YAt vs)) (r : Rps Y as F ds vs)
    (g : ∀ as' F' H' S', Xt H F as H' F' as' → StR Y H' F' as' S' → ok S' = true → G H') : IW Y as F H ⟨ds, ok⟩ J := by
  refine ⟨G, YAt vs, by show Walk J ds.length _ _; rw [r.length]; exact w, g, fun i d as' F' H' S' x H2 e xt st y => ?_⟩
  obtain ⟨rfl, e2⟩ := y
  obtain ⟨v, e3, rv⟩ := (r.mo xt.pre xt.ex).get (i := i) (d := d) e
  rw [e2] at e3
  cases e3
  exact ⟨F', Xt.refl _ _ _, st, rv⟩
theorem iw_tup {a : Addr} {vs : List V} {ds : List D} (h : SqT Y.K F a vs) (r : Rps Y as F ds vs) : IW Y as F H ⟨ds, free⟩ (Itt Y.K a) :=
  iw_at walk_tup r fun as' F' H' S' x s _ => seqT_up s (sqt_ex x.ex h)
theorem iw_fro {a : Addr} {vs : List V} {ds : List D} (h : SqL Y.K F a vs) (r : Rps Y as F ds vs) : IW Y as F H ⟨ds, free⟩ (Itl Y.K a) :=
  iw_at walk_list r fun as' F' H' S' x s _ => seqL_up s (sql_ex x.ex h)
theorem iw_range {lo : Int} {n : Nat} : IW Y as F H ⟨(List.range n).map fun (i : Nat) => D.int (lo + (i : Int)), free⟩ (Itr lo n) := by
  refine ⟨_, _, by simpa using walk_range, fun _ _ _ _ _ _ _ => True.intro, fun i d as' F' H' S' x H2 e xt st y => ?_⟩
  obtain ⟨rfl, rfl⟩ := y
  have e : ((List.range n).map fun (i : Nat) => D.int (lo + (i : Int)))[i]? = some d := e
  rw [List.getElem?_map] at e
  obtain ⟨j, e1, rfl⟩ := map_some e
  obtain ⟨_, e2⟩ := List.getElem?_eq_some_iff.mp e1
  rw [List.getElem_range] at e2
  subst e2
  exact ⟨F', Xt.refl _ _ _, st, .int _⟩
theorem iw_str {z : Str} : IW Y as F H ⟨z.cps.toList.map fun c => D.str ⟨#[c]⟩, free⟩ (Its z) := by
  refine ⟨_, _, by simpa using walk_str, fun _ _ _ _ _ _ _ => True.intro, fun i d as' F' H' S' x H2 e xt st y => ?_⟩
  obtain ⟨rfl, c, e1, rfl⟩ := y
  have e : (z.cps.toList.map fun c => D.str ⟨#[c]⟩)[i]? = some d := e
  rw [List.getElem?_map] at e
  obtain ⟨c', e2, rfl⟩ := map_some e
  rw [Array.getElem?_toList, e1] at e2
  cases e2
  exact ⟨F', Xt.refl _ _ _, st, .str _⟩
end
/-- the items of a value; a list that may be changed must keep its length and its items -/
def srcOf (d : D) (S : Sto) : Res Src := match d with
  | .str z => .ok ⟨z.cps.toList.map fun c => .str ⟨#[c]⟩, free⟩ S
  | .tup ds => .ok ⟨ds, free⟩ S
  | .lst ds => .ok ⟨ds, free⟩ S
  | .fro ds => .ok ⟨ds, free⟩ S
  | _ => .stuck
def mVal (m : M) : MI := fun ρ S => (m ρ S).bnd srcOf
def mRange1 (mr : Rho → Sto → Res (List D)) : MI := fun ρ S => (mr ρ S).bnd fun ds S1 => match ds with
  | [.int j] => if -(2 ^ 62) ≤ j ∧ j < 2 ^ 62 then .ok ⟨(List.range j.toNat).map fun (i : Nat) => .int (0 + (i : Int)), free⟩ S1 else .stuck
  | _ => .stuck
def mRange2 (mr : Rho → Sto → Res (List D)) : MI := fun ρ S => (mr ρ S).bnd fun ds S1 => match ds with
  | [.int i, .int j] => if -(2 ^ 62) ≤ i ∧ i < 2 ^ 62 ∧ -(2 ^ 62) ≤ j ∧ j < 2 ^ 62 then .ok ⟨(List.range (j - i).toNat).map fun (k : Nat) => .int (i + (k : Int)), free⟩ S1 else .stuck
  | _ => .stuck
section
variable {X : Cx} {Y : Yt} {E : XK} {tg e : Expr} {m : M} {es : List Expr} {mr : Rho → Sto → Res (List D)} {p pos : Pos}
theorem PI_imp {X : Cx} {tg e : Expr} {t t' : TI} (h : PI X tg e t) (k : ∀ σ H Q, t' σ H Q → t σ H Q) : PI X tg e t' := ⟨fun pins s σ H Q I q => h.run pins s σ H Q I (k σ H Q q)⟩
theorem PI_at {X : Cx} {tg e : Expr} {t' : TI} (h : ∀ σ H R, t' σ H R → ∃ t, PI X tg e t ∧ t σ H R) : PI X tg e t' := ⟨fun pins s σ H R I q => by
  obtain ⟨t, h1, h2⟩ := h σ H R q
  exact h1.run pins s σ H R I h2⟩
theorem ii_val (hK : X.K = Y.K) (he : PE X e (iE Y E m)) : PI X tg e (iI Y E (mVal m)) := PI_at fun σ H R ⟨F, as, ρ, S, t, q⟩ => by
  have key : ∀ {t : TI}, PI X tg e t → t σ H R → ∃ t, PI X tg e t ∧ t σ H R := fun h1 h2 => ⟨_, h1, h2⟩
  cases hm : m ρ S with
  | stuck => unfold mVal at q; rw [hm] at q; exact q.elim
  | err x S1 =>
    unfold mVal at q
    rw [hm] at q
    refine key (pi_list he) ⟨F, as, ρ, S, t, ?_⟩
    rw [hm]
    exact q
  | ok d S1 =>
    unfold mVal at q
    rw [hm] at q
    have q : AfterI Y E as F H (srcOf d S1) R := q
    have hs : ∀ {z : Str}, d = .str z → ∃ t, PI X tg e t ∧ t σ H R := fun {z} ed => by
      subst ed
      refine key (pi_str he) ⟨F, as, ρ, S, t, ?_⟩
      rw [hm]
      intro as' F' H' v x s r
      cases r
      exact ⟨z, rfl, q as' F' H' _ x s iw_str⟩
    have ht : ∀ {ds : List D}, d = .tup ds → ∃ t, PI X tg e t ∧ t σ H R := fun {ds} ed => by
      subst ed
      refine key (pi_tup he) ⟨F, as, ρ, S, t, ?_⟩
      rw [hm]
      intro as' F' H' v x s r
      cases r with
      | @tup a vs ds h r =>
        rw [hK]
        exact ⟨a, rfl, ⟨vs, seqT_up s h⟩, q as' F' H' _ x s (iw_tup h r)⟩
    have hl : ∀ {ds : List D}, d = .lst ds → ∃ t, PI X tg e t ∧ t σ H R := fun {ds} ed => by
      subst ed
      refine key (pi_list he) ⟨F, as, ρ, S, t, ?_⟩
      rw [hm]
      intro as' F' H' v x s r
      cases r with
      | @lst a vs ds h r =>
        rw [hK]
        exact ⟨a, rfl, ⟨vs, SqL.of (lst_up s h)⟩, q as' F' H' _ x s (iw_fro (SqL.of h) r)⟩
    have hf : ∀ {ds : List D}, d = .fro ds → ∃ t, PI X tg e t ∧ t σ H R := fun {ds} ed => by
      subst ed
      refine key (pi_list he) ⟨F, as, ρ, S, t, ?_⟩
      rw [hm]
      intro as' F' H' v x s r
      cases r with
      | @fro a vs ds h r =>
        rw [hK]
        exact ⟨a, rfl, ⟨vs, seqL_up s h⟩, q as' F' H' _ x s (iw_fro h r)⟩
    cases d with
    | str z => exact hs rfl
    | tup ds => exact ht rfl
    | lst ds => exact hl rfl
    | fro ds => exact hf rfl
    | _ => exact q.elim
theorem ii_range1 {a : Expr} (hg : Gl X "range") (hm : X.mg "range" = none) (ha : PA X [a] (iA Y E mr)) (hs : starEach [a] X.env = [(false, eval a X.env)] := by rfl) : PI X tg (.Call (.Name "range" p) [a] [] pos) (iI Y E (mRange1 mr)) :=
  PI_imp (pi_range1 hg hm ha hs) fun σ H R ⟨F, as, ρ, S, t, q⟩ => ⟨F, as, ρ, S, t, (AfterI.bnd q).imp fun vs H1 ⟨ds, S1, F1, as1, x1, s1, r1, q1⟩ => by
    cases r1 with
    | nil => exact q1.elim
    | cons h r2 => cases r2 with
      | cons _ _ => cases h <;> exact q1.elim
      | nil => cases h with
        | int j =>
          have q1 : AfterI Y E as1 F1 H1 (if -(2 ^ 62) ≤ j ∧ j < 2 ^ 62 then .ok ⟨(List.range j.toNat).map fun (i : Nat) => .int (0 + (i : Int)), free⟩ S1 else .stuck) R := q1
          split at q1
          · rename_i hb
            exact ⟨j, rfl, hb.1, hb.2, q1 as1 F1 H1 _ (Xt.refl _ _ _) s1 iw_range⟩
          · exact q1.elim
        | _ => exact q1.elim⟩
theorem ii_range2 {a b : Expr} (hg : Gl X "range") (hm : X.mg "range" = none) (ha : PA X [a, b] (iA Y E mr)) (hs : starEach [a, b] X.env = [(false, eval a X.env), (false, eval b X.env)] := by rfl) (hs2 : starEach [b] X.env = [(false, eval b X.env)] := by rfl) : PI X tg (.Call (.Name "range" p) [a, b] [] pos) (iI Y E (mRange2 mr)) :=
  PI_imp (pi_range2 hg hm ha hs hs2) fun σ H R ⟨F, as, ρ, S, t, q⟩ => ⟨F, as, ρ, S, t, (AfterI.bnd q).imp fun vs H1 ⟨ds, S1, F1, as1, x1, s1, r1, q1⟩ => by
    cases r1 with
    | nil => exact q1.elim
    | cons h r2 => cases r2 with
      | nil => cases h <;> exact q1.elim
      | cons h2 r3 => cases r3 with
        | cons _ _ => cases h <;> cases h2 <;> exact q1.elim
        | nil => cases h with
          | int i => cases h2 with
            | int j =>
              have q1 : AfterI Y E as1 F1 H1 (if -(2 ^ 62) ≤ i ∧ i < 2 ^ 62 ∧ -(2 ^ 62) ≤ j ∧ j < 2 ^ 62 then .ok ⟨(List.range (j - i).toNat).map fun (k : Nat) => .int (i + (k : Int)), free⟩ S1 else .stuck) R := q1
              split at q1
              · rename_i hb
                exact ⟨i, j, rfl, hb, q1 as1 F1 H1 _ (Xt.refl _ _ _) s1 iw_range⟩
              · exact q1.elim
            | _ => exact q1.elim
          | _ => cases h2 <;> exact q1.elim⟩
end

/-! ### for -/
def turnL (k : MS) : Out → Out
  | .nx ρ S => k ρ S
  | .ct ρ S => k ρ S
  | .bk ρ S => .nx ρ S
  | o => o
def stepL (k b : MS) : Option (Rho × Sto) → Out
  | some p => turnL k (b p.1 p.2)
  | none => .stuck
def forL (ok : Sto → Bool) (g : MG) (b : MS) : List D → MS
  | [], ρ, S => if ok S = true then .nx ρ S else .stuck
  | d :: ds, ρ, S => if ok S = true then stepL (forL ok g b ds) b (g d ρ S) else .stuck
def outI (r : Res Src) (k : Src → Sto → Out) : Out := match r with
  | .stuck => .stuck
  | .ok c S => k c S
  | .err x S => .err x S
def sFor (mi : MI) (g : MG) (b : MS) : MS := fun ρ S => outI (mi ρ S) fun c S1 => forL c.ok g b c.items ρ S1
section
variable {X : Cx} {Y : Yt} {E : XK} {tg iter : Expr} {body : List Stmt} {mi : MI} {g : MG} {b : MS} {pos : Pos} {vs : List Nat}
theorem is_for (hp : PassesOwn (model X.prog X.w) X.A X.env X.xe) (o : On X Y) (hi : PI X tg iter (iI Y E mi)) (hg : PG X tg (iG Y vs g)) (hb : PSs X body (iS Y E b)) (hs : ∀ x, foldedSetIterable iter X.env x = pure x := by intro _; rfl) :
    PS X (.For tg iter body [] pos) (iS Y E (sFor mi g b)) := PS_imp (ps_for hp o.calm hi hg hb hs) fun Dn σ H ⟨F, as, ρ, S, t, q⟩ => by
  refine ⟨F, as, ρ, S, t, ?_⟩
  unfold sFor at q
  cases hm : mi ρ S with
  | stuck => rw [hm] at q; exact q.elim
  | err x S1 => rw [hm] at q; exact q
  | ok c S1 =>
    rw [hm] at q
    have q : AfterS Y E as F H (forL c.ok g b c.items ρ S1) Dn := q
    intro as1 F1 H1 J x1 s1 ⟨G, Yr, w, hG, hY⟩
    refine for_it w (fun i σ' H' => ∃ F' as' ρ' S', At Y σ' H' F' as' ρ' S' ∧ Xt H1 F1 as1 H' F' as' ∧ AfterS Y E as' F' H' (forL c.ok g b (c.items.drop i) ρ' S') Dn) ?_ ?_ ?_ ?_
    · exact ⟨F1, as1, ρ, S1, t.mo x1 s1, Xt.refl _ _ _, by rw [List.drop_zero]; exact AfterS.weak x1 q⟩
    · rintro i σ' H' hi ⟨F', as', ρ', S', t', x', q'⟩
      refine hG as' F' H' S' x' t'.st ?_
      cases hd : c.items.drop i with
      | nil =>
        rw [hd] at q'
        unfold forL at q'
        split at q'
        · assumption
        · exact q'.elim
      | cons d ds =>
        rw [hd] at q'
        unfold forL at q'
        split at q'
        · assumption
        · exact q'.elim
    · rintro i x σ' H' H2 hi ⟨F', as', ρ', S', t', x', q'⟩ y
      have hd : c.items.drop i = c.items[i] :: c.items.drop (i + 1) := (List.drop_eq_getElem_cons hi)
      rw [hd] at q'
      unfold forL at q'
      split at q' <;> first | exact q'.elim | skip
      rename_i hok
      cases hgd : g c.items[i] ρ' S' with
      | none => rw [hgd] at q'; exact q'.elim
      | some z =>
        obtain ⟨ρ1, S2⟩ := z
        rw [hgd] at q'
        have q' : AfterS Y E as' F' H' (turnL (forL c.ok g b (c.items.drop (i + 1))) (b ρ1 S2)) Dn := q'
        obtain ⟨F2, x2, s2, r2⟩ := hY i c.items[i] as' F' H' S' x H2 (List.getElem?_eq_getElem hi) x' t'.st y
        refine ⟨F2, as', ρ', S', c.items[i], ρ1, S2, t'.mo x2 s2, r2, hgd, fun as3 F3 H3 σ3 x3 s3 f3 _ => ?_⟩
        refine ⟨F3, as3, ρ1, S2, ⟨s3, f3⟩, ?_⟩
        have q3 := AfterS.weak (x2.trans x3) q'
        cases hbb : b ρ1 S2 with
        | stuck => rw [hbb] at q3; exact q3.elim
        | nx ρ2 S4 =>
          rw [hbb] at q3
          exact fun as4 F4 H4 σ4 x4 s4 f4 => ⟨F4, as4, ρ2, S4, ⟨s4, f4⟩, x'.trans ((x2.trans x3).trans x4), AfterS.weak x4 q3⟩
        | ct ρ2 S4 =>
          rw [hbb] at q3
          exact fun as4 F4 H4 σ4 x4 s4 f4 => ⟨F4, as4, ρ2, S4, ⟨s4, f4⟩, x'.trans ((x2.trans x3).trans x4), AfterS.weak x4 q3⟩
        | bk ρ2 S4 => rw [hbb] at q3; exact q3
        | rt d S4 => rw [hbb] at q3; exact q3
        | err x S4 => rw [hbb] at q3; exact q3
    · rintro σ' H' ⟨F', as', ρ', S', t', x', q'⟩
      rw [List.drop_length] at q'
      unfold forL at q'
      split at q' <;> first | exact q'.elim | skip
      exact q' as' F' H' σ' (Xt.refl _ _ _) t'.st t'.fr
end
end Rf

set_option Elab.async false
set_option linter.all false
set_option maxRecDepth 100000
/-! R8: list comprehensions by data (nothing is raised within). -/
namespace Rf
open PySem L2 PyProof.Rows

def wipeR (ρ : Rho) : List Nat → Rho
  | [] => ρ
  | v :: vs => (wipeR ρ vs).set v none
def Res.thn {α β : Type} (r : Res α) (k : α → Sto → Res β) : Res β := match r with
  | .ok a S => k a S
  | _ => .stuck
def optR {α : Type} (o : Option (Rho × Sto)) (k : Rho → Sto → Res α) : Res α := match o with
  | some p => k p.1 p.2
  | none => .stuck
def lcL (ok : Sto → Bool) (g : MG) (mt : MT) (me : M) (ρ0 : Rho) : List D → List D → Sto → Res (List D)
  | [], acc, S => if ok S = true then .ok acc S else .stuck
  | d :: ds, acc, S => if ok S = true ∧ acc.length < 1000000 then optR (g d ρ0 S) fun ρ1 S1 => (mt ρ1 S1).thn fun b S2 => if b = true then (me ρ1 S2).thn fun y S3 => lcL ok g mt me ρ0 ds (acc ++ [y]) S3 else lcL ok g mt me ρ0 ds acc S2 else .stuck
def bndI {α : Type} (r : Res Src) (k : Src → Sto → Res α) : Res α := match r with
  | .stuck => .stuck
  | .ok c S => k c S
  | .err x S => .err x S
def mLc (mi : MI) (g : MG) (mt : MT) (me : M) (vs : List Nat) : M := fun ρ S => bndI (mi ρ S) fun c S1 => (lcL c.ok g mt me (wipeR ρ vs) c.items [] S1).thn fun ds S2 => .ok (.lst ds) S2
def mLcC (mi : MI) (g : MG) (mt : MT) (me : M) (vs : List Nat) : M := fun ρ S => bndI (mi ρ S) fun c S1 => (lcL c.ok g mt me (wipeR ρ vs) c.items [] S1).thn fun ds S2 => .ok (.loc S2.length) (S2 ++ [.lst ds])
def mYes : MT := fun _ S => .ok true S
section
variable {Y : Yt} {as : List Addr} {F H : Hp}
theorem FrR.wipe {ρ : Rho} {σ : L2.St} (f : FrR Y as F ρ σ) : ∀ vs : List Nat, FrR Y as F (wipeR ρ vs) (L2.wipe σ vs)
  | [] => f
  | v :: vs => by
    have g := FrR.wipe f vs
    refine ⟨by simp [wipeR, L2.wipe, g.len], fun i d h => ?_⟩
    by_cases hi : v = i
    · subst hi
      rw [wipeR, List.getElem?_set_self'] at h
      cases e : (wipeR ρ vs)[v]? with
      | none => rw [e] at h; simp at h
      | some q => rw [e] at h; simp at h
    · rw [wipeR, List.getElem?_set_ne hi] at h
      rw [L2.wipe, List.getElem?_set_ne hi]
      exact g.at_ i d h
theorem wipe_get {σ : L2.St} {j : Nat} : ∀ {vs : List Nat}, j ∉ vs → (L2.wipe σ vs)[j]? = σ[j]?
  | [], _ => rfl
  | v :: vs, h => by
    rw [L2.wipe, List.getElem?_set_ne (fun e => h (by rw [e]; exact List.mem_cons_self ..))]
    exact wipe_get fun z => h (List.mem_cons_of_mem _ z)
theorem wipe_in {σ : L2.St} {j : Nat} : ∀ {vs : List Nat}, j ∈ vs → (L2.wipe σ vs)[j]? = if j < σ.length then some none else none
  | v :: vs, h => by
    by_cases e : v = j
    · subst e
      rw [L2.wipe, List.getElem?_set]
      simp [L2.wipe_length]
    · rw [L2.wipe, List.getElem?_set_ne e]
      exact wipe_in ((List.mem_cons.mp h).resolve_left fun z => e z.symm)
theorem wipe_but {vs : List Nat} {σ σ' : L2.St} (b : But vs (L2.wipe σ vs) σ') : L2.wipe σ' vs = L2.wipe σ vs := by
  have hl : σ'.length = σ.length := by have := b.1; rwa [L2.wipe_length] at this
  apply List.ext_getElem?
  intro j
  by_cases h : j ∈ vs
  · rw [wipe_in h, wipe_in h, hl]
  · rw [wipe_get h, b.2 j h]
/-- what stands aside is changed -/
theorem Xt.aside {p : Addr} {o : HO} {H0 F0 : Hp} {as0 : List Addr} (x : Xt H0 F0 as0 H F as) (h0 : H0 p = none) : Xt H0 F0 as0 (upd H p o) F as := ⟨x.pre, x.ex, fun a u h1 h2 => ⟨(x.st a u h1 h2).1, by
  rw [upd_ne (ne_of_none h2 h0)]
  exact (x.st a u h1 h2).2⟩, x.gr⟩
/-- aside it stays -/
theorem Xt.off {p : Addr} {o : HO} {H' F' : Hp} {as' : List Addr} (x : Xt H F as H' F' as') (h : H p = some o) (ha : p ∉ as) (hF : F p = none) : H' p = some o ∧ p ∉ as' ∧ F' p = none := by
  obtain ⟨h1, h2⟩ := x.st p o ha h
  refine ⟨h2, h1, ?_⟩
  cases e : F' p with
  | none => rfl
  | some u =>
    rcases x.gr p u e with z | z | z
    · rw [hF] at z; cases z
    · rw [h] at z; cases z
    · exact absurd z ha
end
section
variable {X : Cx} {Y : Yt} {E : XK} {elt tg iter : Expr} {ifs : List Expr} {scope : Scope} {own : List (Str × Nat)} {pos : Pos} {mi : MI} {g : MG} {mt : MT} {me : M}
theorem its_nil {X : Cx} : PTs X [] (iT Y E mYes) := ⟨fun pins s σ H Q I ⟨F, as, ρ, S, t, q⟩ => pts_nil.run pins s σ H Q I (q.now t.st rfl)⟩
theorem its_one {X : Cx} {c : Expr} {t : MT} (h : PT X c (iT Y E t)) : PTs X [c] (iT Y E t) := pts_one h
theorem AfterL_ok {α β : Type} {rl : Rl α β} {as : List Addr} {F H : Hp} {r : Res α} {k : α → Sto → Res D} {Q : VK} (q : After Y E (Rp Y) as F H (r.thn k) Q) : ∃ a S1, r = .ok a S1 ∧ After Y E (Rp Y) as F H (k a S1) Q := by
  cases r with
  | ok a S1 => exact ⟨a, S1, rfl, q⟩
  | stuck => exact q.elim
  | err x S1 => exact q.elim
/-- the loop: what is wanted of the whole -/
theorem lc_core' (vs : List Nat) {σ : L2.St} {H1 F1 : Hp} {as1 : List Addr} {ρ : Rho} {S1 : Sto} {c : Src} {J : It} {Q : VK} {k : List D → Sto → Res D} (t : At Y σ H1 F1 as1 ρ S1) (iw : IW Y as1 F1 H1 c J)
    (q : After Y E (Rp Y) as1 F1 H1 ((lcL c.ok g mt me (wipeR ρ vs) c.items [] S1).thn k) Q)
    (fin : ∀ (p : Addr) (ws : List V) (ds : List D) (S2 : Sto) (F2 H2 : Hp) (as2 : List Addr), H1 p = none → Xt H1 F1 as1 H2 F2 as2 → StR Y H2 F2 as2 S2 → H2 p = some (.lst ws) → p ∉ as2 → F2 p = none → Rps Y as2 F2 ds ws → After Y E (Rp Y) as1 F1 H1 (k ds S2) Q → Q (.ref p) H2) :
    ∀ D, H1 D = none → ∃ W : Nat → Nat → Hp → Prop, (∃ m, W 0 m (upd H1 D (.lst []))) ∧ ∀ i m H, W i m H →
      (J.stop i H ∧ Q (.ref D) H) ∨ (J.go i H ∧ ∃ Nx : Hp → Prop, (∀ H', Nx H' → ∃ m', m' < m ∧ W (i + 1) m' H') ∧ ∀ x H', J.yld i H x H' → iG Y vs g x (L2.wipe σ vs) H' fun σ2 H2 => L2.wipe σ2 vs = L2.wipe σ vs ∧ iT Y E0 mt σ2 H2 fun b H3 =>
        if b = true then iE Y E0 me σ2 H3 fun y H4 => ∃ acc, H4 D = some (.lst acc) ∧ acc.length < sizeLine ∧ Nx (upd H4 D (.lst (acc ++ [y]))) else Nx H3) := by
  intro D hD
  obtain ⟨G, Yr, w, hG, hY⟩ := iw
  have hDa : D ∉ as1 := t.st.fresh hD
  have hDF : F1 D = none := t.st.freshF hD
  refine lc_it w (fun i H => ∃ F as S acc ws, Xt H1 F1 as1 H F as ∧ StR Y H F as S ∧ H D = some (.lst ws) ∧ D ∉ as ∧ F D = none ∧ Rps Y as F acc ws ∧ After Y E (Rp Y) as1 F1 H1 ((lcL c.ok g mt me (wipeR ρ vs) (c.items.drop i) acc S).thn k) Q) ?_ ?_ ?_ ?_
  · refine ⟨F1, as1, S1, [], [], Xt.side t.st hD, t.st.side hDa hDF, upd_same, hDa, hDF, .nil, ?_⟩
    rw [List.drop_zero]
    exact q
  · rintro i H hi ⟨F, as, S, acc, ws, x, s, h1, h2, h3, r, q⟩
    refine hG as F H S x s ?_
    cases hd : c.items.drop i with
    | nil =>
      rw [hd] at q
      unfold lcL at q
      split at q
      · assumption
      · exact q.elim
    | cons d ds =>
      rw [hd] at q
      unfold lcL at q
      split at q
      · rename_i h; exact h.1
      · exact q.elim
  · rintro i xv H H' hi ⟨F, as, S, acc, ws, x, s, h1, h2, h3, r, q⟩ y
    have hd : c.items.drop i = c.items[i] :: c.items.drop (i + 1) := (List.drop_eq_getElem_cons hi)
    rw [hd] at q
    unfold lcL at q
    split at q <;> first | exact q.elim | skip
    rename_i hok
    obtain ⟨F2, x2, s2, r2⟩ := hY i c.items[i] as F H S xv H' (List.getElem?_eq_getElem hi) x s y
    obtain ⟨g1, g2, g3⟩ := x2.off h1 h2 h3
    cases hgd : g c.items[i] (wipeR ρ vs) S with
    | none => rw [hgd] at q; exact q.elim
    | some z =>
      obtain ⟨ρ1, S3⟩ := z
      rw [hgd] at q
      have q : After Y E (Rp Y) as1 F1 H1 (((mt ρ1 S3).thn fun b S2 => if b = true then (me ρ1 S2).thn fun y S3 => lcL c.ok g mt me (wipeR ρ vs) (c.items.drop (i + 1)) (acc ++ [y]) S3 else lcL c.ok g mt me (wipeR ρ vs) (c.items.drop (i + 1)) acc S2).thn k) Q := q
      have fr : FrR Y as F2 (wipeR ρ vs) (L2.wipe σ vs) := (t.fr.mo (x.trans x2)).wipe vs
      refine ⟨F2, as, wipeR ρ vs, S, c.items[i], ρ1, S3, ⟨s2, fr⟩, r2, hgd, fun as3 F3 H3 σ3 x3 s3 f3 b3 => ⟨wipe_but b3, F3, as3, ρ1, S3, ⟨s3, f3⟩, ?_⟩⟩
      cases hmt : mt ρ1 S3 with
      | stuck => rw [hmt] at q; exact q.elim
      | err e S4 => rw [hmt] at q; exact q.elim
      | ok b S4 =>
        rw [hmt] at q
        intro as4 F4 H4 b' x4 s4 eb
        have eb : b = b' := eb
        subst eb
        have x04 := x2.trans (x3.trans x4)
        obtain ⟨k1, k2, k3⟩ := x04.off h1 h2 h3
        cases b with
        | false => exact ⟨F4, as4, S4, acc, ws, x.trans x04, s4, k1, k2, k3, r.mo x04.pre x04.ex, q⟩
        | true =>
          have q : After Y E (Rp Y) as1 F1 H1 (((me ρ1 S4).thn fun y S3 => lcL c.ok g mt me (wipeR ρ vs) (c.items.drop (i + 1)) (acc ++ [y]) S3).thn k) Q := q
          show iE Y E0 me σ3 H4 _
          refine ⟨F4, as4, ρ1, S4, ⟨s4, f3.mo x4⟩, ?_⟩
          cases hme : me ρ1 S4 with
          | stuck => rw [hme] at q; exact q.elim
          | err e S5 => rw [hme] at q; exact q.elim
          | ok y S5 =>
            rw [hme] at q
            intro as5 F5 H5 v x5 s5 ry
            have x05 := x04.trans x5
            obtain ⟨l1, l2, l3⟩ := x05.off h1 h2 h3
            have rr := r.mo x05.pre x05.ex
            refine ⟨ws, l1, ?_, F5, as5, S5, acc ++ [y], ws ++ [v], (x.trans x05).aside hD, s5.side l2 l3, upd_same, l2, l3, rr.app (.cons ry .nil), q⟩
            rw [← rr.length]
            exact Nat.lt_of_lt_of_le hok.2 (big (Nat.le_refl _))
  · rintro H ⟨F, as, S, acc, ws, x, s, h1, h2, h3, r, q⟩
    rw [List.drop_length] at q
    unfold lcL at q
    split at q <;> first | exact q.elim | skip
    exact fin D ws acc S F H as hD x s h1 h2 h3 r q
theorem fin_lst {H1 F1 : Hp} {as1 : List Addr} {Q : VK} {S1 : Sto} (s1 : StR Y H1 F1 as1 S1) : ∀ (p : Addr) (ws : List V) (ds : List D) (S2 : Sto) (F2 H2 : Hp) (as2 : List Addr), H1 p = none → Xt H1 F1 as1 H2 F2 as2 → StR Y H2 F2 as2 S2 → H2 p = some (.lst ws) → p ∉ as2 → F2 p = none → Rps Y as2 F2 ds ws → After Y E (Rp Y) as1 F1 H1 (.ok (.lst ds) S2) Q → Q (.ref p) H2 := by
  intro p ws ds S2 F2 H2 as2 hp x s h1 h2 h3 r q
  have x' := x.take (o := .lst ws) h3 hp
  refine q as2 _ H2 _ x' (s.take h1 h2 h3) (.lst upd_same (r.mo (fun _ _ z => z) fun a o e => ?_))
  rw [upd_ne (ne_of_none e h3)]
  exact e
/-- what stands aside becomes a cell -/
theorem StR.adopt {H F : Hp} {as : List Addr} {S : Sto} {p : Addr} {d : D} (s : StR Y H F as S) (hp : p ∉ as) (hF : F p = none) (q : ObAt Y (as ++ [p]) F H p d) : StR Y H F (as ++ [p]) (S ++ [d]) := by
  refine ⟨fun a u e => ?_, by simp [s.len], ?_, fun n a e h1 h2 => ?_⟩
  · obtain ⟨h1, h2⟩ := s.sub a u e
    refine ⟨fun z => ?_, h2⟩
    rcases List.mem_append.mp z with z | z
    · exact h1 z
    · have := List.mem_singleton.mp z
      subst this
      rw [hF] at e
      cases e
  · rw [List.nodup_append]
    refine ⟨s.nd, by simp, fun a ha b hb z => ?_⟩
    rw [List.mem_singleton] at hb
    subst hb
    subst z
    exact hp ha
  · by_cases hn : n < as.length
    · rw [List.getElem?_append_left hn] at h1
      rw [List.getElem?_append_left (by rw [← s.len]; exact hn)] at h2
      exact ob_mo (fun m b z => by rw [List.getElem?_append_left (List.getElem?_eq_some_iff.mp z).1]; exact z) (fun _ _ z => z) rfl (s.ob n a e h1 h2)
    · have hl : n = as.length := by
        have := (List.getElem?_eq_some_iff.mp h1).1
        simp at this
        omega
      subst hl
      rw [List.getElem?_append_right (Nat.le_refl _)] at h1
      rw [s.len, List.getElem?_append_right (Nat.le_refl _)] at h2
      simp at h1 h2
      subst h1
      subst h2
      exact q
theorem fin_cell {H1 F1 : Hp} {as1 : List Addr} {Q : VK} {S1 : Sto} (s1 : StR Y H1 F1 as1 S1) : ∀ (p : Addr) (ws : List V) (ds : List D) (S2 : Sto) (F2 H2 : Hp) (as2 : List Addr), H1 p = none → Xt H1 F1 as1 H2 F2 as2 → StR Y H2 F2 as2 S2 → H2 p = some (.lst ws) → p ∉ as2 → F2 p = none → Rps Y as2 F2 ds ws → After Y E (Rp Y) as1 F1 H1 (.ok (.loc S2.length) (S2 ++ [.lst ds])) Q → Q (.ref p) H2 := by
  intro p ws ds S2 F2 H2 as2 hp x s h1 h2 h3 r q
  have pre : ∀ (n : Nat) (a : Addr), as2[n]? = some a → (as2 ++ [p])[n]? = some a := fun m b z => by
    rw [List.getElem?_append_left (List.getElem?_eq_some_iff.mp z).1]; exact z
  have x' : Xt H1 F1 as1 H2 F2 (as2 ++ [p]) := ⟨fun n a z => pre n a (x.pre n a z), x.ex, fun a u g1 g2 => ⟨fun z => by
    rcases List.mem_append.mp z with z | z
    · exact (x.st a u g1 g2).1 z
    · exact ne_of_none g2 hp (List.mem_singleton.mp z), (x.st a u g1 g2).2⟩, x.gr⟩
  have e : (as2 ++ [p])[S2.length]? = some p := by rw [← s.len]; simp
  exact q _ F2 H2 _ x' (s.adopt h2 h3 ⟨ws, h1, r.mo pre fun _ _ z => z⟩) (.loc e)
theorem i_lc (o : On X Y) (hN : X.N.Nodup) (hi : PI X tg iter (iI Y E mi)) (ok : BlkOk X.N X.env.scope scope own)
    (hg : ∀ (s : Shared) (H : Hp) (C : Addr) (cl : List (Str × Addr)) (fp : List Addr), PG (X.blk s H scope (compEnvC scope cl C X.env) fp) tg (iG Y (own.map (·.2)) g)) (ht : ∀ (s : Shared) (H : Hp) (C : Addr) (cl : List (Str × Addr)) (fp : List Addr), PTs (X.blk s H scope (compEnvC scope cl C X.env) fp) ifs (iT Y E0 mt))
    (he : ∀ (s : Shared) (H : Hp) (C : Addr) (cl : List (Str × Addr)) (fp : List Addr), PE (X.blk s H scope (compEnvC scope cl C X.env) fp) elt (iE Y E0 me)) (hs : ∀ x, foldedSetIterable iter X.env x = pure x := by intro _; rfl) :
    PE X (.ListComp elt [⟨tg, iter, ifs, 0⟩] scope pos) (iE Y E (mLc mi g mt me (own.map (·.2)))) := PE_imp (pe_lc o.calm hN hi ok hg ht he hs) fun σ H Q ⟨F, as, ρ, S, t, q⟩ => by
  refine ⟨F, as, ρ, S, t, ?_⟩
  unfold mLc at q
  cases hm : mi ρ S with
  | stuck => rw [hm] at q; exact q.elim
  | err x S1 => rw [hm] at q; exact q
  | ok c S1 =>
    rw [hm] at q
    intro as1 F1 H1 J x1 s1 iw
    exact lc_core' (own.map (·.2)) (t.mo x1 s1) iw (After.weak x1 q) (fin_lst s1)
theorem i_lcC (o : On X Y) (hN : X.N.Nodup) (hi : PI X tg iter (iI Y E mi)) (ok : BlkOk X.N X.env.scope scope own)
    (hg : ∀ (s : Shared) (H : Hp) (C : Addr) (cl : List (Str × Addr)) (fp : List Addr), PG (X.blk s H scope (compEnvC scope cl C X.env) fp) tg (iG Y (own.map (·.2)) g)) (ht : ∀ (s : Shared) (H : Hp) (C : Addr) (cl : List (Str × Addr)) (fp : List Addr), PTs (X.blk s H scope (compEnvC scope cl C X.env) fp) ifs (iT Y E0 mt))
    (he : ∀ (s : Shared) (H : Hp) (C : Addr) (cl : List (Str × Addr)) (fp : List Addr), PE (X.blk s H scope (compEnvC scope cl C X.env) fp) elt (iE Y E0 me)) (hs : ∀ x, foldedSetIterable iter X.env x = pure x := by intro _; rfl) :
    PE X (.ListComp elt [⟨tg, iter, ifs, 0⟩] scope pos) (iE Y E (mLcC mi g mt me (own.map (·.2)))) := PE_imp (pe_lc o.calm hN hi ok hg ht he hs) fun σ H Q ⟨F, as, ρ, S, t, q⟩ => by
  refine ⟨F, as, ρ, S, t, ?_⟩
  unfold mLcC at q
  cases hm : mi ρ S with
  | stuck => rw [hm] at q; exact q.elim
  | err x S1 => rw [hm] at q; exact q
  | ok c S1 =>
    rw [hm] at q
    intro as1 F1 H1 J x1 s1 iw
    exact lc_core' (own.map (·.2)) (t.mo x1 s1) iw (After.weak x1 q) (fin_cell s1)
end
end Rf

set_option Elab.async false
set_option linter.all false
set_option maxRecDepth 100000
/-! R9: contracts of defs by data, told where nothing is being shown (no repr runs around); calls; the end. -/
namespace Rf
open PySem L2 PyProof.Rows

/-- as FnOk, told only where no repr runs around, and nothing is raised -/
structure FnG (P : Program) (w : World) (K : PySem.W.Frag) (mg : Str → Option Value) (base : Heap) (k : Nat) (f : Addr) (fd : FuncData) (ps : List Str) (sp : Sp) : Prop where
  len : ∀ vs H Q E, sp vs H Q E → vs.length = ps.length
  run : ∀ (A : Around) (outer : List Env) (s : Shared) (H : Hp) (args : Args) (us : List Value) (vs : List V) (Q : VK), Room k A → A.guards = some [] → Env0 P w K mg base A outer s H → BindsTo s fd args (ps.zip us) → Vals vs us → sp vs H Q E0 →
    codeAny (model P w) A (.call (.ref f) args) (CR CX0 outer P w H s Q E0) s
theorem FnG.mono {P : Program} {w : World} {K : PySem.W.Frag} {mg : Str → Option Value} {base : Heap} {j k : Nat} {f : Addr} {fd : FuncData} {ps : List Str} {sp : Sp} (F : FnG P w K mg base j f fd ps sp) (h : j ≤ k) : FnG P w K mg base k f fd ps sp :=
  ⟨F.len, fun A outer s H args us vs Q hr => F.run A outer s H args us vs Q (hr.mono h)⟩
/-- the promise of a def by data: n arguments -/
def spM (Y : Yt) (n : Nat) (M : FA) : Sp := fun vs H Q _ => ∃ F as S ds, StR Y H F as S ∧ Rps Y as F ds vs ∧ ds.length = n ∧ After Y E0 (Rp Y) as F H (M ds S) Q
theorem spM_len {Y : Yt} {n : Nat} {M : FA} {vs : List V} {H : Hp} {Q : VK} {E : XK} (h : spM Y n M vs H Q E) : vs.length = n := by
  obtain ⟨F, as, S, ds, st, r, e, q⟩ := h
  rw [← r.length]
  exact e
/-- what a body does with its arguments -/
def runB (N : Nat) (b : MS) : FA := fun ds S => match b (ds.map some ++ List.replicate (N - ds.length) none) S with
  | .nx _ S1 => .ok .non S1
  | .rt d S1 => .ok d S1
  | .err x S1 => .err x S1
  | _ => .stuck
section
variable {Y : Yt} {as : List Addr} {F H : Hp}
theorem FrR.start {ds : List D} {vs : List V} {N : List Str} (r : Rps Y as F ds vs) : FrR Y as F (ds.map some ++ List.replicate (N.length - ds.length) none) (start N vs) := by
  unfold L2.start
  refine ⟨by simp [r.length], fun i d h => ?_⟩
  by_cases hi : i < ds.length
  · rw [List.getElem?_append_left (by simpa using hi), List.getElem?_map] at h
    obtain ⟨e, e1, e2⟩ := map_some h
    cases e2
    obtain ⟨v, e3, rv⟩ := r.get e1
    refine ⟨v, ?_, rv⟩
    rw [List.getElem?_append_left (by rw [List.length_map, ← r.length]; exact hi), List.getElem?_map, e3]
    rfl
  · rw [List.getElem?_append_right (by simpa using hi)] at h
    rw [List.getElem?_replicate] at h
    split at h <;> cases h
end
section
variable {P : Program} {w : World} {K : PySem.W.Frag} {mg : Str → Option Value} {base : Heap} {Y : Yt}
/-- the context of a def's body -/
abbrev cxG (P : Program) (w : World) (K : PySem.W.Frag) (mg : Str → Option Value) (base : Heap) (N : List Str) (qual : Str) (st : Stmt) (f : Addr) (cdv : Value) (A : Around) (outer : List Env) (s : Shared) (H : Hp) : Cx :=
  (cxOf CX0 P w K mg base N qual (defScope st) f cdv A outer s H E0).nox
theorem on_cxG {k : Nat} {N : List Str} {qual : Str} {st : Stmt} {f : Addr} {cdv : Value} {A : Around} {outer : List Env} {s : Shared} {H : Hp} (hK : K = Y.K) (hw : w = Y.w) (sm : SysD base)
    (hr : Room k (A.deeper (envOfC qual (defScope st) s.heap.objs.size f cdv))) (g : A.guards = some []) : On (cxG P w K mg base N qual st f cdv A outer s H) Y :=
  ⟨hK, hw, by have := hr.un; show (A.deeper (envOfC qual (defScope st) s.heap.objs.size f cdv)).units + 200 < cLine; omega, hr.hd, rfl, g, sm⟩
theorem fnG_of {name qual : Str} {st : Stmt} {f : Addr} {fd : FuncData} {N ps : List Str} {k n : Nat} {b : MS} (Fu : Fun K name qual st f fd) (Sc : FnScope N ps (defScope st)) (hn : ps.length = n) (hK : K = Y.K) (hw : w = Y.w) (sm : SysD base)
    (body : ∀ (cdv : Value) (A : Around) (outer : List Env) (s : Shared) (H : Hp), Room k (A.deeper (envOfC qual (defScope st) s.heap.objs.size f cdv)) → On (cxG P w K mg base N qual st f cdv A outer s H) Y →
      PSs (cxG P w K mg base N qual st f cdv A outer s H) (defBody st) (iS Y E0 b)) : FnG P w K mg base (k + 1) f fd ps (spM Y n (runB N.length b)) := by
  obtain ⟨oc, od, kV, doc, pm, an, cdv, ct, osl, rfl, lk, hcd⟩ := Fu.ex
  refine ⟨fun vs H Q E h => by rw [spM_len h, hn], fun A outer s H args us vs Q hr g e0 hb r ⟨F, as, S, ds, st0, rd, hl, q⟩ => ?_⟩
  have KX : K.In s.heap := e0.mod.kin.keeps fun c o e => (e0.bs c o e).1
  have lim : s.heap.NoLimit := e0.mod.nolimit.keeps fun c o e => (e0.bs c o e).1
  have loc : ∀ y ∈ ps.zip us, (defScope st).names.lookup y.1 = some .local ∨ ((defScope st).names.lookup y.1 = some .cell ∧ ((cellsFrom (s.heap.objs.size + 1) (defScope st).names []).lookup y.1).isSome = true) := fun y hy => by
    rcases Sc.par y.1 (List.of_mem_zip (a := y.1) (b := y.2) hy).1 with z | z
    · exact .inl z
    · exact .inr ⟨z, PySem.W.cellsFrom_some _ _ _ (.inl z)⟩
  refine codeAny_call_function hr.depth (KX _ _ lk) rfl Sc.co Sc.gen rfl (PySem.W.codeRec_of KX hcd) (hb _ _ _ _ (wpAny_newFunctionEnv_cells Sc.kind loc fun env he s1 x => ?_))
  subst he
  refine ⟨lim.keeps x.toInCall.keep, codeAny_func ?_⟩
  have vl : vs.length = ps.length := by rw [← rd.length, hl, hn]
  have I0 : L2.Inv (cxOf CX0 P w K mg base N qual (defScope st) f cdv A outer s H E0) [] (start N vs) H s1 := inv_start Sc hr.hd e0 vl r x
  have B := (body cdv A outer s H (hr.deeper _) (on_cxG hK hw sm (hr.deeper _) g)).nox
  have frame := FrR.start (N := N) rd
  refine wpAny_mono (B.run [] s1 (start N vs) H { nx := fun _ H' => Q .non H', rt := Q } I0 ⟨F, as, _, S, ⟨st0, frame⟩, ?_⟩) (fun fl s' hs => ?_) fun e s' hs => hs
  · unfold runB at q
    cases hbb : b (ds.map some ++ List.replicate (N.length - ds.length) none) S with
    | nx ρ S1 => rw [hbb] at q; exact fun as' F' H' σ' x s f => q as' F' H' .non x s .non
    | rt d S1 => rw [hbb] at q; exact q
    | err y S1 => rw [hbb] at q; exact q
    | bk ρ S1 => rw [hbb] at q; exact q.elim
    | ct ρ S1 => rw [hbb] at q; exact q.elim
    | stuck => rw [hbb] at q; exact q.elim
  · cases fl with
    | ret u =>
      obtain ⟨v, σ', H', J, rv, z⟩ := hs
      exact ⟨v, H', J.os, J.bare, J.base, J.hok, rv, z⟩
    | next =>
      obtain ⟨σ', H', J, z⟩ := hs
      exact ⟨.non, H', J.os, J.bare, J.base, J.hok, rfl, z⟩
    | brk =>
      obtain ⟨_, _, _, z⟩ := hs
      exact z.elim
    | cont =>
      obtain ⟨_, _, _, z⟩ := hs
      exact z.elim
end

/-! ### calls -/
section
variable {X : Cx} {Y : Yt} {k : Nat} {f : Addr} {fd : FuncData} {ps : List Str} {sp : Sp} {x : Str} {e : Expr} {es : List Expr} {p pos : Pos} {n : Nat} {Mf : FA} {mr : Rho → Sto → Res (List D)}
theorem run_fnG {pins : List (Addr × Obj)} {σ : L2.St} {H : Hp} {s : Shared} {Q : VK} {us : List Value} {vs : List V} (F : FnG X.prog X.w X.K X.mg X.base k f fd ps sp) (hr : Room k X.A) (g : X.A.guards = some []) (hb : Binds X.K fd ps [])
    (I : L2.Inv X pins σ H s) (r : Vals vs us) (h : sp vs H Q E0) : wpAny (model X.prog X.w) X.A (call (.ref f) us) (EP X pins σ Q) X.xe s := by
  have hl : us.length = ps.length := by rw [← r.length]; exact F.len _ _ _ _ h
  have hb' := hb s us I.kIn (by rw [List.append_nil]; exact hl)
  rw [List.append_nil] at hb'
  refine wpAny_call (codeAny_mono (F.run X.A X.stack s H ⟨us, []⟩ us vs Q hr g I.env0 hb' r h) fun y s' hq => ?_)
  cases y with
  | error _ => exact False.elim hq
  | ok fl => cases fl with
    | ret u => exact I.after hq
    | _ => exact False.elim hq
/-- a def of the module, by its name -/
structure DefG (P : Program) (w : World) (K : PySem.W.Frag) (mg : Str → Option Value) (base : Heap) (Y : Yt) (k : Nat) (x : Str) (n : Nat) (Mf : FA) : Prop where
  ex : ∃ f fd ps, mg x = some (.ref f) ∧ PySem.W.keepIn K (.ref f) = true ∧ FnG P w K mg base k f fd ps (spM Y n Mf) ∧ Binds K fd ps []
theorem i_call (G : DefG X.prog X.w X.K X.mg X.base Y k x n Mf) (hr : Room k X.A) (o : On X Y) (hg : Gl X x) (ha : PA X (e :: es) (iA Y E0 mr)) (hn : (e :: es).length = n) (hlen : ∀ ρ S ds S1, mr ρ S = .ok ds S1 → ds.length = n)
    (hdb : (x == ("__debug__" : Str)) = false := by decide) (he : starEach (e :: es) X.env = (false, eval e X.env) :: starEach es X.env := by rfl) (hpl : (backTo pos (starEach es X.env)).any (·.1) = false := by rfl) :
    PE X (.Call (.Name x p) (e :: es) [] pos) (iE Y E0 (mA Mf mr)) := by
  obtain ⟨f, fd, ps, hm, hk, F, hb⟩ := G.ex
  refine ⟨fun pins s σ H Q I ⟨Fh, as, ρ, S, t, q⟩ => ?_⟩
  have q' : After Y E0 (Rps Y) as Fh H (mr ρ S) fun vs H1 => spM Y n Mf vs H1 Q E0 := by
    unfold mA at q
    cases hmr : mr ρ S with
    | stuck => rw [hmr] at q; exact q.elim
    | err y S1 => rw [hmr] at q; exact q
    | ok ds S1 =>
      rw [hmr] at q
      intro as' F' H' vs x s r
      exact ⟨F', as', S1, ds, s, r, hlen ρ S ds S1 hmr, After.weak x q⟩
  refine wpAny_Call_Name_kw (ld_glob I hg hm ?_ hdb)
  exact PySem.W.callWith_K (h₀ := X.base) I.ok.mod.kin hk (thn (ha.run pos pins s σ H _ I ⟨Fh, as, ρ, S, t, q'⟩) fun us s1 ⟨vs, H1, I1, r, z⟩ => ⟨I1.kIn, run_fnG F hr o.gd hb I1 r z⟩) he hpl
theorem len_nil : ∀ ρ S ds S1, mNil ρ S = .ok ds S1 → ds.length = 0 := fun ρ S ds S1 h => by cases h; rfl
theorem len_cons {m : M} {r : Rho → Sto → Res (List D)} {n : Nat} (h : ∀ ρ S ds S1, r ρ S = .ok ds S1 → ds.length = n) : ∀ ρ S ds S1, mCons m r ρ S = .ok ds S1 → ds.length = n + 1 := fun ρ S ds S1 e => by
  unfold mCons at e
  cases h1 : m ρ S with
  | stuck => rw [h1] at e; cases e
  | err y S2 => rw [h1] at e; cases e
  | ok d S2 =>
    rw [h1] at e
    have e : ((r ρ S2).bnd fun ds S2 => .ok (d :: ds) S2 : Res (List D)) = .ok ds S1 := e
    cases h2 : r ρ S2 with
    | stuck => rw [h2] at e; cases e
    | err y S3 => rw [h2] at e; cases e
    | ok es S3 =>
      rw [h2] at e
      cases e
      rw [List.length_cons, h _ _ _ _ h2]
end
end Rf

set_option Elab.async false
set_option linter.all false
set_option maxRecDepth 100000
/-! R10: repr, sets of ints, some methods, more statements, by data. -/
namespace Rf
open PySem L2 PyProof.Rows

/-! ### repr -/
def rpP (S : Sto) (d : D) : Option PyData := match toP S deep d with
  | some p => if (p.showable && decide (p.depth ≤ 100) && few p.shown.length) = true then some p else none
  | none => none
def bRepr : FA := fun xs S => match xs with
  | [x] => match rpP S x with
    | some p => .ok (.str p.shown) S
    | none => .stuck
  | _ => .stuck
section
variable {X : Cx} {Y : Yt} {E : XK} {as : List Addr} {S : Sto} {H F : Hp} {pins : List (Addr × Obj)} {s : Shared} {σ : L2.St}
/-- the place of sys.modules is not tracked -/
theorem no_mods (o : On X Y) (I : L2.Inv X pins σ H s) : H sysModules = none := by
  obtain ⟨mm, ob, es, ep, h, _⟩ := o.sm
  exact (I.bs sysModules ob h).2
theorem ne_mods (o : On X Y) (I : L2.Inv X pins σ H s) {a : Addr} {u : HO} (h : H a = some u) : a ≠ sysModules := fun e => by
  rw [e, no_mods o I] at h
  cases h
theorem dict0_at (o : On X Y) (I : L2.Inv X pins σ H s) {a : Addr} (h : H a = some (.dK [])) : ∃ as, Reads s.heap (.ref a) (.dict []) as ∧ sysModules ∉ as := by
  obtain ⟨_, _, vs, kv, ob, es, ep, h1, h2, h3, h4, h5, _⟩ := (show ObjOk X.prog X.w H s.heap a (.dK []) from I.hok a _ h)
  cases kv
  have e0 : es.toList = [] := by
    generalize es.toList = l at h5
    cases h5
    rfl
  refine ⟨a :: ([] ++ []), Reads.dict (kvs := []) h1 h2.1 h3 (by rw [e0]; exact .nil) (by rw [e0]; exact .nil), ?_⟩
  simpa using (ne_mods o I h).symm
mutual
theorem toP_reads (o : On X Y) (I : L2.Inv X pins σ H s) (st : StR Y H F as S) : ∀ (n : Nat) (d : D) (v : V) (u : Value) (p : PyData), Rp Y as F d v → RelV v u → toP S n d = some p → ∃ bs, Reads s.heap u p bs ∧ sysModules ∉ bs
  | 0, _, _, _, _, _, _, e => by rw [toP] at e; cases e
  | n + 1, _, _, _, _, .non, r, e => by rw [toP] at e; cases e; cases r; exact ⟨_, .none, by simp⟩
  | n + 1, _, _, _, _, .bl b, r, e => by rw [toP] at e; cases e; cases r; exact ⟨_, .bool b, by simp⟩
  | n + 1, _, _, _, _, .int i, r, e => by rw [toP] at e; cases e; obtain ⟨t, rfl⟩ := r; exact ⟨_, .int i t, by simp⟩
  | n + 1, _, _, _, _, .str x, r, e => by rw [toP] at e; cases e; obtain ⟨t, rfl⟩ := r; exact ⟨_, .str x t, by simp⟩
  | n + 1, _, _, _, _, .tup (a := a) (vs := vs) h rs, r, e => by
    rw [toP] at e
    obtain ⟨ps, e1, rfl⟩ := map_some e
    cases r
    have h' : SqT X.K H a vs := by rw [o.K]; exact seqT_up st h
    obtain ⟨its, rv, ⟨ob, g1, g2, m, g3⟩, _⟩ := I.tuple h'
    obtain ⟨bs, q1, q2⟩ := toPs_reads o I st n _ _ its _ rs rv e1
    exact ⟨bs, .tuple g1 g2 g3 q1, q2⟩
  | n + 1, _, _, _, _, .lst (a := a) h rs, r, e => by
    rw [toP] at e
    obtain ⟨ps, e1, rfl⟩ := map_some e
    cases r
    obtain ⟨_, its, m, rv, g⟩ := (show ObjOk X.prog X.w H s.heap a (.lst _) from I.hok a _ (lst_up st h))
    obtain ⟨bs, q1, q2⟩ := toPs_reads o I st n _ _ its _ rs rv e1
    exact ⟨a :: bs, .list g rfl rfl q1, by
      rw [List.mem_cons, not_or]
      exact ⟨(ne_mods o I (lst_up st h)).symm, q2⟩⟩
  | n + 1, _, _, _, _, .fro (a := a) (vs := vs) h rs, r, e => by
    rw [toP] at e
    obtain ⟨ps, e1, rfl⟩ := map_some e
    cases r
    have h' : SqL X.K H a vs := by rw [o.K]; exact seqL_up st h
    have ne : a ≠ sysModules := by
      rcases seqL_up st h with (h | ⟨ob, h⟩) | ⟨ob, its, m, hk, hc, _, hd0, _⟩
      · exact ne_mods o I h
      · exact ne_mods o I h
      · intro e2
        obtain ⟨mm, ob2, es, ep, h2, h3, _⟩ := o.sm
        rw [e2, ← o.K] at hk
        have h4 := I.ok.mod.kin _ _ hk
        rw [show X.base.get? sysModules = some ob2 from h2] at h4
        cases h4
        rw [h3] at hd0
        cases hd0
    obtain ⟨its, rv, ⟨ob, m, g1, g2, _, g3⟩, _⟩ := I.list h'
    obtain ⟨bs, q1, q2⟩ := toPs_reads o I st n _ _ its _ rs rv e1
    exact ⟨a :: bs, .list g1 g2 g3 q1, by
      rw [List.mem_cons, not_or]
      exact ⟨ne.symm, q2⟩⟩
  | n + 1, _, _, _, _, .dk (a := a) (ws := ws) (kvs := kvs) h k z rs, r, e => by
    rw [toP] at e
    split at e
    · rename_i h0
      cases e
      cases r
      have e0 : kvs = [] := List.isEmpty_iff.mp h0
      subst e0
      have e1 : ws = [] := by cases ws with
        | nil => rfl
        | cons _ _ => cases k
      subst e1
      exact dict0_at o I (lst_up st h)
    · cases e
  | n + 1, _, _, _, _, .dt h k z r, _, e => by rw [toP] at e; cases e
  | n + 1, _, _, _, _, .ins h k z r w, _, e => by rw [toP] at e; cases e
  | n + 1, _, _, _, _, .ty _, _, e => by rw [toP] at e; cases e
  | n + 1, _, _, _, _, .cl _, _, e => by rw [toP] at e; cases e
  | n + 1, _, _, _, _, .sti _ _, _, e => by rw [toP] at e; cases e
  | n + 1, _, _, _, _, .fdk h k z r, _, e => by rw [toP] at e; cases e
  | n + 1, _, _, _, _, .loc (n := k) (a := a) h, r, e => by
    rw [toP] at e
    cases r
    split at e
    · rename_i ds hS
      obtain ⟨ps, e1, rfl⟩ := map_some e
      obtain ⟨vs, e2, rs⟩ := st.ob k _ _ h hS
      obtain ⟨_, its, m, rv, g⟩ := (show ObjOk X.prog X.w H s.heap a (.lst _) from I.hok a _ e2)
      obtain ⟨bs, q1, q2⟩ := toPs_reads o I st n _ _ its _ rs rv e1
      exact ⟨a :: bs, .list g rfl rfl q1, by
        rw [List.mem_cons, not_or]
        exact ⟨(ne_mods o I e2).symm, q2⟩⟩
    · rename_i kvs hS
      split at e
      · rename_i h0
        cases e
        obtain ⟨ws, e2, e3, _⟩ := st.ob k _ _ h hS
        have e0 : kvs = [] := List.isEmpty_iff.mp h0
        subst e0
        have e1 : ws = [] := by cases ws with
          | nil => rfl
          | cons _ _ => cases e3
        subst e1
        exact dict0_at o I e2
      · cases e
    · cases e
theorem toPs_reads (o : On X Y) (I : L2.Inv X pins σ H s) (st : StR Y H F as S) : ∀ (n : Nat) (ds : List D) (vs : List V) (us : List Value) (ps : List PyData), Rps Y as F ds vs → Vals vs us → toPs S n ds = some ps → ∃ bs, ReadsAll s.heap us ps bs ∧ sysModules ∉ bs
  | 0, _, _, _, _, _, _, e => by rw [toPs] at e; cases e
  | n + 1, _, _, _, _, .nil, rv, e => by rw [toPs] at e; cases e; cases rv; exact ⟨_, .nil, by simp⟩
  | n + 1, _, _, _, _, .cons h r, rv, e => by
    rw [toPs] at e
    split at e
    · rename_i p hp
      split at e
      · rename_i ps hps
        cases e
        cases rv with
        | cons r1 r2 =>
          obtain ⟨bs, q1, q2⟩ := toP_reads o I st n _ _ _ _ h r1 hp
          obtain ⟨cs, q3, q4⟩ := toPs_reads o I st n _ _ _ _ r r2 hps
          exact ⟨_, .cons q1 q3, by
            rw [List.mem_append, not_or]
            exact ⟨q2, q4⟩⟩
      · cases e
    · cases e
end
theorem c_repr (o : On X Y) : CallR X (.builtin "repr") (rDA Y E bRepr) := by
  rintro pins s σ H xs us Q I rv ⟨F, as, S, ds, st, r, q⟩
  unfold bRepr at q
  split at q
  · rename_i x
    obtain ⟨v, rfl, h1⟩ := args1 r rfl
    split at q
    · rename_i p hp
      obtain ⟨u, rfl, ru⟩ := vals1 rv
      unfold rpP at hp
      split at hp
      · rename_i p' hp'
        split at hp
        · rename_i hc
          cases hp
          rw [Bool.and_eq_true, Bool.and_eq_true] at hc
          obtain ⟨⟨c1, c2⟩, c3⟩ := hc
          have c2 := of_decide_eq_true c2
          have q := q.now st (.str _)
          obtain ⟨bs, q1, q2⟩ := toP_reads o I st _ _ _ _ _ h1 ru hp'
          have hz := few_line c3
          have fin : ∀ h' t tk, (∀ b o, s.heap.get? b = some o → h'.get? b = some o) → EP X pins σ Q (.str p.shown t) { s with heap := h', toks := tk } := fun h' t tk hk => ⟨.str p.shown, H, I.kept hk, ⟨t, rfl⟩, q⟩
          cases q1 with
          | none => exact PySem.P.repr_of_none (fin s.heap _ _ fun _ _ z => z)
          | bool b => exact PySem.P.repr_of_bool (fin s.heap _ _ fun _ _ z => z)
          | int i t => exact PySem.P.repr_of_int (of_decide_eq_true (by simpa [PyData.showable] using c1)) (fin s.heap _ _ fun _ _ z => z)
          | str z t => exact PySem.P.repr_of_str (fin s.heap _ _ fun _ _ z => z) hz
          | list g1 g2 g3 g4 => exact repr_of_reads' (.list g1 g2 g3 g4) c1 (fun _ => q2) o.gd (by have := o.hu; omega) (fun _ _ z => z) (fun h' t tk hk => fin h' t tk hk) hz
          | tuple g1 g2 g3 g4 => exact repr_of_reads' (.tuple g1 g2 g3 g4) c1 (fun _ => q2) o.gd (by have := o.hu; omega) (fun _ _ z => z) (fun h' t tk hk => fin h' t tk hk) hz
          | dict g1 g2 g3 g4 g5 => exact repr_of_reads' (.dict g1 g2 g3 g4 g5) c1 (fun _ => q2) o.gd (by have := o.hu; omega) (fun _ _ z => z) (fun h' t tk hk => fin h' t tk hk) hz
        · cases hp
      · cases hp
    · exact q.elim
  · exact q.elim
end
end Rf

set_option Elab.async false
set_option linter.all false
set_option maxRecDepth 100000
/-! R11: stores, sets of ints, upper, name = [..], by data. -/
namespace Rf
open PySem L2 PyProof.Rows

/-! ### o[i] = e -/
def cellOf : Res D → Option (Nat × Sto)
  | .ok (.loc k) S => some (k, S)
  | _ => none
def intOf : Res D → Option (Int × Sto)
  | .ok (.int j) S => some (j, S)
  | _ => none
theorem cellOf_some {r : Res D} {p : Nat × Sto} (h : cellOf r = some p) : r = .ok (.loc p.1) p.2 := by
  cases r with
  | ok d S => cases d <;> first | (cases h; rfl) | cases h
  | _ => cases h
theorem intOf_some {r : Res D} {p : Int × Sto} (h : intOf r = some p) : r = .ok (.int p.1) p.2 := by
  cases r with
  | ok d S => cases d <;> first | (cases h; rfl) | cases h
  | _ => cases h
def gIx (mo mi : M) : MG := fun d ρ S => match cellOf (mo ρ S) with
  | some p => match intOf (mi ρ p.2) with
    | some q => match lstOf q.2[p.1]? with
      | some ds => match ixN ds.length q.1 with
        | some t => some (ρ, q.2.set p.1 (.lst (ds.set t d)))
        | none => none
      | none => none
    | none => none
  | none => none
section
variable {X : Cx} {Y : Yt} {E : XK} {pos : Pos} {a i : Expr} {mo mi : M} {vs : List Nat}
theorem ig_ix (ho : PE X a (iE Y E mo)) (hi : PE X i (iE Y E mi)) (ha : ∀ v, assign (.Subscript a i pos) X.env v = (do
      let ov ← holding [v] (eval a X.env)
      let iv ← holding [v, ov] (eval i X.env)
      standAt pos
      holding [v, ov, iv] (setItem ov iv v)
      release [v, ov, iv] []) := by intro _; rfl) : PG X (.Subscript a i pos) (iG Y vs (gIx mo mi)) := PG_imp (pg_sub ho hi set_list ha) fun v σ H Q ⟨F, as, ρ, S, d, ρ1, S1, t, r, e1, q⟩ => by
  unfold gIx at e1
  cases h1 : cellOf (mo ρ S) with
  | none => rw [h1] at e1; cases e1
  | some p =>
    rw [h1] at e1
    have e1 : (match intOf (mi ρ p.2) with
      | some q => match lstOf q.2[p.1]? with
        | some ds => match ixN ds.length q.1 with
          | some t => some (ρ, q.2.set p.1 (.lst (ds.set t d)))
          | none => none
        | none => none
      | none => none) = some (ρ1, S1) := e1
    cases h2 : intOf (mi ρ p.2) with
    | none => rw [h2] at e1; cases e1
    | some p2 =>
      rw [h2] at e1
      have e1 : (match lstOf p2.2[p.1]? with
        | some ds => match ixN ds.length p2.1 with
          | some t => some (ρ, p2.2.set p.1 (.lst (ds.set t d)))
          | none => none
        | none => none) = some (ρ1, S1) := e1
      cases h3 : lstOf p2.2[p.1]? with
      | none => rw [h3] at e1; cases e1
      | some ds =>
        rw [h3] at e1
        have e1 : (match ixN ds.length p2.1 with
          | some t => some (ρ, p2.2.set p.1 (.lst (ds.set t d)))
          | none => none) = some (ρ1, S1) := e1
        cases h4 : ixN ds.length p2.1 with
        | none => rw [h4] at e1; cases e1
        | some k =>
          rw [h4] at e1
          cases e1
          refine ⟨F, as, ρ, S, t, ?_⟩
          rw [cellOf_some h1]
          intro as1 F1 H1 o x1 s1 ro
          cases ro with
          | @loc n la hla =>
            refine ⟨F1, as1, ρ, p.2, t.mo x1 s1, ?_⟩
            rw [intOf_some h2]
            intro as2 F2 H2 iv x2 s2 ri
            cases ri
            obtain ⟨ws, g1, g2⟩ := s2.ob _ _ _ (x2.pre _ _ hla) (lstOf_some h3)
            rw [g2.length] at h4
            refine ⟨la, ws, _, k, rfl, rfl, g1, h4, ?_⟩
            have rr := g2.set ((r.mo x1.pre x1.ex).mo x2.pre x2.ex) k
            have hm : la ∈ as2 := List.mem_of_getElem? (x2.pre _ _ hla)
            have x3 := Xt.write (o := .lst (ws.set k v)) (H := H2) (F := F2) hm
            exact q as2 F2 _ σ ((x1.trans x2).trans x3) (s2.write (x2.pre _ _ hla) ⟨_, upd_same, rr⟩) ((t.fr.mo (x1.trans x2)).mo x3) But.refl

/-! ### name = [..] on one line -/
theorem is_setLc {elt tg iter : Expr} {ifs : List Expr} {scope : Scope} {own : List (Str × Nat)} {spos py : Pos} {j : Nat} {y : Str} {mi : MI} {g : MG} {mt : MT} {me : M} (o : On X Y) (hN : X.N.Nodup) (hy : X.N[j]? = some y) (hyl : X.env.scope.names.lookup y = some .local)
    (hsw : swapsWith (.ListComp elt [⟨tg, iter, ifs, 0⟩] scope pos) (some (.Name y py)) spos.line X.env = pure true) (hi : PI X tg iter (iI Y E mi)) (ok : BlkOk X.N X.env.scope scope own)
    (hg : ∀ (s : Shared) (H : Hp) (C : Addr) (cl : List (Str × Addr)) (fp : List Addr), PG (X.blk s H scope (compEnvC scope cl C X.env) fp) tg (iG Y (own.map (·.2)) g)) (ht : ∀ (s : Shared) (H : Hp) (C : Addr) (cl : List (Str × Addr)) (fp : List Addr), PTs (X.blk s H scope (compEnvC scope cl C X.env) fp) ifs (iT Y E0 mt))
    (he : ∀ (s : Shared) (H : Hp) (C : Addr) (cl : List (Str × Addr)) (fp : List Addr), PE (X.blk s H scope (compEnvC scope cl C X.env) fp) elt (iE Y E0 me)) (hs : ∀ x, foldedSetIterable iter X.env x = pure x := by intro _; rfl) :
    PS X (.Assign [.Name y py] (.ListComp elt [⟨tg, iter, ifs, 0⟩] scope pos) spos) (iS Y E (sAsg (mLc mi g mt me (own.map (·.2))) (gV j))) := PS_imp (ps_setLc o.calm hN hy hyl hsw hi ok hg ht he hs) fun Dn σ H ⟨F, as, ρ, S, t, q⟩ => by
  have q := After.out (rl := Rp Y) q
  refine ⟨F, as, ρ, S, t, ?_⟩
  unfold mLc at q
  cases hm : mi ρ S with
  | stuck => rw [hm] at q; exact q.elim
  | err x S1 => rw [hm] at q; exact q
  | ok c S1 =>
    rw [hm] at q
    intro as1 F1 H1 J x1 s1 iw
    refine lc_core' (E := E) (own.map (·.2)) (t.mo x1 s1) iw (Q := fun v H2 => Dn.nx (σ.set j (some v)) H2) ?_ (fin_lst s1)
    refine After.weak x1 (After.imp q fun v H2 ⟨d, S2, F2, as2, x2, s2, r2, q2⟩ => ?_)
    exact q2 as2 F2 H2 _ (Xt.refl _ _ _) s2 ((t.fr.mo x2).set r2)

/-! ### sets of ints, sorted -/
def intsOf : List D → Option (List Int)
  | [] => some []
  | .int i :: ds => (intsOf ds).map (i :: ·)
  | _ :: _ => none
theorem intsOf_at {as : List Addr} {F : Hp} : ∀ {ds : List D} {vs : List V} {ns : List Int}, Rps Y as F ds vs → intsOf ds = some ns → vs = ns.map V.int
  | [], _, _, .nil, e => by cases e; rfl
  | d :: ds, _, _, .cons h r, e => by
    cases h with
    | int i =>
      obtain ⟨cs, e1, rfl⟩ := map_some (show (intsOf ds).map (i :: ·) = some _ from e)
      rw [intsOf_at r e1]
      rfl
    | _ => cases e
def bSet : FA := fun xs S => match xs with
  | [.tup ds] => match intsOf ds with
    | some ns => if ns.length ≤ 60 then .ok (.sti ns) S else .stuck
    | none => .stuck
  | _ => .stuck
theorem ints_are : ∀ {ns : List Int} {us : List Value}, Vals (ns.map V.int) us → IntsAre us ns
  | [], _, .nil => .nil
  | n :: ns, _, .cons r1 r2 => by
    obtain ⟨t, rfl⟩ := r1
    exact .cons n t (ints_are r2)
theorem c_set (o : On X Y) : CallR X (.type "set") (rDA Y E bSet) := by
  rintro pins s σ H xs us Q I rv ⟨F, as, S, ds, st, r, q⟩
  unfold bSet at q
  split at q
  · obtain ⟨v, rfl, h1⟩ := args1 r rfl
    split at q
    · rename_i ns hn
      obtain ⟨hz, q⟩ := ite_stuck q
      cases h1 with
      | @tup a vs ds h r2 =>
        obtain ⟨u, rfl, ru⟩ := vals1 rv
        cases ru
        have h' : SqT X.K H a vs := by rw [o.K]; exact seqT_up st h
        obtain ⟨its, rv2, tp, _⟩ := I.tuple h'
        rw [intsOf_at r2 hn] at rv2
        refine call_set_tupI ns o.hd tp (by simpa using ints_are rv2) (by show ns.length + 1 < scanBound; unfold scanBound; omega) fun h' tk c R hc hk => ?_
        have hp := I.hok.fresh (Nat.le_refl s.heap.objs.size)
        have x := Xt.new (o := SetO X.w s.heap.objs.size (fun j => decide (j ∈ ns)) c) st hp
        refine ⟨.ref _, _, I.laid (t' := tk) hk (Nat.le_refl _) (setO_new R), rfl, ?_⟩
        refine q as _ _ _ x (st.new hp) (.sti (n := c) ?_ hc)
        rw [← o.w]
        exact upd_same
    · exact q.elim
  · exact q.elim
/-- sorted, each once -/
def insI (x : Int) : List Int → List Int
  | [] => [x]
  | y :: ys => if x < y then x :: y :: ys else if x = y then y :: ys else y :: insI x ys
def srtI : List Int → List Int
  | [] => []
  | x :: xs => insI x (srtI xs)
theorem mem_insI {x k : Int} : ∀ {ys : List Int}, k ∈ insI x ys ↔ k = x ∨ k ∈ ys
  | [] => by simp [insI]
  | y :: ys => by
    unfold insI
    split
    · simp
    · split
      · rename_i h; subst h; simp
      · rw [List.mem_cons, mem_insI, List.mem_cons]
        constructor
        · rintro (h | h | h)
          · exact .inr (.inl h)
          · exact .inl h
          · exact .inr (.inr h)
        · rintro (h | h | h)
          · exact .inr (.inl h)
          · exact .inl h
          · exact .inr (.inr h)
theorem mem_srtI {k : Int} : ∀ {xs : List Int}, k ∈ srtI xs ↔ k ∈ xs
  | [] => by simp [srtI]
  | x :: xs => by rw [srtI, mem_insI, mem_srtI, List.mem_cons]
theorem pw_insI {x : Int} : ∀ {ys : List Int}, ys.Pairwise (· < ·) → (insI x ys).Pairwise (· < ·)
  | [], _ => by simp [insI]
  | y :: ys, h => by
    obtain ⟨h1, h2⟩ := List.pairwise_cons.mp h
    unfold insI
    split
    · rename_i hx
      refine List.pairwise_cons.mpr ⟨fun z hz => ?_, h⟩
      rcases List.mem_cons.mp hz with rfl | hz
      · exact hx
      · exact Int.lt_trans hx (h1 z hz)
    · split
      · exact h
      · refine List.pairwise_cons.mpr ⟨fun z hz => ?_, pw_insI h2⟩
        rcases mem_insI.mp hz with rfl | hz
        · omega
        · exact h1 z hz
theorem pw_srtI : ∀ {xs : List Int}, (srtI xs).Pairwise (· < ·)
  | [] => .nil
  | _ :: _ => pw_insI pw_srtI
theorem pw_uniq : ∀ {xs ys : List Int}, xs.Pairwise (· < ·) → ys.Pairwise (· < ·) → (∀ k, k ∈ xs ↔ k ∈ ys) → xs = ys
  | [], [], _, _, _ => rfl
  | [], y :: ys, _, _, h => absurd ((h y).mpr (List.mem_cons_self ..)) (by simp)
  | x :: xs, [], _, _, h => absurd ((h x).mp (List.mem_cons_self ..)) (by simp)
  | x :: xs, y :: ys, h1, h2, h => by
    obtain ⟨a1, a2⟩ := List.pairwise_cons.mp h1
    obtain ⟨b1, b2⟩ := List.pairwise_cons.mp h2
    have e : x = y := by
      rcases List.mem_cons.mp ((h x).mp (List.mem_cons_self ..)) with e | e
      · exact e
      · rcases List.mem_cons.mp ((h y).mpr (List.mem_cons_self ..)) with e2 | e2
        · exact e2.symm
        · have := b1 x e; have := a1 y e2; omega
    subst e
    congr 1
    refine pw_uniq a2 b2 fun k => ⟨fun hk => ?_, fun hk => ?_⟩
    · rcases List.mem_cons.mp ((h k).mp (List.mem_cons_of_mem _ hk)) with e | e
      · subst e; have := a1 k hk; omega
      · exact e
    · rcases List.mem_cons.mp ((h k).mpr (List.mem_cons_of_mem _ hk)) with e | e
      · subst e; have := b1 k hk; omega
      · exact e
theorem ints_rp {as : List Addr} {F : Hp} : ∀ ns : List Int, Rps Y as F (ns.map D.int) (ns.map V.int)
  | [] => .nil
  | n :: ns => .cons (.int n) (ints_rp ns)
def bSorted : FA := fun xs S => match xs with
  | [.sti ns] => if ns.length ≤ 60 then .ok (.lst ((srtI ns).map D.int)) S else .stuck
  | _ => .stuck
theorem c_sorted (o : On X Y) : CallR X (.builtin "sorted") (rDA Y E bSorted) := by
  rintro pins s σ H xs us Q I rv ⟨F, as, S, ds, st, r, q⟩
  unfold bSorted at q
  split at q
  · rename_i ns
    obtain ⟨v, rfl, h1⟩ := args1 r rfl
    obtain ⟨hz, q⟩ := ite_stuck q
    cases h1 with
    | @sti a _ n h hn =>
      have h' := lst_up st h
      rw [← o.w] at h'
      refine cr_sortedSet o.calm pins s σ H _ us Q I rv ⟨a, _, n, rfl, h', by omega, fun ms p hs hm hl hp => ?_⟩
      have e : ms = srtI ns := pw_uniq hs pw_srtI fun k => by rw [hm, mem_srtI]; simp
      subst e
      have x := Xt.new (o := .lst ((srtI ns).map V.int)) st hp
      exact q as _ _ _ x (st.new hp) (.lst upd_same (ints_rp _))
  · exact q.elim

/-! ### methods of texts -/
def dUpper : D → Sto → Res D := fun x S => match x with
  | .str z => if few z.length = true then .ok (.str (Txt.upper z)) S else .stuck
  | _ => .stuck
theorem i_upper {apos cpos : Pos} {m : M} (ho : PE X a (iE Y E m)) (hbase : attributeBase a "upper" X.env (eval a X.env) = eval a X.env := by rfl) (hline : (apos.endLine == cpos.line) = true := by rfl) : PE X (.Call (.Attribute a "upper" apos) [] [] cpos) (iE Y E (mU dUpper m)) :=
  PE_imp (pe_bm0 PySem.F.plainAttrs_str PySem.F.slot_str_upper PySem.F.type_str_upper mt_upper ho hbase hline) fun σ H Q ⟨F, as, ρ, S, t, q⟩ => ⟨F, as, ρ, S, t, (After.bnd q).imp fun v H1 ⟨d, S1, F1, as1, x1, s1, r1, q1⟩ => by
    cases r1 with
    | str z =>
      obtain ⟨h, q1⟩ := ite_stuck q1
      have h := of_decide_eq_true h
      exact ⟨rfl, z, rfl, rfl, Nat.le_trans h (by decide), q1.now s1 (.str _)⟩
    | _ => exact q1.elim⟩
end
end Rf

set_option Elab.async false
set_option linter.all false
set_option maxRecDepth 100000
/-! R12: calls by keywords; the law's end. -/
namespace Rf
open PySem L2 PyProof.Rows

/-! ### f(x=e) -/
section
variable {X : Cx} {Y : Yt} {E : XK} {k : Nat} {x : Str} {e : Expr} {kws : List Keyword} {p pos kpos : Pos} {n : Nat} {Mf : FA} {m : M} {mr : Rho → Sto → Res (List D)} {nm : Str}
def iK (Y : Yt) (E : XK) (m : Rho → Sto → Res (List D)) : TA := iA Y E m
theorem PK_imp {X : Cx} {e : List Keyword} {t t' : TA} (h : PK X e t) (k : ∀ σ H Q, t' σ H Q → t σ H Q) : PK X e t' := ⟨fun pos pins s σ H Q I q => h.run pos pins s σ H Q I (k σ H Q q)⟩
theorem ik_nil : PK X [] (iA Y E mNil) := PK_imp pk_nil fun σ H Q ⟨F, as, ρ, S, t, q⟩ => q.now t.st .nil
theorem ik_cons {nm : Option Str} (ha : PE X e (iE Y E m)) (hr : PK X kws (iA Y E mr)) : PK X (⟨nm, e, kpos⟩ :: kws) (iA Y E (mCons m mr)) :=
  PK_imp (pk_cons ha hr) fun σ H Q ⟨F, as, ρ, S, t, q⟩ => ⟨F, as, ρ, S, t, (After.bnd q).imp fun v H1 ⟨d, S1, F1, as1, x1, s1, r1, q1⟩ =>
    ⟨F1, as1, ρ, S1, t.mo x1 s1, (After.bnd q1).imp fun vs H2 ⟨ds, S2, F2, as2, x2, s2, r2, q2⟩ => q2.now s2 (.cons (r1.mo x2.pre x2.ex) r2)⟩⟩
/-- a def that is called by the names of all its parameters, in their sequence -/
structure DefK (P : Program) (w : World) (K : PySem.W.Frag) (mg : Str → Option Value) (base : Heap) (Y : Yt) (k : Nat) (x : Str) (ks : List Str) (Mf : FA) : Prop where
  ex : ∃ f fd, mg x = some (.ref f) ∧ PySem.W.keepIn K (.ref f) = true ∧ FnG P w K mg base k f fd ks (spM Y ks.length Mf) ∧ ∀ (s : Shared) (us : List Value), us.length = ks.length → BindsTo s fd ⟨[], ks.zip us⟩ (ks.zip us)
theorem i_callK {ks : List Str} (G : DefK X.prog X.w X.K X.mg X.base Y k x ks Mf) (hr : Room k X.A) (o : On X Y) (hg : Gl X x) (ha : PK X kws (iA Y E0 mr)) (hlen : ∀ ρ S ds S1, mr ρ S = .ok ds S1 → ds.length = ks.length)
    (hall : (backToKw pos (keywordEach kws X.env)).all (·.1.isSome) = true := by rfl) (hks : (backToKw pos (keywordEach kws X.env)).filterMap (·.1) = ks := by rfl) (hdb : (x == ("__debug__" : Str)) = false := by decide)
    (hpl : ((backTo pos (starEach [] X.env)).any (·.1) || (backToKw pos (keywordEach kws X.env)).any (·.1.isNone)) = false := by rfl) : PE X (.Call (.Name x p) [] kws pos) (iE Y E0 (mA Mf mr)) := by
  obtain ⟨f, fd, hm, hk, F, hb⟩ := G.ex
  refine ⟨fun pins s σ H Q I ⟨Fh, as, ρ, S, t, q⟩ => ?_⟩
  have q' : After Y E0 (Rps Y) as Fh H (mr ρ S) fun vs H1 => spM Y ks.length Mf vs H1 Q E0 := by
    unfold mA at q
    cases hmr : mr ρ S with
    | stuck => rw [hmr] at q; exact q.elim
    | err y S1 => rw [hmr] at q; exact q
    | ok ds S1 =>
      rw [hmr] at q
      intro as' F' H' vs x s r
      exact ⟨F', as', S1, ds, s, r, hlen ρ S ds S1 hmr, After.weak x q⟩
  refine wpAny_Call_Name_kw (ld_glob I hg hm ?_ hdb)
  refine PySem.W.callWith_KW0 (h₀ := X.base) I.ok.mod.kin hk hall (thn (ha.run pos pins s σ H _ I ⟨Fh, as, ρ, S, t, q'⟩) fun us s1 ⟨vs, H1, I1, r, z⟩ => ⟨I1.kIn, ?_⟩) hpl
  rw [hks]
  have hl : us.length = ks.length := by rw [← r.length]; exact F.len _ _ _ _ z
  refine wpAny_call (codeAny_mono (F.run X.A X.stack s1 H1 ⟨[], ks.zip us⟩ us vs Q hr o.gd I1.env0 (hb s1 us hl) r z) fun y s' hq => ?_)
  cases y with
  | error _ => exact False.elim hq
  | ok fl => cases fl with
    | ret u => exact I1.after hq
    | _ => exact False.elim hq
end

/-! ### the law's end -/
section
variable {P : Program} {w : World} {K : PySem.W.Frag} {mg mb : Str → Option Value} {k : Nat} {fa a : Addr} {fd : FuncData} {x : Str} {sp : Sp} {s₁ : Shared} {vs : List Value} {ns : List Int}
/-- what the judge of a row wants behind the law's call -/
abbrev Wants (s₁ : Shared) (r : Result) (s' : Shared) : Prop := r = .ok (.ret (.bool true)) ∧ OldK s₁.heap s'.heap ∧ s'.os = s₁.os ∧ AllBare s'.gens
theorem lawG_at (hns : s₁.heap.Ns mainGlobals mg) (hb : s₁.heap.Ns builtinsNs mb) (hbb : ∀ x : Str, x ≠ "__name__" → mb x = bootBuiltins x) (hlim : s₁.heap.NoLimit) (hg : s₁.gens = #[]) (KX : K.In s₁.heap) (hr : Room k callerA)
    (ha : s₁.heap.get? a = some { cls := .type "list", data := .seq vs.toArray }) (hsd : SysD s₁.heap) (F : ∀ base : Heap, K.In base → base.Ns mainGlobals mg → SysD base → FnG P w K mg base k fa fd [x] sp) (hbind : ∀ (s : Shared) (u : Value), BindsTo s fd ⟨[u], []⟩ [(x, u)])
    (H : Hp) (hO : Only H) (hok : HOk P w H s₁.heap) (one : ∀ b, H b ≠ none → b = a) (hK : H a ≠ none → K.lookup a = none) (hsp : sp [.ref a] H (fun v _ => v = .bl true) E0) : codeAny (model P w) callerA (.call (.ref fa) ⟨[.ref a], []⟩) (Wants s₁) s₁ := by
  have tracked : ∀ {b : Addr} {u : HO}, H b = some u → b = a := fun {b u} e => one b (by rw [e]; exact nofun)
  -- the base: the heap without the script
  have dicts : ∀ {b : Addr} {o : Obj} {es : Array DictEntry} {ep : Nat}, s₁.heap.get? b = some o → o.data = .dict es ep → H b = none := fun {b o es ep} e d => by
    cases q : H b with
    | none => rfl
    | some u =>
      rw [tracked q, ha] at e
      cases e
      exact Data.noConfusion d
  have names : ∀ {b : Addr} {m : Str → Option Value}, s₁.heap.Ns b m → (hidT s₁.heap H).Ns b m := fun {b m} ⟨o, es, ep, e, d, z⟩ => ⟨o, es, ep, hidT_get e (dicts e d), d, z⟩
  have written : K.In (hidT s₁.heap H) := fun b o e => hidT_get (KX b o e) (by
    cases q : H b with
    | none => rfl
    | some u =>
      have e2 := hK (by rw [← tracked q, q]; exact nofun)
      rw [← tracked q, e] at e2
      cases e2)
  obtain ⟨mc, l1, l2⟩ := hlim
  have md : Mod K mg (hidT s₁.heap H) := ⟨written, names hns, ⟨mb, names hb, hbb⟩, ⟨mc, names l1, l2⟩⟩
  have none0 : ∀ b ∈ frs ([] : List Env), H b = none := fun b z => nomatch (show b ∈ ([] : List Addr) from z)
  have e0 : Env0 P w K mg (hidT s₁.heap H) callerA [] s₁ H := ⟨rfl, md, fun b o e => of_hidT e, Nat.le_of_eq (hidT_size _ _), trivial, none0, hok, .of_eq hg⟩
  refine codeAny_mono ((F _ written (names hns) (hsd.imp fun _ z => names z)).run callerA [] s₁ H ⟨[.ref a], []⟩ [.ref a] [.ref a] _ hr rfl e0 (hbind s₁ (.ref a)) (.cons rfl .nil) hsp) fun r s' h => ?_
  cases r with
  | error _ => exact False.elim h
  | ok fl => cases fl with
    | ret u =>
      obtain ⟨v, H', os, bare, un, hok', rv, rfl⟩ := h
      cases rv
      refine ⟨rfl, OldK.of_keep fun b o e => ?_, os, bare⟩
      cases q : H b with
      | none => exact un.keep b o e q (fun z => nomatch (show b ∈ ([] : List Addr) from z)) (by simp)
      | some u =>
        rcases hO b with z | ⟨ob, xs, z⟩
        · rw [q] at z; cases z
        · have g1 := (hok b _ z).1
          have g2 := (hok' b _ (un.frzs b ob _ z)).1
          rw [e] at g1
          cases g1
          exact g2
    | _ => exact False.elim h
theorem lawG_call (hns : s₁.heap.Ns mainGlobals mg) (hb : s₁.heap.Ns builtinsNs mb) (hbb : ∀ x : Str, x ≠ "__name__" → mb x = bootBuiltins x) (hlim : s₁.heap.NoLimit) (hg : s₁.gens = #[]) (KX : K.In s₁.heap) (hr : Room k callerA)
    (ha : s₁.heap.get? a = some { cls := .type "list", data := .seq vs.toArray }) (hi : IntsAre vs ns) (hl : ns.length ≤ sizeLine) (hsd : SysD s₁.heap) (F : ∀ base : Heap, K.In base → base.Ns mainGlobals mg → SysD base → FnG P w K mg base k fa fd [x] sp) (hbind : ∀ (s : Shared) (u : Value), BindsTo s fd ⟨[u], []⟩ [(x, u)])
    (hsp : ∀ H : Hp, Only H → SqL K H a (ns.map V.int) → sp [.ref a] H (fun v _ => v = .bl true) E0) : codeAny (model P w) callerA (.call (.ref fa) ⟨[.ref a], []⟩) (Wants s₁) s₁ := by
  have rv := vals_ints hi
  cases hk : K.lookup a with
  | none =>
    -- the script alone is tracked, locked
    have at1 : ∀ b, (if b = a then some (HO.frz { cls := .type "list", data := .seq vs.toArray } (.lst (ns.map V.int))) else none) ≠ none → b = a := fun b z => by
      by_cases e : b = a
      · exact e
      · rw [if_neg e] at z; exact absurd rfl z
    refine lawG_at hns hb hbb hlim hg KX hr ha hsd F hbind (fun b => if b = a then some (HO.frz { cls := .type "list", data := .seq vs.toArray } (.lst (ns.map V.int))) else none) (fun b => ?_) (fun b u z => ?_) at1 (fun _ => hk) (hsp _ (fun b => ?_) (.inl (.inr ⟨_, if_pos rfl⟩)))
    · by_cases e : b = a
      · exact .inr ⟨_, _, if_pos e⟩
      · exact .inl (if_neg e)
    · have e := at1 b (fun y => by rw [show (if b = a then some (HO.frz { cls := .type "list", data := .seq vs.toArray } (.lst (ns.map V.int))) else none) = some u from z] at y; cases y)
      subst e
      have z2 := (if_pos rfl).symm.trans z
      cases z2
      exact ⟨ha, by rw [List.length_map]; exact hl, vs, _, rv, ha⟩
    · by_cases e : b = a
      · exact .inr ⟨_, _, if_pos e⟩
      · exact .inl (if_neg e)
  | some o =>
    have e := KX a o hk
    rw [ha] at e
    cases e
    refine lawG_at hns hb hbb hlim hg KX hr ha hsd F hbind (fun _ => none) (fun _ => .inl rfl) (fun b u z => nomatch (show (none : Option HO) = some u from z)) (fun b z => absurd rfl z) (fun z => absurd rfl z) (hsp _ (fun _ => .inl rfl) (.inr ⟨_, vs.toArray, _, hk, rfl, rfl, rfl, ?_, by simpa using rv⟩))
    rw [List.size_toArray, hi.length]
    exact hl
end
theorem walkG {l : PySem.W.OpenLaw} {n k : Nat} {q : Program} {loose : List Str} {XP : (Str → Option Value) → Heap → Prop} {YP : World → Heap → Prop} {d : DefRec} {K : Params → PySem.W.Frag} {sp : World → Sp} {x : Str} (hn : l.most = some n) (hn2 : n ≤ sizeLine) (hdf : d.params.defaults = []) (hr : Room k callerA) (hi : importsNone q = true)
    (hY : ∀ (w : World) (h : Heap), YP w h → (K w.params).In h)
    (F : ∀ (w : World) (mg : Str → Option Value) (fa : Addr) (h : Heap), (K w.params).In h → h.Ns mainGlobals mg → mg d.name = some (.ref fa) →
      ∃ fd : FuncData, (∀ (s : Shared) (u : Value), BindsTo s fd ⟨[u], []⟩ [(x, u)]) ∧ ∀ base : Heap, (K w.params).In base → base.Ns mainGlobals mg → SysD base → FnG l.prog w (K w.params) mg base k fa fd [x] (sp w))
    (hsp : ∀ (w : World) (H : Hp) (a : Addr) (ns : List Int), ns.length ≤ n → Only H → SqL (K w.params) H a (ns.map V.int) → sp w [.ref a] H (fun v _ => v = .bl true) E0) : PySem.W.WalkO q loose XP YP l.row.toRowW d [] (fun f vs => PySem.call f vs) := by
  refine Att.attach_call hn hdf fun w s₀ s₁ mg mb fa o pm cd doc a vs ns G Y ho hd hcd hmg hobj hints hlen hg => ?_
  obtain ⟨fd, hb, hF⟩ := F w mg fa _ (hY w _ Y) G.T.g hmg
  exact lawG_call G.T.g G.T.b G.T.builtins G.T.nolimit hg (hY w _ Y) hr hobj hints (Nat.le_trans hlen hn2) ((G.T.seer hi).mods.imp fun _ z => z.1) hF hb fun H h1 h2 => hsp w H a ns hlen h1 h2
/-- the script as data -/
theorem script_rp {Y : Yt} {H : Hp} {a : Addr} {ns : List Int} (h : SqL Y.K H a (ns.map V.int)) : ∃ F, StR Y H F [] [] ∧ Rps Y [] F [.fro (ns.map D.int)] [.ref a] := by
  refine ⟨fun b => if b = a then H a else none, ⟨fun b o e => ⟨by simp, ?_⟩, rfl, .nil, fun n b d e => by simp at e⟩, .cons (.fro (vs := ns.map V.int) ?_ (ints_rp ns)) .nil⟩
  · by_cases z : b = a
    · subst z
      have e2 : (if b = b then H b else none) = some o := e
      rwa [if_pos rfl] at e2
    · have e2 : (if b = a then H a else none) = some o := e
      rw [if_neg z] at e2
      cases e2
  · rcases h with (h | ⟨o, h⟩) | h
    · exact .inl (.inl (by show (if a = a then H a else none) = _; rw [if_pos rfl]; exact h))
    · exact .inl (.inr ⟨o, by show (if a = a then H a else none) = _; rw [if_pos rfl]; exact h⟩)
    · exact .inr h
end Rf

set_option Elab.async false
set_option linter.all false
set_option maxRecDepth 100000
/-! R13: signs, {}, several targets at once, constants, by data. -/
namespace Rf
open PySem L2 PyProof.Rows
section
variable {X : Cx} {Y : Yt} {E : XK} {pos : Pos} {a : Expr} {m : M} {es : List Expr} {mr : Rho → Sto → Res (List D)}
def dNeg : D → Sto → Res D := fun x S => match x with
  | .int i => .ok (.int (-i)) S
  | _ => .stuck
theorem i_neg (h : PE X a (iE Y E m)) : PE X (.UnaryOp .USub a pos) (iE Y E (mU dNeg m)) := PE_imp (pe_un un_neg h) fun σ H Q ⟨F, as, ρ, S, t, q⟩ => ⟨F, as, ρ, S, t, (After.bnd q).imp fun v H1 ⟨d, S1, F1, as1, x1, s1, r1, q1⟩ => by
  cases r1 with
  | int i => exact ⟨i, rfl, q1.now s1 (.int _)⟩
  | _ => exact q1.elim⟩
def mDict0 : M := fun _ S => .ok (.dk []) S
theorem i_dict0 : PE X (.Dict [] [] pos) (iE Y E mDict0) := PE_imp pe_dnewK fun σ H Q ⟨F, as, ρ, S, t, q⟩ p hp => by
  have x := Xt.new (o := .dK []) t.st hp
  exact q as _ _ _ x (t.st.new hp) (.dk (ws := []) (kvs := []) (vs := []) upd_same rfl rfl .nil)
def mDict0C : M := fun _ S => .ok (.loc S.length) (S ++ [.dk []])
theorem i_dict0C : PE X (.Dict [] [] pos) (iE Y E mDict0C) := PE_imp pe_dnewK fun σ H Q ⟨F, as, ρ, S, t, q⟩ p hp => by
  have x := Xt.cell (o := .dK []) t.st hp
  have e : (as ++ [p])[S.length]? = some p := by rw [← t.st.len]; simp
  exact q (as ++ [p]) _ _ _ x (t.st.cell hp ⟨[], upd_same, rfl, .nil⟩) (.loc e)
/-- a, b = x, y with plain names -/
def sPar (is : List Nat) (mr : Rho → Sto → Res (List D)) : MS := fun ρ S => (mr ρ S).out fun ds S1 => if ds.length = is.length then .nx ((is.zip ds).foldl (fun r p => r.set p.1 (some p.2)) ρ) S1 else .stuck
theorem is_par2 {i j : Nat} {x y : Str} {b : Expr} {px py pt pt2 : Pos} {kt k2 : Nat} (hc : X.calm = true) (hN : X.N.Nodup) (hi : X.N[i]? = some x) (hj : X.N[j]? = some y) (hij : i ≠ j) (hx : X.env.scope.names.lookup x = some .local) (hy : X.env.scope.names.lookup y = some .local) (ha : PA X [a, b] (iA Y E mr))
    (hw : swappedStores [.Tuple [.Name x px, .Name y py] kt pt] (.Tuple [a, b] k2 pt2) X.env = pure (some [x, y])) (hs : swapsWithSole [.Tuple [.Name x px, .Name y py] kt pt] (.Tuple [a, b] k2 pt2) pos.line X.env = pure false := by rfl) :
    PS X (.Assign [.Tuple [.Name x px, .Name y py] kt pt] (.Tuple [a, b] k2 pt2) pos) (iS Y E (sPar [i, j] mr)) := PS_imp (ps_par hc hN hi hj hij hx hy ha hw hs) fun Dn σ H ⟨F, as, ρ, S, t, q⟩ => ⟨F, as, ρ, S, t, (After.out q).imp fun vs H1 ⟨ds, S1, F1, as1, x1, s1, r1, q1⟩ => by
  split at q1
  · rename_i hl
    cases r1 with
    | nil => cases hl
    | cons h1 r2 => cases r2 with
      | nil => cases hl
      | cons h2 r3 => cases r3 with
        | cons _ _ => simp at hl
        | nil => exact ⟨_, _, rfl, q1 as1 F1 H1 _ (Xt.refl _ _ _) s1 (((t.fr.mo x1).set h1).set h2)⟩
  · exact q1.elim⟩
theorem is_par3 {i j l : Nat} {x y z : Str} {b c : Expr} {px py pz pt pt2 : Pos} {kt k2 : Nat} (hc : X.calm = true) (hN : X.N.Nodup) (hi : X.N[i]? = some x) (hj : X.N[j]? = some y) (hl : X.N[l]? = some z) (hij : i ≠ j) (hil : i ≠ l) (hjl : j ≠ l) (hx : X.env.scope.names.lookup x = some .local) (hy : X.env.scope.names.lookup y = some .local) (hz : X.env.scope.names.lookup z = some .local) (ha : PA X [a, b, c] (iA Y E mr))
    (hw : swappedStores [.Tuple [.Name x px, .Name y py, .Name z pz] kt pt] (.Tuple [a, b, c] k2 pt2) X.env = pure (some [x, y, z])) (hs : swapsWithSole [.Tuple [.Name x px, .Name y py, .Name z pz] kt pt] (.Tuple [a, b, c] k2 pt2) pos.line X.env = pure false := by rfl) :
    PS X (.Assign [.Tuple [.Name x px, .Name y py, .Name z pz] kt pt] (.Tuple [a, b, c] k2 pt2) pos) (iS Y E (sPar [i, j, l] mr)) := PS_imp (ps_par3 hc hN hi hj hl hij hil hjl hx hy hz ha hw hs) fun Dn σ H ⟨F, as, ρ, S, t, q⟩ => ⟨F, as, ρ, S, t, (After.out q).imp fun vs H1 ⟨ds, S1, F1, as1, x1, s1, r1, q1⟩ => by
  split at q1
  · rename_i hl
    cases r1 with
    | nil => cases hl
    | cons h1 r2 => cases r2 with
      | nil => cases hl
      | cons h2 r3 => cases r3 with
        | nil => cases hl
        | cons h3 r4 => cases r4 with
          | cons _ _ => simp at hl
          | nil => exact ⟨_, _, _, rfl, q1 as1 F1 H1 _ (Xt.refl _ _ _) s1 ((((t.fr.mo x1).set h1).set h2).set h3)⟩
  · exact q1.elim⟩
end
end Rf

set_option Elab.async false
set_option linter.all false
set_option maxRecDepth 100000
/-! R14: short words for derivations. -/
namespace Rf
open PySem L2
section
variable {X : Cx} {Y : Yt} {E : XK}
theorem on_blk {s : Shared} {H : Hp} {scope : Scope} {cenv : Env} {fp : List Addr} (o : On X Y) : On (X.blk s H scope cenv fp) Y := ⟨o.K, o.w, o.hu, o.hd, o.calm, o.gd, o.sm⟩
theorem oo_eq (o : On X Y) : OpR X (compareOp .Eq) (rD2 Y E dEq) := o_eq o.K (by have := o.hu; omega)
theorem oo_ne (o : On X Y) : OpR X (compareOp .NotEq) (rD2 Y E dNe) := o_ne o.K (by have := o.hu; omega)
theorem oo_in (o : On X Y) : OpR X (compareOp .In) (rD2 Y E dIn) := o_in o.K (by have := o.hu; omega)
theorem oo_notIn (o : On X Y) : OpR X (compareOp .NotIn) (rD2 Y E dNotIn) := o_notIn o.K (by have := o.hu; omega)
variable {x : Str} {pos : Pos}
theorem i_ty (n : String) (hg : Gl X x) (hm : X.mg x = none) (hv : bootBuiltins x = some (.type n)) (hn : x ≠ "__name__" := by decide) (hd : (x == ("__debug__" : Str)) = false := by decide) : PE X (.Name x pos) (iE Y E (mC (.ty n))) :=
  i_c (pe_bltn (v := .ty n) hg hm hv rfl hn hd) fun _ _ => .ty n
theorem i_gint {i : Int} {t : Tok} (hg : Gl X x) (hm : X.mg x = some (.int i t)) (hd : (x == ("__debug__" : Str)) = false := by decide) : PE X (.Name x pos) (iE Y E (mC (.int i))) :=
  i_c (pe_glob (v := .int i) hg hm ⟨_, rfl⟩ hd) fun _ _ => .int i
theorem i_gstr {z : Str} {t : Tok} (hg : Gl X x) (hm : X.mg x = some (.str z t)) (hd : (x == ("__debug__" : Str)) = false := by decide) : PE X (.Name x pos) (iE Y E (mC (.str z))) :=
  i_c (pe_glob (v := .str z) hg hm ⟨_, rfl⟩ hd) fun _ _ => .str z
end
end Rf

set_option Elab.async false
set_option linter.all false
set_option maxRecDepth 100000
/-! R15: values by plain data; comprehensions and loops without effects. -/
namespace Rf
open PySem L2
mutual
def ofP : PyData → D
  | .none => .non
  | .bool b => .bl b
  | .int i => .int i
  | .str x => .str x
  | .list ps => .lst (ofPs ps)
  | .tuple ps => .tup (ofPs ps)
  | .dict _ => .dk []
def ofPs : List PyData → List D
  | [] => []
  | p :: ps => ofP p :: ofPs ps
end
theorem ofPs_map : ∀ ps : List PyData, ofPs ps = ps.map ofP
  | [] => rfl
  | p :: ps => by rw [ofPs, ofPs_map ps]; rfl
mutual
/-- how far it goes down, and along -/
def wt : PyData → Nat
  | .list ps => 1 + wts ps
  | .tuple ps => 1 + wts ps
  | .none => 1
  | .bool _ => 1
  | .int _ => 1
  | .str _ => 1
  | .dict _ => 1
def wts : List PyData → Nat
  | [] => 1
  | p :: ps => 1 + max (wt p) (wts ps)
end
mutual
/-- no dict but {} -/
def noKv : PyData → Bool
  | .list ps => noKvs ps
  | .tuple ps => noKvs ps
  | .dict kvs => kvs.isEmpty
  | .none => true
  | .bool _ => true
  | .int _ => true
  | .str _ => true
def noKvs : List PyData → Bool
  | [] => true
  | p :: ps => noKv p && noKvs ps
end
mutual
theorem toP_of (S : Sto) : ∀ (n : Nat) (p : PyData), wt p ≤ n → noKv p = true → toP S n (ofP p) = some p
  | 0, p, h, _ => by cases p <;> simp [wt] at h
  | n + 1, .none, _, _ => by simp [ofP, toP]
  | n + 1, .bool b, _, _ => by simp [ofP, toP]
  | n + 1, .int i, _, _ => by simp [ofP, toP]
  | n + 1, .str x, _, _ => by simp [ofP, toP]
  | n + 1, .dict kvs, _, k => by
    cases kvs with
    | nil => simp [ofP, toP]
    | cons a b => simp [noKv] at k
  | n + 1, .list ps, h, k => by
    rw [ofP, toP, toPs_of S n ps (by rw [wt] at h; omega) (by rw [noKv] at k; exact k)]
    rfl
  | n + 1, .tuple ps, h, k => by
    rw [ofP, toP, toPs_of S n ps (by rw [wt] at h; omega) (by rw [noKv] at k; exact k)]
    rfl
theorem toPs_of (S : Sto) : ∀ (n : Nat) (ps : List PyData), wts ps ≤ n → noKvs ps = true → toPs S n (ofPs ps) = some ps
  | 0, ps, h, _ => by cases ps <;> simp [wts] at h
  | n + 1, [], _, _ => by simp [ofPs, toPs]
  | n + 1, p :: ps, h, k => by
    rw [wts] at h
    rw [noKvs, Bool.and_eq_true] at k
    rw [ofPs, toPs, toP_of S n p (by omega) k.1, toPs_of S n ps (by omega) k.2]
end
/-- what repr takes, with bounds: how far, how deep, how much -/
def fin3 (w d b : Nat) (p : PyData) : Bool := noKv p && p.showable && p.leavesShort 13 && decide (wt p ≤ w) && decide (p.depth ≤ d) && decide (p.bulk ≤ b)
theorem fin3_iff {w d b : Nat} {p : PyData} : fin3 w d b p = true ↔ noKv p = true ∧ p.showable = true ∧ p.leavesShort 13 = true ∧ wt p ≤ w ∧ p.depth ≤ d ∧ p.bulk ≤ b := by
  simp only [fin3, Bool.and_eq_true, decide_eq_true_eq, and_assoc]
theorem fin3_up {w d b w' d' b' : Nat} {p : PyData} (h : fin3 w d b p = true) (h1 : w ≤ w') (h2 : d ≤ d') (h3 : b ≤ b') : fin3 w' d' b' p = true := by
  rw [fin3_iff] at h ⊢
  obtain ⟨k1, k2, k3, k4, k5, k6⟩ := h
  exact ⟨k1, k2, k3, by omega, by omega, by omega⟩
theorem finAll {w d b : Nat} : ∀ {ps : List PyData}, (∀ p ∈ ps, fin3 w d b p = true) → noKvs ps = true ∧ PyData.showableAll ps = true ∧ PyData.leavesShortAll 13 ps = true ∧ wts ps ≤ w + ps.length + 1 ∧ PyData.depthAll ps ≤ d ∧ PyData.bulkAll ps ≤ ps.length * (b + 1)
  | [], _ => by simp [noKvs, PyData.showableAll, PyData.leavesShortAll, wts, PyData.depthAll, PyData.bulkAll]
  | p :: ps, h => by
    obtain ⟨a1, a2, a3, a4, a5, a6⟩ := finAll (ps := ps) fun q hq => h q (List.mem_cons_of_mem _ hq)
    obtain ⟨k1, k2, k3, k4, k5, k6⟩ := fin3_iff.mp (h p (List.mem_cons_self ..))
    refine ⟨by rw [noKvs, k1, a1]; rfl, by rw [PyData.showableAll, k2, a2]; rfl, by rw [PyData.leavesShortAll, k3, a3]; rfl, ?_, ?_, ?_⟩
    · rw [wts, List.length_cons]; omega
    · rw [PyData.depthAll]; omega
    · rw [PyData.bulkAll, List.length_cons, Nat.succ_mul]; omega
theorem fin_tup {w d b l : Nat} {ps : List PyData} (h : ∀ p ∈ ps, fin3 w d b p = true) (hl : ps.length ≤ l) : fin3 (w + l + 2) (d + 1) (l * (b + 1)) (.tuple ps) = true := by
  obtain ⟨a1, a2, a3, a4, a5, a6⟩ := finAll h
  have := Nat.mul_le_mul_right (b + 1) hl
  refine fin3_iff.mpr ⟨by rw [noKv]; exact a1, by rw [PyData.showable]; exact a2, by rw [PyData.leavesShort]; exact a3, by rw [wt]; omega, by rw [PyData.depth]; omega, by rw [PyData.bulk]; omega⟩
theorem fin_lst' {w d b l : Nat} {ps : List PyData} (h : ∀ p ∈ ps, fin3 w d b p = true) (hl : ps.length ≤ l) : fin3 (w + l + 2) (d + 1) (l * (b + 1)) (.list ps) = true := by
  obtain ⟨a1, a2, a3, a4, a5, a6⟩ := finAll h
  have := Nat.mul_le_mul_right (b + 1) hl
  refine fin3_iff.mpr ⟨by rw [noKv]; exact a1, by rw [PyData.showable]; exact a2, by rw [PyData.leavesShort]; exact a3, by rw [wt]; omega, by rw [PyData.depth]; omega, by rw [PyData.bulk]; omega⟩
/-- repr of plain data -/
theorem repr_of {S : Sto} {p : PyData} (h : fin3 200 100 60000 p = true) : bRepr [ofP p] S = .ok (.str p.shown) S := by
  obtain ⟨k1, k2, k3, k4, k5, k6⟩ := fin3_iff.mp h
  have hs := PyData.shown_le_bulk 13 (by decide) p k3
  have hf : few p.shown.length = true := decide_eq_true (by omega)
  simp only [bRepr, rpP, toP_of S deep p k4 k1, k2, hf, decide_eq_true k5, Bool.and_self, if_true]
/-- what == takes -/
def eqP (p : PyData) : Bool := noKv p && decide (wt p ≤ 200) && SeqAt.shaped p
theorem shP_of {S : Sto} {p : PyData} (h : eqP p = true) : shP S (ofP p) = some p := by
  simp only [eqP, Bool.and_eq_true, decide_eq_true_eq] at h
  simp only [shP, toP_of S deep p h.1.2 h.1.1, h.2, if_true]
theorem shP_str {S : Sto} {x : Str} (h : PyData.strOk x = true) : shP S (.str x) = some (.str x) := shP_of (p := .str x) (by simp [eqP, noKv, wt, SeqAt.shaped, PyData.canLay0, h, PyData.depth])
/-! ### comprehensions and loops without effects -/
theorem lcL_pure {g : MG} {mt : MT} {me : M} {ρ0 : Rho} {S : Sto} {f : D → D} : ∀ {ds acc : List D}, (∀ d ∈ ds, ∃ ρ1, g d ρ0 S = some (ρ1, S) ∧ mt ρ1 S = .ok true S ∧ me ρ1 S = .ok (f d) S) → acc.length + ds.length ≤ 1000000 →
    lcL free g mt me ρ0 ds acc S = .ok (acc ++ ds.map f) S
  | [], acc, _, _ => by simp [lcL, free]
  | d :: ds, acc, h, hl => by
    obtain ⟨ρ1, h1, h2, h3⟩ := h d (List.mem_cons_self ..)
    rw [List.length_cons] at hl
    have ih := lcL_pure (f := f) (ds := ds) (acc := acc ++ [f d]) (fun e he => h e (List.mem_cons_of_mem _ he)) (by rw [List.length_append]; simp; omega)
    simp only [lcL, free, h1, optR, h2, Res.thn, h3, show acc.length < 1000000 by omega, and_self, if_true]
    show lcL free g mt me ρ0 ds (acc ++ [f d]) S = _
    rw [ih, List.map_cons, List.append_assoc]
    rfl
theorem bools_map {α : Type} {p : α → Bool} {f : α → D} (h : ∀ a, f a = .bl (p a)) : ∀ ds : List α, bools (ds.map f) = some (ds.map p)
  | [] => rfl
  | d :: ds => by rw [List.map_cons, h d, bools, bools_map h ds]; rfl
/-- all of a comprehension without effects -/
theorem all_lc {mi : MI} {g : MG} {me : M} {vs : List Nat} {ρ : Rho} {S : Sto} {items : List D} (p : D → Bool) (hi : mi ρ S = .ok ⟨items, free⟩ S) (hl : items.length ≤ 1000000)
    (h : ∀ d ∈ items, ∃ ρ1, g d (wipeR ρ vs) S = some (ρ1, S) ∧ me ρ1 S = .ok (.bl (p d)) S) :
    mA (bAllAny fun bs => bs.all id) (mCons (mLc mi g mYes me vs) mNil) ρ S = .ok (.bl (items.all p)) S := by
  have e := lcL_pure (g := g) (mt := mYes) (me := me) (ρ0 := wipeR ρ vs) (S := S) (f := fun d => .bl (p d)) (ds := items) (acc := []) (fun d hd => by
    obtain ⟨ρ1, h1, h2⟩ := h d hd
    exact ⟨ρ1, h1, rfl, h2⟩) (by simpa using hl)
  simp only [mA, mCons, mNil, mLc, hi, bndI, e, Res.thn, Res.bnd, List.nil_append, bAllAny, bools_map (p := p) (f := fun d => D.bl (p d)) (fun _ => rfl)]
  congr 2
  rw [List.all_map]
  rfl
/-- a loop without effects, that returns where something fails -/
theorem forL_pure {g : MG} {b : MS} {S : Sto} {p : D → Bool} {r : D} (R : Rho → Prop) : ∀ {ds : List D} {ρ : Rho}, R ρ → (∀ d ∈ ds, ∀ ρ, R ρ → ∃ ρ1, g d ρ S = some (ρ1, S) ∧ R ρ1 ∧ b ρ1 S = if p d = true then .nx ρ1 S else .rt r S) →
    ∃ ρ1, R ρ1 ∧ forL free g b ds ρ S = if ds.all p = true then .nx ρ1 S else .rt r S
  | [], ρ, h, _ => ⟨ρ, h, by simp [forL, free]⟩
  | d :: ds, ρ, h, k => by
    obtain ⟨ρ1, h1, h2, h3⟩ := k d (List.mem_cons_self ..) ρ h
    obtain ⟨ρ2, h4, h5⟩ := forL_pure (g := g) (b := b) (p := p) (r := r) R (ds := ds) h2 fun e he => k e (List.mem_cons_of_mem _ he)
    refine ⟨ρ2, h4, ?_⟩
    simp only [forL, free, if_true, h1, stepL, h3, List.all_cons]
    by_cases hp : p d = true
    · simp only [hp, if_true, turnL, Bool.true_and]; exact h5
    · simp [hp, turnL]
/-! ### ascending whole numbers -/
def asc : List Int → Bool
  | [] => true
  | [_] => true
  | x :: y :: ys => decide (x < y) && asc (y :: ys)
theorem asc_pw : ∀ {xs : List Int}, asc xs = true ↔ xs.Pairwise (· < ·)
  | [] => by simp [asc]
  | [x] => by simp [asc]
  | x :: y :: ys => by
    have ih := asc_pw (xs := y :: ys)
    rw [asc, Bool.and_eq_true, decide_eq_true_eq, ih, List.pairwise_cons (l := y :: ys)]
    constructor
    · rintro ⟨h1, h2⟩
      refine ⟨fun z hz => ?_, h2⟩
      rcases List.mem_cons.mp hz with e | hz
      · rw [e]; exact h1
      · exact Int.lt_trans h1 ((List.pairwise_cons.mp h2).1 z hz)
    · rintro ⟨h1, h2⟩
      exact ⟨h1 y (List.mem_cons_self ..), h2⟩
theorem asc_srt {xs : List Int} : xs = srtI xs ↔ asc xs = true := by
  rw [asc_pw]
  constructor
  · intro h
    rw [h]
    exact pw_srtI
  · intro h
    exact pw_uniq h pw_srtI fun k => mem_srtI.symm
theorem asc_at : ∀ {xs : List Int}, asc xs = (List.range (xs.length - 1)).all fun i => decide (xs.getD i 0 < xs.getD (i + 1) 0)
  | [] => rfl
  | [_] => rfl
  | x :: y :: ys => by
    have ih := asc_at (xs := y :: ys)
    rw [asc, ih]
    simp only [List.length_cons, Nat.add_sub_cancel]
    rw [List.range_succ_eq_map, List.all_cons, List.all_map]
    rfl
/-! ### lists of whole numbers as data -/
theorem intsOf_map : ∀ ns : List Int, intsOf (ns.map D.int) = some ns
  | [] => rfl
  | n :: ns => by rw [List.map_cons, intsOf, intsOf_map ns]; rfl
theorem len_insI {x : Int} : ∀ {ys : List Int}, (insI x ys).length ≤ ys.length + 1
  | [] => by simp [insI]
  | y :: ys => by
    unfold insI
    split
    · simp
    · split
      · simp
      · have := len_insI (x := x) (ys := ys)
        simp only [List.length_cons]
        omega
theorem len_srtI : ∀ {xs : List Int}, (srtI xs).length ≤ xs.length
  | [] => Nat.le_refl _
  | x :: xs => by
    have h1 := len_insI (x := x) (ys := srtI xs)
    have h2 := len_srtI (xs := xs)
    rw [srtI, List.length_cons]
    omega
theorem ints_all : ∀ ns : List Int, noKvs (ns.map PyData.int) = true ∧ PyData.canLayAll0 (ns.map PyData.int) = true ∧ PyData.depthAll (ns.map PyData.int) = 0 ∧ wts (ns.map PyData.int) ≤ ns.length + 2
  | [] => by simp [noKvs, PyData.canLayAll0, PyData.depthAll, wts]
  | n :: ns => by
    obtain ⟨h1, h2, h3, h4⟩ := ints_all ns
    refine ⟨?_, ?_, ?_, ?_⟩
    · rw [List.map_cons, noKvs, h1]; rfl
    · rw [List.map_cons, PyData.canLayAll0, h2]; simp [PyData.canLay0]
    · rw [List.map_cons, PyData.depthAll, h3]; simp [PyData.depth]
    · rw [List.map_cons, wts, List.length_cons]; simp only [wt]; omega
theorem sh_ints {S : Sto} {ns : List Int} (h : ns.length ≤ 60) : shP S (.lst (ns.map D.int)) = some (.list (ns.map .int)) := by
  obtain ⟨h1, h2, h3, h4⟩ := ints_all ns
  have e : ofP (.list (ns.map .int)) = .lst (ns.map D.int) := by rw [ofP, ofPs_map, List.map_map]; rfl
  rw [← e]
  refine shP_of ?_
  have h5 : 1 + wts (ns.map PyData.int) ≤ 200 := by omega
  simp [eqP, noKv, h1, wt, SeqAt.shaped, PyData.canLay0, h2, PyData.depth, h3, h5]
theorem eqv_ints : ∀ {xs ys : List Int}, PyData.eqvAll (xs.map .int) (ys.map .int) = decide (xs = ys)
  | [], [] => rfl
  | [], _ :: _ => rfl
  | _ :: _, [] => rfl
  | x :: xs, y :: ys => by
    rw [List.map_cons, List.map_cons, PyData.eqvAll, eqv_ints (xs := xs) (ys := ys)]
    show ((x == y) && decide (xs = ys)) = _
    by_cases h1 : x = y
    · by_cases h2 : xs = ys
      · simp [h1, h2]
      · simp [h1, h2]
    · simp [h1]
/-- list(t) != sorted(set(t)) -/
theorem ne_srt {S : Sto} {ns : List Int} (h : ns.length ≤ 60) : neD S (.lst (ns.map D.int)) (.lst ((srtI ns).map D.int)) = some (!asc ns) := by
  have h2 := len_srtI (xs := ns)
  simp only [neD, sh_ints h, sh_ints (show (srtI ns).length ≤ 60 by omega)]
  simp only [PyData.eqv, eqv_ints]
  congr 2
  by_cases h3 : asc ns = true
  · rw [h3]; exact decide_eq_true (asc_srt.mpr h3)
  · simp only [Bool.not_eq_true] at h3
    rw [h3]
    exact decide_eq_false fun e => by rw [asc_srt.mp e] at h3; cases h3
theorem sh_int {S : Sto} {i : Int} : shP S (.int i) = some (.int i) := shP_of (p := .int i) rfl
theorem ne_nat {S : Sto} {a : Nat} {b : Nat} : neD S (.int (a : Int)) (.int (b : Int)) = some (!decide (a = b)) := by
  simp only [neD, sh_int, PyData.eqv]
  congr 2
  by_cases h : a = b
  · simp [h]
  · rw [decide_eq_false h]
    exact beq_false_of_ne fun z => h (by omega)
end Rf

set_option Elab.async false
set_option linter.all false
set_option maxRecDepth 100000
/-! R16: loops with an invariant; texts that are the same. -/
namespace Rf
open PySem L2
theorem forL_inv {g : MG} {b : MS} (R : Rho → Sto → Prop) : ∀ {ds : List D} {ρ : Rho} {S : Sto}, R ρ S → (∀ d ∈ ds, ∀ ρ S, R ρ S → ∃ ρ1 S1 ρ2 S2, g d ρ S = some (ρ1, S1) ∧ b ρ1 S1 = .nx ρ2 S2 ∧ R ρ2 S2) →
    ∃ ρ' S', R ρ' S' ∧ forL free g b ds ρ S = .nx ρ' S'
  | [], ρ, S, h, _ => ⟨ρ, S, h, by simp [forL, free]⟩
  | d :: ds, ρ, S, h, k => by
    obtain ⟨ρ1, S1, ρ2, S2, h1, h2, h3⟩ := k d (List.mem_cons_self ..) ρ S h
    obtain ⟨ρ3, S3, h4, h5⟩ := forL_inv (g := g) (b := b) R (ds := ds) h3 fun e he => k e (List.mem_cons_of_mem _ he)
    refine ⟨ρ3, S3, h4, ?_⟩
    simp only [forL, free, if_true, h1, stepL, h2, turnL]
    exact h5
/-- a loop that changes no cell -/
theorem forL_all {g : MG} {b : MS} {S : Sto} (R : Rho → Prop) {ds : List D} {ρ : Rho} (h : R ρ) (k : ∀ d ∈ ds, ∀ ρ, R ρ → ∃ ρ1 ρ2, g d ρ S = some (ρ1, S) ∧ b ρ1 S = .nx ρ2 S ∧ R ρ2) :
    ∃ ρ', R ρ' ∧ forL free g b ds ρ S = .nx ρ' S := by
  obtain ⟨ρ', S', ⟨h1, h2⟩, h3⟩ := forL_inv (g := g) (b := b) (fun ρ S' => R ρ ∧ S' = S) (ds := ds) (ρ := ρ) (S := S) ⟨h, rfl⟩ fun d hd ρ S' hr => by
    obtain ⟨hr, rfl⟩ := hr
    obtain ⟨ρ1, ρ2, h1, h2, h3⟩ := k d hd ρ hr
    exact ⟨ρ1, _, ρ2, _, h1, h2, h3, rfl⟩
  subst h2
  exact ⟨ρ', h1, h3⟩
/-- turns that all say yes -/
theorem lcL_yes {g : MG} {mt : MT} {me : M} {ρ0 : Rho} (I : Nat → Sto → Prop) {N : Nat} (step : ∀ n S, n < N → I n S → ∃ S', I (n + 1) S' ∧ ∀ d, ∃ ρ1, g d ρ0 S = some (ρ1, S) ∧ mt ρ1 S = .ok true S ∧ me ρ1 S = .ok (.bl true) S') :
    ∀ {ds acc : List D} {n : Nat} {S : Sto}, I n S → n + ds.length ≤ N → acc.length + ds.length ≤ 1000000 → ∃ S', I (n + ds.length) S' ∧ lcL free g mt me ρ0 ds acc S = .ok (acc ++ List.replicate ds.length (.bl true)) S'
  | [], acc, n, S, h, _, _ => ⟨S, h, by simp [lcL, free]⟩
  | d :: ds, acc, n, S, h, hn, hl => by
    rw [List.length_cons] at hn hl
    obtain ⟨S1, i1, k⟩ := step n S (by omega) h
    obtain ⟨ρ1, h1, h2, h3⟩ := k d
    obtain ⟨S2, i2, e⟩ := lcL_yes I step (ds := ds) (acc := acc ++ [.bl true]) i1 (by omega) (by rw [List.length_append]; simp; omega)
    refine ⟨S2, by rw [List.length_cons, show n + (ds.length + 1) = n + 1 + ds.length by omega]; exact i2, ?_⟩
    simp only [lcL, free, h1, optR, h2, Res.thn, h3, show acc.length < 1000000 by omega, and_self, if_true]
    show lcL free g mt me ρ0 ds (acc ++ [.bl true]) S1 = _
    rw [e, List.length_cons, List.replicate_succ, List.append_assoc]
    rfl
theorem bools_yes : ∀ n : Nat, bools (List.replicate n (.bl true)) = some (List.replicate n true)
  | 0 => rfl
  | n + 1 => by rw [List.replicate_succ, bools, bools_yes n]; rfl
theorem all_yes {mi : MI} {g : MG} {me : M} {vs : List Nat} {ρ : Rho} {S : Sto} {items : List D} (I : Nat → Sto → Prop) (hi : mi ρ S = .ok ⟨items, free⟩ S) (hl : items.length ≤ 1000000) (h0 : I 0 S)
    (step : ∀ n S, n < items.length → I n S → ∃ S', I (n + 1) S' ∧ ∀ d, ∃ ρ1, g d (wipeR ρ vs) S = some (ρ1, S) ∧ me ρ1 S = .ok (.bl true) S') :
    ∃ S', I items.length S' ∧ mA (bAllAny fun bs => bs.all id) (mCons (mLc mi g mYes me vs) mNil) ρ S = .ok (.bl true) S' := by
  obtain ⟨S', i, e⟩ := lcL_yes (g := g) (mt := mYes) (me := me) (ρ0 := wipeR ρ vs) I (N := items.length) (fun n S hn hI => by
    obtain ⟨S1, h1, h2⟩ := step n S hn hI
    exact ⟨S1, h1, fun d => by
      obtain ⟨ρ1, k1, k2⟩ := h2 d
      exact ⟨ρ1, k1, rfl, k2⟩⟩) (ds := items) (acc := []) h0 (by omega) (by simpa using hl)
  refine ⟨S', by rw [Nat.zero_add] at i; exact i, ?_⟩
  simp only [mA, mCons, mNil, mLc, hi, bndI, e, Res.thn, Res.bnd, List.nil_append, bAllAny, bools_yes]
  congr 2
  simp
theorem ne_same {S : Sto} {x : Str} : neD S (.str x) (.str x) = some false := by
  have e : toP S deep (.str x) = some (.str x) := toP_of S deep (.str x) (by rw [wt]; decide) (by simp [noKv])
  unfold neD shP
  rw [e]
  by_cases h : SeqAt.shaped (.str x) = true
  · simp only [h, if_true, PyData.eqv, beq_self_eq_true, Bool.not_true]
  · simp only [h, if_false]
    simp
theorem repr2 {S : Sto} {b : Bool} : bRepr [.lst [.bl b, .bl b]] S = .ok (.str (PyData.shown (.list [.bool b, .bool b]))) S := repr_of (p := .list [.bool b, .bool b]) (by cases b <;> decide)
end Rf

set_option Elab.async false
set_option linter.all false
set_option maxRecDepth 100000
/-! a text so many times -/
namespace StrM
open PySem PySem.Spec PyProof.Rows L2
def rep (s : Str) (k : Int) : Str := ⟨(List.replicate k.toNat s.cps).foldl (· ++ ·) #[]⟩
section
variable {X : Cx}
theorem op_mul_str : OpR X (binaryOp .Mult) (fun x y H Q => ∃ (z : Str) (k : Int), x = .str z ∧ y = .int k ∧ 2 ≤ k ∧ k ≤ 1000 ∧ 1 ≤ z.length ∧ z.length ≤ 1000 ∧ (rep z k).length ≤ sizeLine ∧ Q (.str (rep z k)) H) := by
  intro pins s σ H x y v u Q I rx ry h
  obtain ⟨z, k, rfl, rfl, k2, k1, z1, z2, hl, q⟩ := h
  obtain ⟨t, rfl⟩ := rx
  obtain ⟨t', rfl⟩ := ry
  have hn : ¬ k < 1 := by omega
  have hc : (k == 1 || z.length == 0) = false := by
    rw [Bool.or_eq_false_iff]
    exact ⟨beq_eq_false_iff_ne.mpr (by omega), beq_eq_false_iff_ne.mpr (by omega)⟩
  have bound : z.length * k.toNat ≤ 1000 * 1000 := Nat.mul_le_mul z2 (by omega)
  refine PySem.P.mul_str (by rw [decide_eq_false (by omega), decide_eq_false (by omega)]; rfl) (fun _ _ => ?_) (fun _ _ => ?_) ?_
  · have : (1000 : Int) ≤ (2 ^ 63 - 1) / k := by
      refine Int.le_ediv_of_mul_le (by omega) ?_
      omega
    omega
  · unfold Builtin.Str.tooLong
    have := sizeLine_eq
    exact decide_eq_false (by omega)
  · rw [if_neg hn, hc, if_neg (by decide)]
    exact ⟨hl, .str (rep z k), H, I.tok _, ⟨_, rfl⟩, q⟩
end
end StrM

set_option Elab.async false
set_option linter.all false
set_option maxRecDepth 100000
/-! R17: texts so many times, lists one behind the other, append, join; contracts of other layers; calls whose arguments hold no cell. -/
namespace Rf
open PySem L2 PyProof.Rows

/-! ### texts so many times -/
def dMulS : F2 := fun x y S => match x, y with
  | .str z, .int k => if 2 ≤ k ∧ k ≤ 1000 ∧ 1 ≤ z.length ∧ z.length ≤ 1000 ∧ few (StrM.rep z k).length = true then .ok (.str (StrM.rep z k)) S else .stuck
  | x, y => dMul x y S
theorem o_mulS {X : Cx} {Y : Yt} {E : XK} : OpR X (binaryOp .Mult) (rD2 Y E dMulS) := by
  rintro pins s σ H x y v u Q I rx ry ⟨F, as, S, dx, dy, st, r1, r2, q⟩
  by_cases h : ∃ z k, dx = .str z ∧ dy = .int k
  · obtain ⟨z, k, rfl, rfl⟩ := h
    obtain ⟨⟨h1, h2, h3, h4, h5⟩, q⟩ := ite_stuck q
    cases r1
    cases r2
    exact StrM.op_mul_str pins s σ H _ _ v u Q I rx ry ⟨z, k, rfl, rfl, h1, h2, h3, h4, few_line h5, q.now st (.str _)⟩
  · refine o_mul (E := E) pins s σ H x y v u Q I rx ry ⟨F, as, S, dx, dy, st, r1, r2, ?_⟩
    have e : dMulS dx dy S = dMul dx dy S := by
      unfold dMulS
      split
      · exact absurd ⟨_, _, rfl, rfl⟩ h
      · rfl
    rwa [e] at q

/-! ### lists, also such as may change, one behind the other -/
def lsOf (S : Sto) : D → Option (List D)
  | .lst ds => some ds
  | .loc k => lstOf S[k]?
  | _ => none
def dAddL : F2 := fun x y S => match lsOf S x, lsOf S y with
  | some a, some b => if few (a.length + b.length) = true then .ok (.lst (a ++ b)) S else .stuck
  | _, _ => dAdd x y S
/-- the sum is a list that may change -/
def dAddC : F2 := fun x y S => match lsOf S x, lsOf S y with
  | some a, some b => if few (a.length + b.length) = true then .ok (.loc S.length) (S ++ [.lst (a ++ b)]) else .stuck
  | _, _ => .stuck
theorem ls_at {Y : Yt} {as : List Addr} {S : Sto} {H F : Hp} (st : StR Y H F as S) {d : D} {v : V} {ds : List D} (r : Rp Y as F d v) (e : lsOf S d = some ds) : ∃ a vs, v = .ref a ∧ H a = some (.lst vs) ∧ Rps Y as F ds vs := by
  cases r with
  | lst h r => cases e; exact ⟨_, _, rfl, lst_up st h, r⟩
  | @loc k a h =>
    obtain ⟨vs, e2, r⟩ := st.ob _ _ _ h (lstOf_some (show lstOf S[k]? = some ds from e))
    exact ⟨_, vs, rfl, e2, r⟩
  | _ => cases e
section
variable {X : Cx} {Y : Yt} {E : XK}
theorem o_addL (hK : X.K = Y.K) : OpR X (binaryOp .Add) (rD2 Y E dAddL) := by
  rintro pins s σ H x y v u Q I rx ry ⟨F, as, S, dx, dy, st, r1, r2, q⟩
  unfold dAddL at q
  split at q
  · rename_i a b h1 h2
    obtain ⟨h, q⟩ := ite_stuck q
    obtain ⟨p, vs, rfl, p1, p2⟩ := ls_at st r1 h1
    obtain ⟨p', ws, rfl, p3, p4⟩ := ls_at st r2 h2
    have hz : vs.length + ws.length ≤ sizeLine := by rw [← p2.length, ← p4.length]; exact few_line h
    refine op_cat pins s σ H _ _ v u Q I rx ry ⟨p, p', vs, ws, rfl, rfl, p1, p3, hz, fun p hp => ?_⟩
    have x := Xt.new (o := .lst (vs ++ ws)) st hp
    exact q as _ _ _ x (st.new hp) (.lst upd_same ((p2.app p4).mo x.pre x.ex))
  · exact o_add hK pins s σ H x y v u Q I rx ry ⟨F, as, S, dx, dy, st, r1, r2, q⟩
theorem o_addC : OpR X (binaryOp .Add) (rD2 Y E dAddC) := by
  rintro pins s σ H x y v u Q I rx ry ⟨F, as, S, dx, dy, st, r1, r2, q⟩
  unfold dAddC at q
  split at q
  · rename_i a b h1 h2
    obtain ⟨p, vs, rfl, p1, p2⟩ := ls_at st r1 h1
    obtain ⟨p', ws, rfl, p3, p4⟩ := ls_at st r2 h2
    rw [← List.length_append] at q
    obtain ⟨hz, q⟩ := new_lstC st (p2.app p4) q
    rw [List.length_append] at hz
    exact op_cat pins s σ H _ _ v u Q I rx ry ⟨p, p', vs, ws, rfl, rfl, p1, p3, hz, q⟩
  · exact q.elim
end

/-! ### o.append(e) -/
def mApp (mo me : M) : M := fun ρ S => (mo ρ S).bnd fun o S1 => match o with
  | .loc k => if (lstOf S1[k]?).isSome = true then (me ρ S1).bnd fun d S2 => match lstOf S2[k]? with
    | some ds => if few ds.length = true then .ok .non (S2.set k (.lst (ds ++ [d]))) else .stuck
    | none => .stuck
    else .stuck
  | _ => .stuck
section
variable {X : Cx} {Y : Yt} {E : XK} {a e : Expr} {mo me : M} {apos cpos : Pos}
theorem i_app (ho : PE X a (iE Y E mo)) (he : PE X e (iE Y E me)) (hbase : attributeBase a "append" X.env (eval a X.env) = eval a X.env := by rfl)
    (hfew : ((backTo cpos (starEach [e] X.env)).all (fun x => !x.1) && (backToKw cpos (keywordEach [] X.env)).all (fun x => x.1.isSome)
      && decide (([e] : List Expr).length + ([] : List Keyword).length + (if ([] : List Keyword).isEmpty then 0 else 1) < 30)) = true := by rfl)
    (hline : (apos.endLine == cpos.line) = true := by rfl) (hs : starEach [e] X.env = (false, eval e X.env) :: starEach [] X.env := by rfl) (hplain : (backTo cpos (starEach [] X.env)).any (·.1) = false := by rfl) :
    PE X (.Call (.Attribute a "append" apos) [e] [] cpos) (iE Y E (mApp mo me)) :=
  PE_imp (pe_bm PySem.F.plainAttrs_list PySem.F.slot_list_append PySem.F.type_list_append mt_append ho (pa_cons he pa_nil hs) hbase hfew hline hs hplain) fun σ H Q ⟨F, as, ρ, S, t, q⟩ => ⟨F, as, ρ, S, t, (After.bnd q).imp fun v H1 ⟨d, S1, F1, as1, x1, s1, r1, q1⟩ => by
    cases r1 with
    | @loc k la hla =>
      obtain ⟨h, q1⟩ := ite_stuck q1
      obtain ⟨ds0, h0⟩ := Option.isSome_iff_exists.mp h
      obtain ⟨vs0, g0, _⟩ := s1.ob _ _ _ hla (lstOf_some h0)
      refine ⟨.inl ⟨rfl, vs0, SqL.of g0⟩, F1, as1, ρ, S1, t.mo x1 s1, (After.bnd q1).imp fun v2 H2 ⟨d2, S2, F2, as2, x2, s2, r2, q2⟩ => ?_⟩
      cases h2 : lstOf S2[k]? with
      | none => rw [h2] at q2; exact q2.elim
      | some ds =>
        rw [h2] at q2
        obtain ⟨h3, q2⟩ := ite_stuck q2
        obtain ⟨ws, g1, g2⟩ := s2.ob _ _ _ (x2.pre _ _ hla) (lstOf_some h2)
        refine ⟨la, ws, v2, rfl, rfl, g1, ?_, ?_⟩
        · rw [← g2.length]
          have := of_decide_eq_true h3
          rw [sizeLine_eq]
          omega
        · have hm : la ∈ as2 := List.mem_of_getElem? (x2.pre _ _ hla)
          have x3 := Xt.write (o := .lst (ws ++ [v2])) (H := H2) (F := F2) hm
          exact q2 as2 F2 _ _ x3 (s2.write (x2.pre _ _ hla) ⟨_, upd_same, g2.app (.cons r2 .nil)⟩) .non
    | _ => exact q1.elim⟩
end

/-! ### x.join(e) -/
def strsOf : List D → Option (List Str)
  | [] => some []
  | .str z :: ds => (strsOf ds).map (z :: ·)
  | _ => none
theorem strs_at {Y : Yt} {as : List Addr} {F : Hp} : ∀ {ds : List D} {vs : List V} {ws : List Str}, Rps Y as F ds vs → strsOf ds = some ws → vs = ws.map V.str
  | _, _, _, .nil, e => by cases e; rfl
  | _, _, _, .cons h r, e => by
    cases h with
    | str z =>
      obtain ⟨us, e1, rfl⟩ := map_some e
      rw [strs_at r e1]
      rfl
    | _ => cases e
def mJoin (mo me : M) : M := fun ρ S => (mo ρ S).bnd fun x S1 => match x with
  | .str z => (me ρ S1).bnd fun y S2 => match seqOf S2 y with
    | some ds => match strsOf ds with
      | some ws => if decide ((ws.map (·.length)).sum + ws.length * z.length ≤ 16777216) = true then .ok (.str (Txt.join z ws)) S2 else .stuck
      | none => .stuck
    | none => .stuck
  | _ => .stuck
section
variable {X : Cx} {Y : Yt} {E : XK} {a e : Expr} {mo me : M} {apos pos : Pos}
theorem i_join (hK : X.K = Y.K) (ho : PE X a (iE Y E mo)) (he : PE X e (iE Y E me)) (hs : starEach [e] X.env = [(false, eval e X.env)] := by rfl) (hbase : attributeBase a "join" X.env (eval a X.env) = eval a X.env := by rfl) (hline : (apos.endLine == pos.line) = true := by rfl) :
    PE X (.Call (.Attribute a "join" apos) [e] [] pos) (iE Y E (mJoin mo me)) :=
  PE_imp (pe_join ho he hs hbase hline) fun σ H Q ⟨F, as, ρ, S, t, q⟩ => ⟨F, as, ρ, S, t, (After.bnd q).imp fun v H1 ⟨d, S1, F1, as1, x1, s1, r1, q1⟩ => by
    cases r1 with
    | str z =>
      refine ⟨⟨z, rfl⟩, F1, as1, ρ, S1, t.mo x1 s1, (After.bnd q1).imp fun v2 H2 ⟨d2, S2, F2, as2, x2, s2, r2, q2⟩ => ?_⟩
      have q2 : After Y E (Rp Y) as2 F2 H2 (match seqOf S2 d2 with
        | some ds => match strsOf ds with
          | some ws => if decide ((ws.map (·.length)).sum + ws.length * z.length ≤ 16777216) = true then .ok (.str (Txt.join z ws)) S2 else .stuck
          | none => .stuck
        | none => .stuck) Q := q2
      cases h1 : seqOf S2 d2 with
      | none => rw [h1] at q2; exact q2.elim
      | some ds =>
        rw [h1] at q2
        have q2 : After Y E (Rp Y) as2 F2 H2 (match strsOf ds with
          | some ws => if decide ((ws.map (·.length)).sum + ws.length * z.length ≤ 16777216) = true then .ok (.str (Txt.join z ws)) S2 else .stuck
          | none => .stuck) Q := q2
        cases h2 : strsOf ds with
        | none => rw [h2] at q2; exact q2.elim
        | some ws =>
          rw [h2] at q2
          obtain ⟨h3, q2⟩ := ite_stuck q2
          obtain ⟨p, vs, rfl, h4, r⟩ := seq_at s2 r2 h1
          rw [strs_at r h2, ← hK] at h4
          exact ⟨z, p, ws, rfl, rfl, h4, of_decide_eq_true h3, q2.now s2 (.str _)⟩
    | _ => exact q1.elim⟩
end
end Rf

set_option Elab.async false
set_option linter.all false
set_option maxRecDepth 100000
/-! R18: contracts of other layers, told by data. -/
namespace Rf
open PySem L2 PyProof.Rows
section
variable {P : Program} {w : World} {K : PySem.W.Frag} {mg : Str → Option Value} {base : Heap} {Y : Yt} {f : Addr} {fd : FuncData} {ps : List Str}
/-- a contract by values is one by data -/
theorem FnG.of {k n : Nat} {M : FA} {sp1 : Sp} (F : FnOk P w K mg base CX0 k f fd ps sp1) (hn : ps.length = n) (h : ∀ vs H Q, spM Y n M vs H Q E0 → sp1 vs H Q E0) : FnG P w K mg base k f fd ps (spM Y n M) :=
  ⟨fun vs H Q E q => by rw [spM_len q, hn], fun A outer s H args us vs Q hr g e0 hb r q => F.run A outer s H args us vs Q E0 hr e0 hb r (h _ _ _ q)⟩
/-- told from a level on -/
def extM (n : Nat) (M : FA) (k : Nat) : FA := if k < n then fun _ _ => .stuck else M
theorem ext_ok {n m : Nat} {M : FA} (hm : ps.length = m) (h : FnG P w K mg base n f fd ps (spM Y m M)) (k : Nat) : FnG P w K mg base k f fd ps (spM Y m (extM n M k)) := by
  unfold extM
  split
  · exact ⟨fun vs H Q E z => by rw [spM_len z, hm], fun A outer s H args us vs Q _ _ _ _ _ ⟨F, as, S, ds, st, r, e, q⟩ => q.elim⟩
  · exact h.mono (by omega)
theorem DefG.stuck {k m : Nat} {x : Str} {M : FA} (h : DefG P w K mg base Y k x m M) : DefG P w K mg base Y k x m fun _ _ => .stuck := by
  obtain ⟨f, fd, ps, h1, h2, h3, h4⟩ := h.ex
  exact ⟨f, fd, ps, h1, h2, ⟨fun vs H Q E z => by obtain ⟨F, as, S, ds, st, r, e, q⟩ := z; exact q.elim, fun A outer s H args us vs Q _ _ _ _ _ ⟨F, as, S, ds, st, r, e, q⟩ => q.elim⟩, h4⟩
/-- what was tracked stays as it was -/
theorem Xt.keep {F H H' : Hp} {as : List Addr} (k : ∀ q o, H q = some o → H' q = some o) : Xt H F as H' F as := ⟨fun _ _ h => h, fun _ _ h => h, fun a o h1 h2 => ⟨h1, k a o h2⟩, fun _ _ h => .inl h⟩
theorem StR.keep {F H H' : Hp} {as : List Addr} {S : Sto} (s : StR Y H F as S) (k : ∀ q o, H q = some o → H' q = some o) : StR Y H' F as S :=
  ⟨fun a o e => let ⟨h1, h2⟩ := s.sub a o e; ⟨h1, k a o h2⟩, s.len, s.nd, fun n a d h1 h2 => by
    have q := s.ob n a d h1 h2
    obtain ⟨u, hu⟩ := ob_some q
    exact ob_mo (fun _ _ z => z) (fun _ _ z => z) ((k a u hu).trans hu.symm) q⟩
end
end Rf

set_option Elab.async false
set_option linter.all false
set_option maxRecDepth 100000
/-! R19: a block that needs but some of the cells, those from a place on: it can be told of these alone. -/
namespace Rf
open PySem L2 PyProof.Rows
mutual
/-- no cell within -/
def lf : D → Bool
  | .non => true
  | .bl _ => true
  | .int _ => true
  | .str _ => true
  | .ty _ => true
  | .cl _ => true
  | .sti _ => true
  | .fdk _ => false
  | .tup ds => lfs ds
  | .lst ds => lfs ds
  | .fro ds => lfs ds
  | .dk kvs => kvs.isEmpty
  | .dt kvs => kvs.isEmpty
  | .ins _ _ => false
  | .loc _ => false
def lfs : List D → Bool
  | [] => true
  | d :: ds => lf d && lfs ds
end
section
variable {Y : Yt} {as as' : List Addr} {F H : Hp}
mutual
theorem Rp.any : ∀ {d : D} {v : V}, Rp Y as F d v → lf d = true → Rp Y as' F d v
  | _, _, .non, _ => .non
  | _, _, .bl b, _ => .bl b
  | _, _, .int i, _ => .int i
  | _, _, .str x, _ => .str x
  | _, _, .tup h r, e => .tup h (Rps.any r (by rw [lf] at e; exact e))
  | _, _, .lst h r, e => .lst h (Rps.any r (by rw [lf] at e; exact e))
  | _, _, .fro h r, e => .fro h (Rps.any r (by rw [lf] at e; exact e))
  | _, _, .dk (kvs := kvs) h k z r, e => by
    rw [lf] at e
    have e0 : kvs = [] := List.isEmpty_iff.mp e
    subst e0
    refine .dk h k z ?_
    cases r
    exact .nil
  | _, _, .dt (kvs := kvs) h k z r, e => by
    rw [lf] at e
    have e0 : kvs = [] := List.isEmpty_iff.mp e
    subst e0
    refine .dt h k z ?_
    cases r
    exact .nil
  | _, _, .ins c h k z r, e => by rw [lf] at e; cases e
  | _, _, .loc h, e => by rw [lf] at e; cases e
  | _, _, .ty n, _ => .ty n
  | _, _, .cl h, _ => .cl h
  | _, _, .sti h k, _ => .sti h k
  | _, _, .fdk h k z r, e => by rw [lf] at e; cases e
theorem Rps.any : ∀ {ds : List D} {vs : List V}, Rps Y as F ds vs → lfs ds = true → Rps Y as' F ds vs
  | _, _, .nil, _ => .nil
  | _, _, .cons h r, e => by
    rw [lfs, Bool.and_eq_true] at e
    exact .cons (Rp.any h e.1) (Rps.any r e.2)
end
theorem ob_any {a : Addr} {d : D} (h : ObAt Y as F H a d) (e : lf d = true) : ObAt Y as' F H a d := by
  cases d with
  | lst ds => obtain ⟨vs, e1, r⟩ := h; exact ⟨vs, e1, r.any (by rw [lf] at e; exact e)⟩
  | dk kvs =>
    obtain ⟨ws, e1, z, r⟩ := h
    rw [lf] at e
    have e0 : kvs = [] := List.isEmpty_iff.mp e
    subst e0
    refine ⟨ws, e1, z, ?_⟩
    have e2 : ws = [] := by cases ws with
      | nil => rfl
      | cons _ _ => cases z
    subst e2
    exact .nil
  | dt kvs =>
    obtain ⟨ws, e1, z, r⟩ := h
    rw [lf] at e
    have e0 : kvs = [] := List.isEmpty_iff.mp e
    subst e0
    refine ⟨ws, e1, z, ?_⟩
    have e2 : ws = [] := by cases ws with
      | nil => rfl
      | cons _ _ => cases z
    subst e2
    exact .nil
  | ins c fs => rw [lf] at e; cases e
  | _ => exact h.elim
end
/-- a slot, told of the cells from k on -/
def dnS (k : Nat) : Option D → Option D
  | some (.loc i) => if k ≤ i then some (.loc (i - k)) else none
  | some d => if lf d = true then some d else none
  | none => none
def upD (k : Nat) : D → Option D
  | .loc i => some (.loc (k + i))
  | d => if lf d = true then some d else none
def frame (kf : Rho → Sto → Nat) (mu : MS) : MS := fun ρ S =>
  if (S.drop (kf ρ S)).all lf = true ∧ kf ρ S ≤ S.length then match mu (ρ.map (dnS (kf ρ S))) (S.drop (kf ρ S)) with
    | .rt d S1 => if S1.all lf = true then match upD (kf ρ S) d with
      | some d' => .rt d' (S.take (kf ρ S) ++ S1)
      | none => .stuck
      else .stuck
    | _ => .stuck
  else .stuck
theorem dnS_at {Y : Yt} {as : List Addr} {F : Hp} {k : Nat} {d : D} {o : Option D} {v : V} (h : dnS k o = some d) (r : ∀ d0, o = some d0 → Rp Y as F d0 v) : Rp Y (as.drop k) F d v := by
  cases o with
  | none => cases h
  | some d0 =>
    have r := r d0 rfl
    by_cases hl : ∃ i, d0 = .loc i
    · obtain ⟨i, rfl⟩ := hl
      have h : (if k ≤ i then some (D.loc (i - k)) else none) = some d := h
      split at h
      · rename_i hk
        cases h
        cases r with
        | loc e => exact .loc (by rw [List.getElem?_drop, show k + (i - k) = i by omega]; exact e)
      · cases h
    · have e : dnS k (some d0) = if lf d0 = true then some d0 else none := by
        cases d0 <;> first | rfl | exact absurd ⟨_, rfl⟩ hl
      rw [e] at h
      split at h
      · cases h
        exact r.any (by assumption)
      · cases h
theorem upD_at {Y : Yt} {as pre : List Addr} {F : Hp} {d d' : D} {v : V} (h : upD pre.length d = some d') (r : Rp Y (pre ++ as) F d' v) : Rp Y as F d v := by
  by_cases hl : ∃ i, d = .loc i
  · obtain ⟨i, rfl⟩ := hl
    cases h
    cases r with
    | loc e => exact .loc (by rw [List.getElem?_append_right (by omega), show pre.length + i - pre.length = i by omega] at e; exact e)
  · have e : upD pre.length d = if lf d = true then some d else none := by
      cases d <;> first | rfl | exact absurd ⟨_, rfl⟩ hl
    rw [e] at h
    split at h
    · cases h
      exact r.any (by assumption)
    · cases h
theorem upD_to {Y : Yt} {as pre : List Addr} {F : Hp} {d d' : D} {v : V} (h : upD pre.length d = some d') (r : Rp Y as F d v) : Rp Y (pre ++ as) F d' v := by
  by_cases hl : ∃ i, d = .loc i
  · obtain ⟨i, rfl⟩ := hl
    cases h
    cases r with
    | loc e => exact .loc (by rw [List.getElem?_append_right (by omega), show pre.length + i - pre.length = i by omega]; exact e)
  · have e : upD pre.length d = if lf d = true then some d else none := by
      cases d <;> first | rfl | exact absurd ⟨_, rfl⟩ hl
    rw [e] at h
    split at h
    · cases h
      exact r.any (by assumption)
    · cases h
section
variable {X : Cx} {Y : Yt} {E : XK} {sts : List Stmt} {mu : MS}
theorem frame_at (kf : Rho → Sto → Nat) {as : List Addr} {F H : Hp} {σ : L2.St} {ρ : Rho} {S : Sto} {Dn : Ends} (t : At Y σ H F as ρ S) (q : AfterS Y E as F H (frame kf mu ρ S) Dn) :
    ∃ as' ρ' S', At Y σ H F as' ρ' S' ∧ AfterS Y E as' F H (mu ρ' S') Dn := by
  unfold frame at q
  generalize hk : kf ρ S = k at q
  split at q
  · rename_i hc
    obtain ⟨hlf, hkS⟩ := hc
    have hka : k ≤ as.length := by rw [t.st.len]; exact hkS
    have hpl : (as.take k).length = k := by rw [List.length_take]; omega
    have nd := t.st.nd
    rw [← List.take_append_drop k as] at nd
    have nd3 := List.nodup_append.mp nd
    refine ⟨as.drop k, ρ.map (dnS k), S.drop k, ⟨⟨fun a o e => ?_, by rw [List.length_drop, List.length_drop, t.st.len], nd3.2.1, fun n a d h1 h2 => ?_⟩, ⟨by rw [List.length_map]; exact t.fr.len, fun i d h => ?_⟩⟩, ?_⟩
    · obtain ⟨h1, h2⟩ := t.st.sub a o e
      exact ⟨fun z => h1 (List.mem_of_mem_drop z), h2⟩
    · rw [List.getElem?_drop] at h1
      have h3 := h2
      rw [List.getElem?_drop] at h2
      exact ob_any (t.st.ob _ a d h1 h2) (List.all_eq_true.mp hlf d (List.mem_of_getElem? h3))
    · rw [List.getElem?_map] at h
      obtain ⟨o, e1, e2⟩ := map_some h
      cases o with
      | none => cases e2
      | some d0 =>
        obtain ⟨v, e3, r⟩ := t.fr.at_ i d0 e1
        exact ⟨v, e3, dnS_at e2 fun d1 z => by cases z; exact r⟩
    · cases hm : mu (ρ.map (dnS k)) (S.drop k) with
      | rt d S1 =>
        rw [hm] at q
        have q : AfterS Y E as F H (if S1.all lf = true then match upD k d with
          | some d' => .rt d' (S.take k ++ S1)
          | none => .stuck
          else .stuck) Dn := q
        split at q
        · rename_i hl1
          cases hu : upD k d with
          | none => rw [hu] at q; exact q.elim
          | some d' =>
            rw [hu] at q
            intro as1 F' H' v x s r
            have keep : ∀ a o, a ∈ as.take k → H a = some o → a ∉ as1 ∧ H' a = some o := fun a o h1 h2 => x.st a o (fun z => nd3.2.2 a h1 a z rfl) h2
            have cells : ∀ a ∈ as.take k, ∃ o, H a = some o := fun a h => by
              obtain ⟨n, hn, e⟩ := List.getElem_of_mem (List.mem_of_mem_take h)
              have hn2 : n < S.length := by rw [← t.st.len]; exact hn
              have q1 := t.st.ob n a _ (by rw [List.getElem?_eq_getElem hn, e]) (List.getElem?_eq_getElem hn2)
              exact ob_some q1
            have pre : ∀ (n : Nat) (a : Addr), as[n]? = some a → (as.take k ++ as1)[n]? = some a := fun n a h => by
              by_cases hn : n < k
              · rw [List.getElem?_append_left (by omega), List.getElem?_take_of_lt hn]
                exact h
              · rw [List.getElem?_append_right (by omega), hpl]
                exact x.pre _ _ (by rw [List.getElem?_drop, show k + (n - k) = n by omega]; exact h)
            have gr : ∀ a o, F' a = some o → F a = some o ∨ H a = none ∨ a ∈ as := fun a o h => (x.gr a o h).imp id (Or.imp id List.mem_of_mem_drop)
            refine q (as.take k ++ as1) F' H' v ⟨pre, x.ex, fun a o h1 h2 => ?_, gr⟩ ⟨fun a o h => ?_, by rw [List.length_append, List.length_append, s.len, hpl, List.length_take]; omega, ?_, fun n a e h1 h2 => ?_⟩ ?_
            · obtain ⟨h3, h4⟩ := x.st a o (fun z => h1 (List.mem_of_mem_drop z)) h2
              exact ⟨fun z => (List.mem_append.mp z).elim (fun y => h1 (List.mem_of_mem_take y)) h3, h4⟩
            · obtain ⟨h1, h2⟩ := s.sub a o h
              refine ⟨fun z => (List.mem_append.mp z).elim (fun y => ?_) h1, h2⟩
              rcases x.gr a o h with g | g | g
              · exact (t.st.sub a o g).1 (List.mem_of_mem_take y)
              · obtain ⟨u, hu⟩ := cells a y
                rw [g] at hu
                cases hu
              · exact nd3.2.2 a y a g rfl
            · rw [List.nodup_append]
              refine ⟨nd3.1, s.nd, fun a h1 b h2 e => ?_⟩
              subst e
              obtain ⟨u, hu⟩ := cells a h1
              exact (keep a u h1 hu).1 h2
            · by_cases hn : n < k
              · rw [List.getElem?_append_left (by omega), List.getElem?_take_of_lt hn] at h1
                rw [List.getElem?_append_left (by rw [List.length_take]; omega), List.getElem?_take_of_lt hn] at h2
                have q1 := t.st.ob n a e h1 h2
                obtain ⟨u, hu⟩ := ob_some q1
                have ha : a ∈ as.take k := List.mem_of_getElem? (show (as.take k)[n]? = some a by rw [List.getElem?_take_of_lt hn]; exact h1)
                exact ob_mo pre x.ex ((keep a u ha hu).2.trans hu.symm) q1
              · rw [List.getElem?_append_right (by omega), hpl] at h1
                rw [List.getElem?_append_right (by rw [List.length_take]; omega), List.length_take, show min k S.length = k by omega] at h2
                exact ob_any (s.ob _ a e h1 h2) (List.all_eq_true.mp hl1 e (List.mem_of_getElem? h2))
            · exact upD_to (by rw [hpl]; exact hu) r
        · exact q.elim
      | _ => rw [hm] at q; exact q.elim
  · exact q.elim
theorem is_frame (kf : Rho → Sto → Nat) (h : PSs X sts (iS Y E mu)) : PSs X sts (iS Y E (frame kf mu)) := PSs_imp h fun Dn σ H ⟨F, as, ρ, S, t, q⟩ => by
  obtain ⟨as', ρ', S', t', q'⟩ := frame_at kf t q
  exact ⟨F, as', ρ', S', t', q'⟩
/-- the cells from the one in slot v on; those to come alone -/
def fromSlot (v : Nat) : Rho → Sto → Nat := fun ρ S => match ρ[v]? with
  | some (some (.loc k)) => k
  | _ => S.length + 1
def fresh : Rho → Sto → Nat := fun _ S => S.length
end
end Rf

set_option Elab.async false
set_option linter.all false
set_option maxRecDepth 100000
/-! R20: loops with a count; what a framed block tells; small facts. -/
namespace Rf
open PySem L2
theorem forL_cnt {g : MG} {b : MS} (R : Nat → Rho → Sto → Prop) : ∀ {ds : List D} {n : Nat} {ρ : Rho} {S : Sto}, R n ρ S → (∀ m d ρ S, d ∈ ds → n ≤ m → m < n + ds.length → R m ρ S → ∃ ρ1 S1 ρ2 S2, g d ρ S = some (ρ1, S1) ∧ b ρ1 S1 = .nx ρ2 S2 ∧ R (m + 1) ρ2 S2) →
    ∃ ρ' S', R (n + ds.length) ρ' S' ∧ forL free g b ds ρ S = .nx ρ' S'
  | [], n, ρ, S, h, _ => ⟨ρ, S, h, by simp [forL, free]⟩
  | d :: ds, n, ρ, S, h, k => by
    obtain ⟨ρ1, S1, ρ2, S2, h1, h2, h3⟩ := k n d ρ S (List.mem_cons_self ..) (Nat.le_refl _) (by rw [List.length_cons]; omega) h
    obtain ⟨ρ3, S3, h4, h5⟩ := forL_cnt (g := g) (b := b) R (ds := ds) h3 fun m e ρ S he l1 l2 => k m e ρ S (List.mem_cons_of_mem _ he) (by omega) (by rw [List.length_cons]; omega)
    refine ⟨ρ3, S3, by rw [List.length_cons, show n + (ds.length + 1) = n + 1 + ds.length by omega]; exact h4, ?_⟩
    simp only [forL, free, if_true, h1, stepL, h2, turnL]
    exact h5
theorem frame_lst {kf : Rho → Sto → Nat} {mu : MS} {ρ ρ' : Rho} {S S0 S1 : Sto} {k : Nat} {ds : List D} (hk : kf ρ S = k) (hS : S.drop k = S0) (h0 : S0.all lf = true) (hle : k ≤ S.length) (hρ : ρ.map (dnS k) = ρ') (hm : mu ρ' S0 = .rt (.lst ds) S1) (h1 : lfs ds = true) (h2 : S1.all lf = true) :
    frame kf mu ρ S = .rt (.lst ds) (S.take k ++ S1) := by
  unfold frame
  rw [hk, hS, hρ, hm]
  have e : upD k (.lst ds) = some (.lst ds) := by
    show (if lf (.lst ds) = true then some (D.lst ds) else none) = _
    rw [show lf (.lst ds) = lfs ds by rw [lf], h1]
    rfl
  simp only [h0, hle, h2, e, and_self, if_true]
theorem ne_int {S : Sto} {i j : Int} : neD S (.int i) (.int j) = some (!decide (i = j)) := by
  have e : ∀ i : Int, toP S deep (.int i) = some (.int i) := fun i => by rw [toP]
  unfold neD shP
  rw [e, e]
  have h : SeqAt.shaped (.int i) = true := rfl
  have h2 : SeqAt.shaped (.int j) = true := rfl
  simp only [h, h2, if_true, PyData.eqv]
  by_cases hij : i = j
  · subst hij; simp
  · simp [hij]
theorem mem_bool : ("bool" ∈ kinds7) = True := eq_true (by decide)
theorem mem_str : ("str" ∈ kinds7) = True := eq_true (by decide)
end Rf

set_option Elab.async false
set_option linter.all false
set_option maxRecDepth 100000
/-! R21: a block that only reads; list of a text; enumerate. -/
namespace Rf
open PySem L2 PyProof.Rows

/-! ### a block that changes no cell and tells a plain value -/
def plainD : D → Bool
  | .non => true
  | .bl _ => true
  | .int _ => true
  | .str _ => true
  | _ => false
/-- a slot as it stands, cells by what they hold -/
def frzS (S : Sto) : Option D → Option D
  | some (.loc k) => match lstOf S[k]? with
    | some ds => if lfs ds = true then some (.lst ds) else none
    | none => none
  | some d => if lf d = true then some d else none
  | none => none
def still (mu : MS) : MS := fun ρ S => match mu (ρ.map (frzS S)) [] with
  | .rt d _ => if plainD d = true then .rt d S else .stuck
  | _ => .stuck
section
variable {X : Cx} {Y : Yt} {E : XK} {sts : List Stmt} {mu : MS}
theorem plain_rp {as as' : List Addr} {F F' : Hp} {d : D} {v : V} (h : plainD d = true) (r : Rp Y as F d v) : Rp Y as' F' d v := by
  cases r with
  | non => exact .non
  | bl b => exact .bl b
  | int i => exact .int i
  | str z => exact .str z
  | _ => cases h
theorem frzS_at {as : List Addr} {S : Sto} {H F F' : Hp} {o : Option D} {d : D} {v : V} (st : StR Y H F as S) (e1 : ∀ a u, F a = some u → F' a = some u) (e2 : ∀ a u, a ∈ as → H a = some u → F' a = some u) (h : frzS S o = some d) (r : ∀ d0, o = some d0 → Rp Y as F d0 v) : Rp Y [] F' d v := by
  have up : ∀ {d : D} {v : V}, Rp Y [] F d v → Rp Y [] F' d v := fun r => r.mo (fun _ _ h => h) e1
  have ups : ∀ {d : List D} {v : List V}, Rps Y [] F d v → Rps Y [] F' d v := fun r => r.mo (fun _ _ h => h) e1
  cases o with
  | none => cases h
  | some d0 =>
    have r := r d0 rfl
    by_cases hl : ∃ k, d0 = .loc k
    · obtain ⟨k, rfl⟩ := hl
      have h : (match lstOf S[k]? with
        | some ds => if lfs ds = true then some (D.lst ds) else none
        | none => none) = some d := h
      cases hk : lstOf S[k]? with
      | none => rw [hk] at h; cases h
      | some ds =>
        rw [hk] at h
        have h : (if lfs ds = true then some (D.lst ds) else none) = some d := h
        split at h
        · rename_i hds
          cases h
          cases r with
          | loc e =>
            obtain ⟨vs, g1, g2⟩ := st.ob k _ _ e (lstOf_some hk)
            exact .lst (e2 _ _ (List.mem_of_getElem? e) g1) (ups (g2.any hds))
        · cases h
    · have e : frzS S (some d0) = if lf d0 = true then some d0 else none := by
        cases d0 <;> first | rfl | exact absurd ⟨_, rfl⟩ hl
      rw [e] at h
      split at h
      · cases h
        exact up (r.any (by assumption))
      · cases h
theorem still_at {as : List Addr} {F H : Hp} {σ : L2.St} {ρ : Rho} {S : Sto} {Dn : Ends} (t : At Y σ H F as ρ S) (q : AfterS Y E as F H (still mu ρ S) Dn) :
    ∃ F' ρ', At Y σ H F' [] ρ' [] ∧ AfterS Y E [] F' H (mu ρ' []) Dn := by
  refine ⟨fun a => if a ∈ as then H a else F a, ρ.map (frzS S), ⟨⟨fun a o e => ⟨by simp, ?_⟩, rfl, .nil, fun n a d h _ => by simp at h⟩, ⟨by rw [List.length_map]; exact t.fr.len, fun i d h => ?_⟩⟩, ?_⟩
  · have e : (if a ∈ as then H a else F a) = some o := e
    split at e
    · exact e
    · exact (t.st.sub a o e).2
  · rw [List.getElem?_map] at h
    obtain ⟨o, e1, e2⟩ := map_some h
    cases o with
    | none => cases e2
    | some d0 =>
      obtain ⟨v, e3, r⟩ := t.fr.at_ i d0 e1
      refine ⟨v, e3, frzS_at t.st (fun a u z => ?_) (fun a u hm z => ?_) e2 fun d1 z => by cases z; exact r⟩
      · show (if a ∈ as then H a else F a) = some u
        rw [if_neg (t.st.sub a u z).1]; exact z
      · show (if a ∈ as then H a else F a) = some u
        rw [if_pos hm]; exact z
  · unfold still at q
    cases hm : mu (ρ.map (frzS S)) [] with
    | rt d S1 =>
      rw [hm] at q
      have q : AfterS Y E as F H (if plainD d = true then .rt d S else .stuck) Dn := q
      split at q
      · rename_i hp
        intro as1 F1 H1 v x s r
        have k : ∀ a o, H a = some o → H1 a = some o := fun a o h => (x.st a o (by simp) h).2
        exact q as F H1 v (Xt.keep k) (t.st.keep k) (plain_rp hp r)
      · exact q.elim
    | _ => rw [hm] at q; exact q.elim
theorem is_still (h : PSs X sts (iS Y E mu)) : PSs X sts (iS Y E (still mu)) := PSs_imp h fun Dn σ H ⟨F, as, ρ, S, t, q⟩ => by
  obtain ⟨F', ρ', t', q'⟩ := still_at t q
  exact ⟨F', [], ρ', [], t', q'⟩
end

/-! ### list(text) -/
def bListS : FA := fun xs S => match xs with
  | [.str z] => if few z.length = true then .ok (.lst (z.cps.toList.map fun c => .str ⟨#[c]⟩)) S else .stuck
  | xs => bList xs S
section
variable {X : Cx} {Y : Yt} {E : XK}
theorem signs_vals {z : Str} {acc : Array Value} (h : ItemsOf (SignAt z) acc z.cps.size) : Vals (z.cps.toList.map fun c => V.str ⟨#[c]⟩) acc.toList := by
  obtain ⟨h1, h2⟩ := h
  have key : ∀ (cs : List Nat) (vs : List Value), vs.length = cs.length → (∀ (j : Nat) (v : Value), vs[j]? = some v → ∃ c u, cs[j]? = some c ∧ v = Value.str ⟨#[c]⟩ u) → Vals (cs.map fun c => V.str ⟨#[c]⟩) vs := by
    intro cs
    induction cs with
    | nil =>
      intro vs hl _
      cases vs with
      | nil => exact .nil
      | cons _ _ => cases hl
    | cons c cs ih =>
      intro vs hl hj
      cases vs with
      | nil => cases hl
      | cons v vs =>
        obtain ⟨c', u, e1, rfl⟩ := hj 0 v rfl
        cases e1
        exact .cons ⟨u, rfl⟩ (ih vs (by simpa using hl) fun j v h => hj (j + 1) v (by simpa using h))
  refine key z.cps.toList acc.toList (by simpa using h1) fun j v h => ?_
  rw [Array.getElem?_toList] at h
  obtain ⟨c, u, e1, e2⟩ := h2 j v h
  exact ⟨c, u, by rw [Array.getElem?_toList]; exact e1, e2⟩
theorem strs_rp {as : List Addr} {F : Hp} : ∀ cs : List Nat, Rps Y as F (cs.map fun c => D.str ⟨#[c]⟩) (cs.map fun c => V.str ⟨#[c]⟩)
  | [] => .nil
  | c :: cs => .cons (.str _) (strs_rp cs)
theorem c_listS (o : On X Y) : CallR X (.type "list") (rDA Y E bListS) := by
  rintro pins s σ H xs us Q I rv ⟨F, as, S, ds, st, r, q⟩
  by_cases h : ∃ z, ds = [.str z]
  · obtain ⟨z, rfl⟩ := h
    obtain ⟨hz, q⟩ := ite_stuck (show After Y E (Rp Y) as F H (if few z.length = true then .ok (.lst (z.cps.toList.map fun c => .str ⟨#[c]⟩)) S else .stuck) Q from q)
    obtain ⟨v, rfl, h1⟩ := args1 r rfl
    cases h1
    obtain ⟨u, rfl, t, rfl⟩ := vals1 rv
    have hsz : z.cps.size ≤ sizeLine := few_line hz
    refine call_list_str o.hd z t (fun h' tk acc' c' kp e it => ?_) hsz
    have vv := signs_vals it
    have fr : H s.heap.objs.size = none := I.hok.fresh (Nat.le_refl _)
    have x := Xt.new (o := .lst (z.cps.toList.map fun c => V.str ⟨#[c]⟩)) st fr
    refine ⟨.ref s.heap.objs.size, _, I.laid (t' := tk) kp (Nat.le_refl _) (show ObjOk X.prog X.w _ h' _ (.lst (z.cps.toList.map fun c => V.str ⟨#[c]⟩)) from ⟨by rw [List.length_map, Array.length_toList]; exact hsz, acc'.toList, c', vv, by simpa using e⟩), rfl, q as _ _ _ x (st.new fr) (.lst upd_same ((strs_rp _).mo x.pre x.ex))⟩
  · refine c_list (E := E) o pins s σ H xs us Q I rv ⟨F, as, S, ds, st, r, ?_⟩
    have e : bListS ds S = bList ds S := by
      unfold bListS
      split
      · exact absurd ⟨_, rfl⟩ h
      · rfl
    rwa [e] at q
end

/-! ### enumerate -/
def mEnum (mr : Rho → Sto → Res (List D)) : MI := fun ρ S => (mr ρ S).bnd fun ds S1 => match ds with
  | [.lst es] => .ok ⟨es.zipIdx.map fun p => .tup [.int (p.2 : Nat), p.1], free⟩ S1
  | _ => .stuck
section
variable {X : Cx} {Y : Yt} {E : XK} {e : Expr} {mr : Rho → Sto → Res (List D)} {p pos tpos : Pos} {elts : List Expr} {kk : Nat}
theorem iw_enum {as : List Addr} {F H : Hp} {a : Addr} {vs : List V} {ds : List D} (h : SqL Y.K F a vs) (r : Rps Y as F ds vs) : IW Y as F H ⟨ds.zipIdx.map fun p => .tup [.int (p.2 : Nat), p.1], free⟩ (Ite Y.K a) := by
  refine ⟨_, _, by show Walk _ (List.length _) _ _; rw [List.length_map, List.length_zipIdx, r.length]; exact walk_enum, fun as' F' H' S' x s _ => seqL_up s (sql_ex x.ex h), fun i d as' F' H' S' x H2 e xt st y => ?_⟩
  obtain ⟨T, a1, a2, rfl, hT, rfl, e1, e2⟩ := y
  cases e1
  have e2 : vs[i]? = some a2 := e2
  have e : (ds.zipIdx.map fun p => D.tup [.int (p.2 : Nat), p.1])[i]? = some d := e
  rw [List.getElem?_map] at e
  obtain ⟨q, e3, rfl⟩ := map_some e
  rw [List.getElem?_zipIdx] at e3
  obtain ⟨d0, e4, rfl⟩ := map_some e3
  obtain ⟨v, e5, rv⟩ := (r.mo xt.pre xt.ex).get (i := i) (d := d0) e4
  rw [e2] at e5
  cases e5
  have x2 := Xt.new (o := .tup [.int (i : Nat), a2]) st hT
  refine ⟨_, x2, st.new hT, .tup (.inl (.inl upd_same)) (.cons ?_ (.cons (rv.mo x2.pre x2.ex) .nil))⟩
  show Rp Y as' _ (D.int ((0 + i : Nat) : Int)) _
  rw [Nat.zero_add]
  exact .int _
theorem ii_enum (hK : X.K = Y.K) (hg : Gl X "enumerate") (hm : X.mg "enumerate" = none) (ha : PA X [e] (iA Y E mr)) (hs : starEach [e] X.env = [(false, eval e X.env)] := by rfl) :
    PI X (.Tuple elts kk tpos) (.Call (.Name "enumerate" p) [e] [] pos) (iI Y E (mEnum mr)) := PI_imp (pi_enum hg hm ha hs) fun σ H R ⟨F, as, ρ, S, t, q⟩ => ⟨F, as, ρ, S, t, (AfterI.bnd q).imp fun vs H1 ⟨ds, S1, F1, as1, x1, s1, r1, q1⟩ => by
    by_cases h : ∃ es, ds = [.lst es]
    · obtain ⟨es, rfl⟩ := h
      obtain ⟨v, rfl, h1⟩ := args1 r1 rfl
      cases h1 with
      | @lst a vs ds h r =>
        refine ⟨a, vs, rfl, by rw [hK]; exact SqL.of (lst_up s1 h), ?_⟩
        have q1 : AfterI Y E as1 F1 H1 (.ok ⟨es.zipIdx.map fun p => .tup [.int (p.2 : Nat), p.1], free⟩ S1) R := q1
        rw [hK]
        exact q1 as1 F1 H1 _ (Xt.refl _ _ _) s1 (iw_enum (SqL.of h) r)
    · exfalso
      revert q1
      split
      · exact fun _ => h ⟨_, rfl⟩
      · exact id⟩
end
end Rf

set_option Elab.async false
set_option linter.all false
set_option maxRecDepth 100000
/-! R22: lists of texts; loops with a place; what stays of a store. -/
namespace Rf
open PySem L2
theorem strs_all : ∀ ws : List Str, (∀ x ∈ ws, PyData.strOk x = true) → noKvs (ws.map PyData.str) = true ∧ PyData.canLayAll0 (ws.map PyData.str) = true ∧ PyData.depthAll (ws.map PyData.str) = 0 ∧ wts (ws.map PyData.str) ≤ ws.length + 2
  | [], _ => by simp [noKvs, PyData.canLayAll0, PyData.depthAll, wts]
  | n :: ns, h => by
    obtain ⟨h1, h2, h3, h4⟩ := strs_all ns fun x hx => h x (List.mem_cons_of_mem _ hx)
    have hn := h n (List.mem_cons_self ..)
    refine ⟨?_, ?_, ?_, ?_⟩
    · rw [List.map_cons, noKvs, h1]; rfl
    · rw [List.map_cons, PyData.canLayAll0, h2]; simp [PyData.canLay0, hn]
    · rw [List.map_cons, PyData.depthAll, h3]; simp [PyData.depth]
    · rw [List.map_cons, wts, List.length_cons]; simp only [wt]; omega
theorem sh_strs {S : Sto} {ws : List Str} (h : ws.length ≤ 150) (hk : ∀ x ∈ ws, PyData.strOk x = true) : shP S (.lst (ws.map D.str)) = some (.list (ws.map .str)) := by
  obtain ⟨h1, h2, h3, h4⟩ := strs_all ws hk
  have e : ofP (.list (ws.map .str)) = .lst (ws.map D.str) := by rw [ofP, ofPs_map, List.map_map]; rfl
  rw [← e]
  refine shP_of ?_
  have h5 : 1 + wts (ws.map PyData.str) ≤ 200 := by omega
  simp [eqP, noKv, h1, wt, SeqAt.shaped, PyData.canLay0, h2, PyData.depth, h3, h5]
theorem in_strs {S : Sto} {l : Str} {ws : List Str} (h : ws.length ≤ 150) (hl : PyData.strOk l = true) (hk : ∀ x ∈ ws, PyData.strOk x = true) : inD S (.str l) (.lst (ws.map D.str)) = some (decide (l ∈ ws)) := by
  simp only [inD, shP_str hl, sh_strs h hk]
  congr 1
  rw [List.any_map]
  rw [Bool.eq_iff_iff, List.any_eq_true, decide_eq_true_eq]
  constructor
  · rintro ⟨x, hx, e⟩
    have e : (x == l) = true := e
    rw [beq_iff_eq] at e
    rwa [← e]
  · intro hx
    exact ⟨l, hx, show (l == l) = true by simp⟩
theorem ne_strs {S : Sto} {a b : Str} (ha : PyData.strOk a = true) (hb : PyData.strOk b = true) : neD S (.str a) (.str b) = some (!decide (a = b)) := by
  simp only [neD, shP_str ha, shP_str hb]
  show some (!(a == b)) = _
  by_cases h : a = b
  · simp [h]
  · simp [h]
theorem eq_strs {S : Sto} {a b : Str} (ha : PyData.strOk a = true) (hb : PyData.strOk b = true) : eqD S (.str a) (.str b) = some (decide (a = b)) := by
  simp only [eqD, shP_str ha, shP_str hb]
  show some (a == b) = _
  by_cases h : a = b
  · simp [h]
  · simp [h]
theorem eq_ints {S : Sto} {i j : Int} : eqD S (.int i) (.int j) = some (decide (i = j)) := by
  simp only [eqD, sh_int]
  show some (i == j) = _
  by_cases h : i = j
  · simp [h]
  · simp [h]
/-- ==, of any two texts too -/
def dEqS : F2 := fun x y S => match x, y with
  | .str a, .str b => .ok (.bl (a == b)) S
  | x, y => dEq x y S
theorem o_eqS {X : Cx} {Y : Yt} {E : XK} (o : On X Y) : OpR X (compareOp .Eq) (rD2 Y E dEqS) := by
  rintro pins s σ H x y v u Q I rx ry ⟨F, as, S, dx, dy, st, r1, r2, q⟩
  by_cases h : ∃ a b, dx = .str a ∧ dy = .str b
  · obtain ⟨a, b, rfl, rfl⟩ := h
    cases r1
    cases r2
    obtain ⟨t1, rfl⟩ := rx
    obtain ⟨t2, rfl⟩ := ry
    have q : After Y E (Rp Y) as F H (.ok (.bl (a == b)) S) Q := q
    exact PyProof.Rows.eq_str ⟨.bl (a == b), H, I, rfl, q.now st (.bl _)⟩
  · refine oo_eq (E := E) o pins s σ H x y v u Q I rx ry ⟨F, as, S, dx, dy, st, r1, r2, ?_⟩
    have e : dEqS dx dy S = dEq dx dy S := by
      unfold dEqS
      split
      · exact absurd ⟨_, _, rfl, rfl⟩ h
      · rfl
    rwa [e] at q
theorem repr_strs {S : Sto} {ws : List Str} (h : ws.length ≤ 150) (hk : ∀ x ∈ ws, fin3 1 3 100 (.str x) = true) : ∃ z, bRepr [.tup (ws.map D.str)] S = .ok (.str z) S := by
  have e : ofP (.tuple (ws.map .str)) = .tup (ws.map D.str) := by rw [ofP, ofPs_map, List.map_map]; rfl
  rw [← e]
  refine ⟨_, repr_of (fin3_up (fin_tup (w := 1) (d := 3) (b := 100) (l := 150) (fun p hp => ?_) (by rw [List.length_map]; exact h)) (by decide) (by decide) (by decide))⟩
  obtain ⟨x, hx, rfl⟩ := List.mem_map.mp hp
  exact hk x hx
/-- a loop, told with the place of each item -/
theorem forL_idx {g : MG} {b : MS} (R : Nat → Rho → Sto → Prop) {ds0 : List D} (k : ∀ m d ρ S, ds0[m]? = some d → R m ρ S → ∃ ρ1 S1 ρ2 S2, g d ρ S = some (ρ1, S1) ∧ b ρ1 S1 = .nx ρ2 S2 ∧ R (m + 1) ρ2 S2) :
    ∀ {ds : List D} {n : Nat} {ρ : Rho} {S : Sto}, ds0.drop n = ds → n ≤ ds0.length → R n ρ S → ∃ ρ' S', R ds0.length ρ' S' ∧ forL free g b ds ρ S = .nx ρ' S'
  | [], n, ρ, S, hd, hn, h => by
    have : ds0.length ≤ n := List.drop_eq_nil_iff.mp hd
    have e : n = ds0.length := by omega
    subst e
    exact ⟨ρ, S, h, by simp [forL, free]⟩
  | d :: ds, n, ρ, S, hd, hn, h => by
    have e : ds0[n]? = some d := by
      have := congrArg (·[0]?) hd
      simpa [List.getElem?_drop] using this
    obtain ⟨ρ1, S1, ρ2, S2, h1, h2, h3⟩ := k n d ρ S e h
    have hn2 : n + 1 ≤ ds0.length := (List.getElem?_eq_some_iff.mp e).1
    have hd2 : ds0.drop (n + 1) = ds := by
      have := congrArg (List.drop 1) hd
      simpa [List.drop_drop, Nat.add_comm] using this
    obtain ⟨ρ3, S3, h4, h5⟩ := forL_idx (g := g) (b := b) R k hd2 hn2 h3
    refine ⟨ρ3, S3, h4, ?_⟩
    simp only [forL, free, if_true, h1, stepL, h2, turnL]
    exact h5
theorem forL_at {g : MG} {b : MS} (R : Nat → Rho → Sto → Prop) {ds : List D} {ρ : Rho} {S : Sto} (h : R 0 ρ S) (k : ∀ m d ρ S, ds[m]? = some d → R m ρ S → ∃ ρ1 S1 ρ2 S2, g d ρ S = some (ρ1, S1) ∧ b ρ1 S1 = .nx ρ2 S2 ∧ R (m + 1) ρ2 S2) :
    ∃ ρ' S', R ds.length ρ' S' ∧ forL free g b ds ρ S = .nx ρ' S' := forL_idx R k (n := 0) rfl (Nat.zero_le _) h
/-- what a call leaves of the store: all but the pot, and more -/
structure Ext (p : Nat) (S S' : Sto) : Prop where
  len : S.length ≤ S'.length
  old : ∀ i, i < S.length → i ≠ p → S'[i]? = S[i]?
theorem Ext.refl {p : Nat} {S : Sto} : Ext p S S := ⟨Nat.le_refl _, fun _ _ _ => rfl⟩
theorem Ext.trans {p : Nat} {S S1 S2 : Sto} (a : Ext p S S1) (b : Ext p S1 S2) : Ext p S S2 := ⟨Nat.le_trans a.len b.len, fun i h n => (b.old i (Nat.lt_of_lt_of_le h a.len) n).trans (a.old i h n)⟩
theorem Ext.set {p : Nat} {S : Sto} {d : D} : Ext p S (S.set p d) := ⟨by simp, fun i _ n => List.getElem?_set_ne (Ne.symm n)⟩
theorem Ext.push {p : Nat} {S : Sto} {d : D} : Ext p S (S ++ [d]) := ⟨by simp, fun i h _ => List.getElem?_append_left h⟩
/-- a new cell is written -/
theorem Ext.own {p q : Nat} {S S' : Sto} {d : D} (a : Ext p S S') (hq : S.length ≤ q) : Ext p S (S'.set q d) := ⟨by simpa using a.len, fun i h n => by rw [List.getElem?_set_ne (by omega)]; exact a.old i h n⟩
theorem get_new {S : Sto} {d : D} : (S ++ [d])[S.length]? = some d := by simp
theorem Str_len {a b : Str} : (a ++ b).length = a.length + b.length := Str.length_append a b
theorem add_str {S : Sto} {a b : Str} (h : a.length + b.length ≤ 1000000) : dAddL (.str a) (.str b) S = .ok (.str (a ++ b)) S := by
  show (if few (a.length + b.length) = true then Res.ok (D.str (a ++ b)) S else .stuck) = _
  have hf : few (a.length + b.length) = true := decide_eq_true h
  rw [if_pos hf]
end Rf

set_option Elab.async false
set_option linter.all false
set_option maxRecDepth 100000
/-! R23: a def that leaves no cell behind: what it made is gone or stands still; pop, extend; while. -/
namespace Rf
open PySem L2 PyProof.Rows
mutual
/-- no cell from n on within -/
def nlt (n : Nat) : D → Bool
  | .non => true
  | .bl _ => true
  | .int _ => true
  | .str _ => true
  | .ty _ => true
  | .cl _ => true
  | .sti _ => true
  | .fdk _ => false
  | .tup ds => nlts n ds
  | .lst ds => nlts n ds
  | .fro ds => nlts n ds
  | .dk kvs => nltK n kvs
  | .dt kvs => kvs.isEmpty
  | .ins _ _ => false
  | .loc k => decide (k < n)
def nlts (n : Nat) : List D → Bool
  | [] => true
  | d :: ds => nlt n d && nlts n ds
def nltK (n : Nat) : List (Key × D) → Bool
  | [] => true
  | p :: ds => nlt n p.2 && nltK n ds
end
theorem nltK_map (n : Nat) : ∀ kvs : List (Key × D), nltK n kvs = nlts n (kvs.map (·.2))
  | [] => rfl
  | p :: r => by rw [nltK, List.map_cons, nlts, nltK_map n r]
section
variable {Y : Yt} {as as' : List Addr} {F : Hp} {n : Nat}
mutual
theorem Rp.cutL (p : ∀ (i : Nat) (a : Addr), i < n → as[i]? = some a → as'[i]? = some a) : ∀ {d : D} {v : V}, Rp Y as F d v → nlt n d = true → Rp Y as' F d v
  | _, _, .non, _ => .non
  | _, _, .bl b, _ => .bl b
  | _, _, .int i, _ => .int i
  | _, _, .str x, _ => .str x
  | _, _, .tup h r, e => .tup h (Rps.cutL p r (by rw [nlt] at e; exact e))
  | _, _, .lst h r, e => .lst h (Rps.cutL p r (by rw [nlt] at e; exact e))
  | _, _, .fro h r, e => .fro h (Rps.cutL p r (by rw [nlt] at e; exact e))
  | _, _, .dk h k z r, e => .dk h k z (Rps.cutL p r (by rw [nlt, nltK_map] at e; exact e))
  | _, _, .dt (kvs := kvs) h k z r, e => by
    rw [nlt] at e
    have e0 : kvs = [] := List.isEmpty_iff.mp e
    subst e0
    refine .dt h k z ?_
    cases r
    exact .nil
  | _, _, .ins c h k z r, e => by rw [nlt] at e; cases e
  | _, _, .loc h, e => by
    rw [nlt] at e
    exact .loc (p _ _ (of_decide_eq_true e) h)
  | _, _, .ty n, _ => .ty n
  | _, _, .cl h, _ => .cl h
  | _, _, .sti h k, _ => .sti h k
  | _, _, .fdk h k z r, e => by rw [nlt] at e; cases e
theorem Rps.cutL (p : ∀ (i : Nat) (a : Addr), i < n → as[i]? = some a → as'[i]? = some a) : ∀ {ds : List D} {vs : List V}, Rps Y as F ds vs → nlts n ds = true → Rps Y as' F ds vs
  | _, _, .nil, _ => .nil
  | _, _, .cons h r, e => by
    rw [nlts, Bool.and_eq_true] at e
    exact .cons (Rp.cutL p h e.1) (Rps.cutL p r e.2)
end
theorem ob_cut {H F' : Hp} (p : ∀ (i : Nat) (a : Addr), i < n → as[i]? = some a → as'[i]? = some a) (f : ∀ a o, F a = some o → F' a = some o) {a : Addr} {d : D} (h : ObAt Y as F H a d) (e : nlt n d = true) : ObAt Y as' F' H a d := by
  have up : ∀ {ds : List D} {vs : List V}, Rps Y as F ds vs → nlts n ds = true → Rps Y as' F' ds vs := fun r e => (r.cutL p e).mo (fun _ _ h => h) f
  cases d with
  | lst ds => obtain ⟨vs, e1, r⟩ := h; exact ⟨vs, e1, up r (by rw [nlt] at e; exact e)⟩
  | dk kvs => obtain ⟨ws, e1, z, r⟩ := h; exact ⟨ws, e1, z, up r (by rw [nlt, nltK_map] at e; exact e)⟩
  | dt kvs =>
    obtain ⟨ws, e1, z, r⟩ := h
    rw [nlt] at e
    have e0 : kvs = [] := List.isEmpty_iff.mp e
    subst e0
    refine ⟨ws, e1, z, ?_⟩
    have e2 : ws = [] := by cases ws with
      | nil => rfl
      | cons _ _ => cases z
    subst e2
    exact .nil
  | ins c fs => rw [nlt] at e; cases e
  | _ => exact h.elim
end
/-- what is told, cells that were made by what they hold -/
def frzR (n : Nat) (S : Sto) : D → Option D
  | .loc k => if k < n then some (.loc k) else match lstOf S[k]? with
    | some ds => if nlts n ds = true then some (.lst ds) else none
    | none => none
  | d => if nlt n d = true then some d else none
def clean (mu : MS) : MS := fun ρ S => match mu ρ S with
  | .rt d S1 => if (S1.take S.length).all (nlt S.length) = true then match frzR S.length S1 d with
    | some d' => .rt d' (S1.take S.length)
    | none => .stuck
    else .stuck
  | _ => .stuck
theorem take_pre {as as1 : List Addr} (h : ∀ (n : Nat) (a : Addr), as[n]? = some a → as1[n]? = some a) : as.length ≤ as1.length ∧ as1.take as.length = as := by
  have hl : as.length ≤ as1.length := by
    by_cases z : as.length = 0
    · omega
    · have := h (as.length - 1) (as[as.length - 1]'(by omega)) (List.getElem?_eq_getElem (by omega))
      have := (List.getElem?_eq_some_iff.mp this).1
      omega
  refine ⟨hl, List.ext_getElem? fun i => ?_⟩
  by_cases hi : i < as.length
  · rw [List.getElem?_take_of_lt hi, List.getElem?_eq_getElem hi]
    exact h i _ (List.getElem?_eq_getElem hi)
  · rw [List.getElem?_eq_none (by rw [List.length_take]; omega), List.getElem?_eq_none (by omega)]
section
variable {X : Cx} {Y : Yt} {E : XK} {sts : List Stmt} {mu : MS}
theorem clean_at {as : List Addr} {F H : Hp} {σ : L2.St} {ρ : Rho} {S : Sto} {Dn : Ends} (t : At Y σ H F as ρ S) (q : AfterS Y E as F H (clean mu ρ S) Dn) : AfterS Y E as F H (mu ρ S) Dn := by
  unfold clean at q
  cases hm : mu ρ S with
  | rt d S1 =>
    rw [hm] at q
    have q : AfterS Y E as F H (if (S1.take S.length).all (nlt S.length) = true then match frzR S.length S1 d with
      | some d' => .rt d' (S1.take S.length)
      | none => .stuck
      else .stuck) Dn := q
    split at q
    · rename_i hc
      cases hf : frzR S.length S1 d with
      | none => rw [hf] at q; exact q.elim
      | some d' =>
        rw [hf] at q
        have q : AfterS Y E as F H (.rt d' (S1.take S.length)) Dn := q
        intro as1 F1 H1 v x s r
        obtain ⟨hl, htk⟩ := take_pre x.pre
        have hn : as.length = S.length := t.st.len
        rw [hn] at hl htk
        have nd := s.nd
        rw [← List.take_append_drop S.length as1, htk] at nd
        have nd3 := List.nodup_append.mp nd
        have old : ∀ (i : Nat) (a : Addr), i < S.length → as1[i]? = some a → as[i]? = some a := fun i a hi h => by
          rw [← htk, List.getElem?_take_of_lt hi]
          exact h
        have f1 : ∀ a o, F1 a = some o → (if a ∈ as1.drop S.length then H1 a else F1 a) = some o := fun a o h => by
          rw [if_neg fun z => (s.sub a o h).1 (List.mem_of_mem_drop z)]
          exact h
        refine q as (fun a => if a ∈ as1.drop S.length then H1 a else F1 a) H1 v ⟨fun _ _ h => h, fun a o h => f1 a o (x.ex a o h), fun a o h1 h2 => ⟨h1, (x.st a o h1 h2).2⟩, fun a o h => ?_⟩ ⟨fun a o h => ?_, by rw [List.length_take, ← s.len]; omega, t.st.nd, fun i a e h1 h2 => ?_⟩ ?_
        · have h : (if a ∈ as1.drop S.length then H1 a else F1 a) = some o := h
          split at h
          · rename_i hd
            by_cases ha : a ∈ as
            · exact .inr (.inr ha)
            · cases hh : H a with
              | none => exact .inr (.inl rfl)
              | some u => exact absurd (List.mem_of_mem_drop hd) (x.st a u ha hh).1
          · exact x.gr a o h
        · have h : (if a ∈ as1.drop S.length then H1 a else F1 a) = some o := h
          split at h
          · rename_i hd
            exact ⟨fun z => nd3.2.2 a z a hd rfl, h⟩
          · obtain ⟨h1, h2⟩ := s.sub a o h
            exact ⟨fun z => h1 (by rw [← htk] at z; exact List.mem_of_mem_take z), h2⟩
        · have hi : i < S.length := by rw [← hn]; exact (List.getElem?_eq_some_iff.mp h1).1
          have h3 := h2
          rw [List.getElem?_take_of_lt hi] at h2
          exact ob_cut old f1 (s.ob i a e (x.pre i a h1) h2) (List.all_eq_true.mp hc e (List.mem_of_getElem? h3))
        · by_cases hk : ∃ k, d = .loc k
          · obtain ⟨k, rfl⟩ := hk
            have hf : (if k < S.length then some (D.loc k) else match lstOf S1[k]? with
              | some ds => if nlts S.length ds = true then some (D.lst ds) else none
              | none => none) = some d' := hf
            split at hf
            · rename_i hlt
              cases hf
              cases r with
              | loc h => exact .loc (old k _ hlt h)
            · rename_i hge
              cases hds : lstOf S1[k]? with
              | none => rw [hds] at hf; cases hf
              | some ds =>
                rw [hds] at hf
                have hf : (if nlts S.length ds = true then some (D.lst ds) else none) = some d' := hf
                split at hf
                · rename_i hnl
                  cases hf
                  cases r with
                  | @loc _ a h =>
                    obtain ⟨vs, g1, g2⟩ := s.ob k a _ h (lstOf_some hds)
                    refine .lst ?_ ((g2.cutL old hnl).mo (fun _ _ h => h) f1)
                    show (if a ∈ as1.drop S.length then H1 a else F1 a) = _
                    rw [if_pos]
                    · exact g1
                    · refine List.mem_of_getElem? (i := k - S.length) ?_
                      rw [List.getElem?_drop, show S.length + (k - S.length) = k by omega]
                      exact h
                · cases hf
          · have e : frzR S.length S1 d = if nlt S.length d = true then some d else none := by
              cases d <;> first | rfl | exact absurd ⟨_, rfl⟩ hk
            rw [e] at hf
            split at hf
            · cases hf
              exact (r.cutL old (by assumption)).mo (fun _ _ h => h) f1
            · cases hf
    · exact q.elim
  | _ => rw [hm] at q; exact q.elim
theorem is_clean (h : PSs X sts (iS Y E mu)) : PSs X sts (iS Y E (clean mu)) := PSs_imp h fun Dn σ H ⟨F, as, ρ, S, t, q⟩ => ⟨F, as, ρ, S, t, clean_at t q⟩
end

/-! ### o.pop(i), o.extend(e) -/
def mPop (mo mi : M) : M := fun ρ S => (mo ρ S).bnd fun o S1 => match o with
  | .loc k => if (lstOf S1[k]?).isSome = true then (mi ρ S1).bnd fun i S2 => match i with
    | .int i => match lstOf S2[k]? with
      | some ds => if 0 ≤ i ∧ i < ds.length ∧ ds.length < 1000000 then match ds[i.toNat]? with
        | some d => .ok d (S2.set k (.lst (ds.eraseIdx i.toNat)))
        | none => .stuck
        else .stuck
      | none => .stuck
    | _ => .stuck
    else .stuck
  | _ => .stuck
theorem Rps.erase {Y : Yt} {as : List Addr} {F : Hp} : ∀ {ds : List D} {vs : List V} (i : Nat), Rps Y as F ds vs → Rps Y as F (ds.eraseIdx i) (vs.eraseIdx i)
  | _, _, _, .nil => by simp; exact .nil
  | _, _, 0, .cons _ r => by simpa using r
  | _, _, i + 1, .cons h r => by rw [List.eraseIdx_cons_succ, List.eraseIdx_cons_succ]; exact .cons h (Rps.erase i r)
section
variable {X : Cx} {Y : Yt} {E : XK} {a e : Expr} {mo me : M} {apos cpos : Pos}
theorem i_pop (ho : PE X a (iE Y E mo)) (he : PE X e (iE Y E me)) (hbase : attributeBase a "pop" X.env (eval a X.env) = eval a X.env := by rfl)
    (hfew : ((backTo cpos (starEach [e] X.env)).all (fun x => !x.1) && (backToKw cpos (keywordEach [] X.env)).all (fun x => x.1.isSome)
      && decide (([e] : List Expr).length + ([] : List Keyword).length + (if ([] : List Keyword).isEmpty then 0 else 1) < 30)) = true := by rfl)
    (hline : (apos.endLine == cpos.line) = true := by rfl) (hs : starEach [e] X.env = (false, eval e X.env) :: starEach [] X.env := by rfl) (hplain : (backTo cpos (starEach [] X.env)).any (·.1) = false := by rfl) :
    PE X (.Call (.Attribute a "pop" apos) [e] [] cpos) (iE Y E (mPop mo me)) :=
  PE_imp (pe_bm PySem.F.plainAttrs_list PySem.F.slot_list_pop PySem.F.type_list_pop mt_popAt ho (pa_cons he pa_nil hs) hbase hfew hline hs hplain) fun σ H Q ⟨F, as, ρ, S, t, q⟩ => ⟨F, as, ρ, S, t, (After.bnd q).imp fun v H1 ⟨d, S1, F1, as1, x1, s1, r1, q1⟩ => by
    cases r1 with
    | @loc k la hla =>
      obtain ⟨h, q1⟩ := ite_stuck q1
      obtain ⟨ds0, h0⟩ := Option.isSome_iff_exists.mp h
      obtain ⟨vs0, g0, _⟩ := s1.ob _ _ _ hla (lstOf_some h0)
      refine ⟨.inl ⟨rfl, vs0, SqL.of g0⟩, F1, as1, ρ, S1, t.mo x1 s1, (After.bnd q1).imp fun v2 H2 ⟨d2, S2, F2, as2, x2, s2, r2, q2⟩ => ?_⟩
      cases r2 with
      | int i =>
        have q2 : After Y E (Rp Y) as2 F2 H2 (match lstOf S2[k]? with
          | some ds => if 0 ≤ i ∧ i < ds.length ∧ ds.length < 1000000 then match ds[i.toNat]? with
            | some d => .ok d (S2.set k (.lst (ds.eraseIdx i.toNat)))
            | none => .stuck
            else .stuck
          | none => .stuck) Q := q2
        cases h2 : lstOf S2[k]? with
        | none => rw [h2] at q2; exact q2.elim
        | some ds =>
          rw [h2] at q2
          obtain ⟨⟨i0, i1, i2⟩, q2⟩ := ite_stuck q2
          cases h3 : ds[i.toNat]? with
          | none => rw [h3] at q2; exact q2.elim
          | some d3 =>
            rw [h3] at q2
            obtain ⟨ws, g1, g2⟩ := s2.ob _ _ _ (x2.pre _ _ hla) (lstOf_some h2)
            obtain ⟨w, hw, rw3⟩ := g2.get h3
            have hz : seqIndex? i ws.length = some i.toNat := by
              rw [← g2.length]
              unfold seqIndex?
              simp only [show ¬ i < 0 by omega, if_false]
              rw [if_pos (by simp; omega)]
            refine ⟨la, ws, i, i.toNat, w, rfl, rfl, g1, by omega, by omega, hz, hw, ?_⟩
            have hm : la ∈ as2 := List.mem_of_getElem? (x2.pre _ _ hla)
            have x3 := Xt.write (o := .lst (ws.eraseIdx i.toNat)) (H := H2) (F := F2) hm
            exact q2 as2 F2 _ _ x3 (s2.write (x2.pre _ _ hla) ⟨_, upd_same, g2.erase _⟩) rw3
      | _ => exact q2.elim
    | _ => exact q1.elim⟩
end
end Rf

set_option Elab.async false
set_option linter.all false
set_option maxRecDepth 100000
/-! R24: dicts of texts by data; extend; while. -/
namespace Rf
open PySem L2 PyProof.Rows

/-! ### keys and entries -/
def keyOf : D → Option Key
  | .str x => some (.inr x)
  | .int i => some (.inl i)
  | _ => none
def keyD : Key → D
  | .inl i => .int i
  | .inr x => .str x
theorem keyOf_at {Y : Yt} {as : List Addr} {F : Hp} {d : D} {v : V} {k : Key} (r : Rp Y as F d v) (e : keyOf d = some k) : v = kV k := by
  cases r <;> first | (cases e; rfl) | cases e
theorem keyD_rp {Y : Yt} {as : List Addr} {F : Hp} (k : Key) : Rp Y as F (keyD k) (kV k) := by
  cases k with
  | inl i => exact .int i
  | inr x => exact .str x
def valD : List (Key × D) → Key → Option D
  | [], _ => none
  | p :: r, k => if p.1 = k then some p.2 else valD r k
def putD (kvs : List (Key × D)) (k : Key) (d : D) : List (Key × D) :=
  if (kvs.any fun kv => decide (kv.1 = k)) = true then kvs.map (fun kv => if kv.1 = k then (kv.1, d) else kv) else kvs ++ [(k, d)]
section
variable {Y : Yt} {as : List Addr} {F : Hp}
/-- entries by data -/
abbrev KR (Y : Yt) (as : List Addr) (F : Hp) (kvs : List (Key × D)) (ws : List (Key × V)) : Prop := ws.map (·.1) = kvs.map (·.1) ∧ Rps Y as F (kvs.map (·.2)) (ws.map (·.2))
theorem KR.val : ∀ {kvs : List (Key × D)} {ws : List (Key × V)} {k : Key} {d : D}, KR Y as F kvs ws → valD kvs k = some d → ∃ v, valV ws k = some v ∧ Rp Y as F d v
  | [], _, _, _, _, e => by cases e
  | p :: r, [], _, _, h, _ => by cases h.1
  | p :: r, w :: ws, k, d, ⟨h1, h2⟩, e => by
    rw [List.map_cons, List.map_cons] at h1
    injection h1 with h3 h4
    cases h2 with
    | cons hr hs =>
      unfold valD at e
      split at e
      · rename_i hk
        cases e
        exact ⟨_, valV_pos (h3.trans hk), hr⟩
      · rename_i hk
        obtain ⟨v, g1, g2⟩ := KR.val (kvs := r) (ws := ws) ⟨h4, hs⟩ e
        exact ⟨v, by rw [valV_neg (by rw [h3]; exact hk)]; exact g1, g2⟩
theorem KR.any : ∀ {kvs : List (Key × D)} {ws : List (Key × V)} {k : Key}, KR Y as F kvs ws → (ws.any fun kv => decide (kv.1 = k)) = (kvs.any fun kv => decide (kv.1 = k))
  | [], [], _, _ => rfl
  | [], _ :: _, _, h => by cases h.1
  | p :: r, [], _, h => by cases h.1
  | p :: r, w :: ws, k, ⟨h1, h2⟩ => by
    rw [List.map_cons, List.map_cons] at h1
    injection h1 with h3 h4
    cases h2 with
    | cons hr hs => rw [List.any_cons, List.any_cons, h3, KR.any (kvs := r) (ws := ws) ⟨h4, hs⟩]
theorem KR.put {kvs : List (Key × D)} {ws : List (Key × V)} {k : Key} {d : D} {v : V} (h : KR Y as F kvs ws) (r : Rp Y as F d v) : KR Y as F (putD kvs k d) (putK ws k v) := by
  unfold putD putK
  rw [h.any]
  split
  · have key : ∀ {kvs : List (Key × D)} {ws : List (Key × V)}, KR Y as F kvs ws → KR Y as F (kvs.map fun kv => if kv.1 = k then (kv.1, d) else kv) (ws.map fun kv => if kv.1 = k then (kv.1, v) else kv) := by
      intro kvs
      induction kvs with
      | nil =>
        intro ws h
        cases ws with
        | nil => exact h
        | cons _ _ => cases h.1
      | cons p kvs ih =>
        intro ws h
        cases ws with
        | nil => cases h.1
        | cons w ws =>
          obtain ⟨h1, h2⟩ := h
          rw [List.map_cons, List.map_cons] at h1
          injection h1 with h3 h4
          cases h2 with
          | cons hr hs =>
            obtain ⟨g1, g2⟩ := ih (ws := ws) ⟨h4, hs⟩
            rw [List.map_cons, List.map_cons, h3]
            by_cases hk : p.1 = k
            · rw [if_pos hk, if_pos hk]
              exact ⟨by rw [List.map_cons, List.map_cons, g1], .cons r g2⟩
            · rw [if_neg hk, if_neg hk]
              exact ⟨by rw [List.map_cons, List.map_cons, g1, h3], .cons hr g2⟩
    exact key h
  · exact ⟨by rw [List.map_append, List.map_append, h.1]; rfl, by rw [List.map_append, List.map_append]; exact h.2.app (.cons r .nil)⟩
end
/-- the entries of a dict -/
def dkOf (S : Sto) : D → Option (List (Key × D))
  | .dk kvs => some kvs
  | .fdk kvs => some kvs
  | .loc k => match S[k]? with
    | some (.dk kvs) => some kvs
    | _ => none
  | _ => none
theorem dk_at {Y : Yt} {as : List Addr} {S : Sto} {H F : Hp} (st : StR Y H F as S) {d : D} {v : V} {kvs : List (Key × D)} (r : Rp Y as F d v) (e : dkOf S d = some kvs) : ∃ a ws, v = .ref a ∧ Rd H a (.dK ws) ∧ KR Y as F kvs ws := by
  cases r with
  | dk h k z r => cases e; subst z; exact ⟨_, _, rfl, .inl (lst_up st h), k, r⟩
  | fdk h k z r => cases e; subst z; exact ⟨_, _, rfl, .inr ⟨_, lst_up st h⟩, k, r⟩
  | @loc k a h =>
    have e : (match S[k]? with
      | some (.dk kvs) => some kvs
      | _ => none) = some kvs := e
    cases hS : S[k]? with
    | none => rw [hS] at e; cases e
    | some d =>
      rw [hS] at e
      cases d with
      | dk kvs' =>
        cases e
        obtain ⟨ws, e2, z, r⟩ := st.ob k _ _ h hS
        exact ⟨_, ws, rfl, .inl e2, z, r⟩
      | _ => cases e
  | _ => cases e
/-- d[k] -/
def mDGet (mo mi : M) : M := fun ρ S => (mo ρ S).bnd fun o S1 => (mi ρ S1).bnd fun i S2 => match dkOf S2 o with
  | some kvs => match keyOf i with
    | some k => match valD kvs k with
      | some d => .ok d S2
      | none => .stuck
    | none => .stuck
  | none => .stuck
section
variable {X : Cx} {Y : Yt} {E : XK} {a i e : Expr} {mo mi me : M} {pos : Pos}
theorem i_dget (o : On X Y) (ho : PE X a (iE Y E mo)) (hi : PE X i (iE Y E mi)) (hs : NoSl i) : PE X (.Subscript a i pos) (iE Y E (mDGet mo mi)) :=
  PE_imp (pe_dget (by have := o.hu; omega) ho hi hs) fun σ H Q ⟨F, as, ρ, S, t, q⟩ => ⟨F, as, ρ, S, t, (After.bnd q).imp fun v H1 ⟨d, S1, F1, as1, x1, s1, r1, q1⟩ => ⟨F1, as1, ρ, S1, t.mo x1 s1, (After.bnd q1).imp fun v2 H2 ⟨d2, S2, F2, as2, x2, s2, r2, q2⟩ => by
    cases h1 : dkOf S2 d with
    | none => rw [h1] at q2; exact q2.elim
    | some kvs =>
      rw [h1] at q2
      have q2 : After Y E (Rp Y) as2 F2 H2 (match keyOf d2 with
        | some k => match valD kvs k with
          | some d => .ok d S2
          | none => .stuck
        | none => .stuck) Q := q2
      cases h2 : keyOf d2 with
      | none => rw [h2] at q2; exact q2.elim
      | some k =>
        rw [h2] at q2
        have q2 : After Y E (Rp Y) as2 F2 H2 (match valD kvs k with
          | some d => .ok d S2
          | none => .stuck) Q := q2
        cases h3 : valD kvs k with
        | none => rw [h3] at q2; exact q2.elim
        | some d3 =>
          rw [h3] at q2
          obtain ⟨p, ws, rfl, rd, kr⟩ := dk_at s2 (r1.mo x2.pre x2.ex) h1
          obtain ⟨w, g1, g2⟩ := kr.val h3
          exact ⟨p, w, rfl, .inl ⟨ws, k, rd, keyOf_at r2 h2, g1.symm⟩, q2.now s2 g2⟩⟩⟩
/-- d[k] = e -/
def gDk (mo mi : M) : MG := fun d ρ S => match cellOf (mo ρ S) with
  | some p => match mi ρ p.2 with
    | .ok i S2 => match S2[p.1]? with
      | some (.dk kvs) => match keyOf i with
        | some k => if few kvs.length = true then some (ρ, S2.set p.1 (.dk (putD kvs k d))) else none
        | none => none
      | _ => none
    | _ => none
  | none => none
theorem ig_dk {vs : List Nat} (o : On X Y) (ho : PE X a (iE Y E mo)) (hi : PE X i (iE Y E mi)) (ha : ∀ v, assign (.Subscript a i pos) X.env v = (do
      let ov ← holding [v] (eval a X.env)
      let iv ← holding [v, ov] (eval i X.env)
      standAt pos
      holding [v, ov, iv] (setItem ov iv v)
      release [v, ov, iv] []) := by intro _; rfl) : PG X (.Subscript a i pos) (iG Y vs (gDk mo mi)) := PG_imp (pg_sub ho hi (set_dict (by have := o.hu; omega)) ha) fun v σ H Q ⟨F, as, ρ, S, d, ρ1, S1, t, r, e1, q⟩ => by
  unfold gDk at e1
  cases h1 : cellOf (mo ρ S) with
  | none => rw [h1] at e1; cases e1
  | some p =>
    rw [h1] at e1
    have e1 : (match mi ρ p.2 with
      | .ok i S2 => match S2[p.1]? with
        | some (.dk kvs) => match keyOf i with
          | some k => if few kvs.length = true then some (ρ, S2.set p.1 (.dk (putD kvs k d))) else none
          | none => none
        | _ => none
      | _ => none) = some (ρ1, S1) := e1
    cases h2 : mi ρ p.2 with
    | stuck => rw [h2] at e1; cases e1
    | err y S2 => rw [h2] at e1; cases e1
    | ok di S2 =>
      rw [h2] at e1
      have e1 : (match S2[p.1]? with
        | some (.dk kvs) => match keyOf di with
          | some k => if few kvs.length = true then some (ρ, S2.set p.1 (.dk (putD kvs k d))) else none
          | none => none
        | _ => none) = some (ρ1, S1) := e1
      cases h3 : S2[p.1]? with
      | none => rw [h3] at e1; cases e1
      | some dd =>
        rw [h3] at e1
        cases dd with
        | dk kvs =>
          have e1 : (match keyOf di with
            | some k => if few kvs.length = true then some (ρ, S2.set p.1 (.dk (putD kvs k d))) else none
            | none => none) = some (ρ1, S1) := e1
          cases h4 : keyOf di with
          | none => rw [h4] at e1; cases e1
          | some k =>
            rw [h4] at e1
            have e1 : (if few kvs.length = true then some (ρ, S2.set p.1 (.dk (putD kvs k d))) else none) = some (ρ1, S1) := e1
            split at e1
            · rename_i hf
              cases e1
              refine ⟨F, as, ρ, S, t, ?_⟩
              rw [cellOf_some h1]
              intro as1 F1 H1 o x1 s1 ro
              cases ro with
              | @loc n la hla =>
                refine ⟨F1, as1, ρ, p.2, t.mo x1 s1, ?_⟩
                rw [h2]
                intro as2 F2 H2 iv x2 s2 ri
                obtain ⟨ws, g1, g2, g3⟩ := s2.ob _ _ _ (x2.pre _ _ hla) h3
                have kr : KR Y as2 F2 kvs ws := ⟨g2, g3⟩
                have hz : ws.length < sizeLine := by
                  have e := congrArg List.length g2
                  rw [List.length_map, List.length_map] at e
                  have := of_decide_eq_true hf
                  rw [sizeLine_eq]
                  omega
                refine ⟨la, _, rfl, .inl ⟨ws, k, g1, keyOf_at ri h4, hz, rfl⟩, ?_⟩
                have rr := kr.put (k := k) ((r.mo x1.pre x1.ex).mo x2.pre x2.ex)
                have hm : la ∈ as2 := List.mem_of_getElem? (x2.pre _ _ hla)
                have x3 := Xt.write (o := .dK (putK ws k v)) (H := H2) (F := F2) hm
                exact q as2 F2 _ σ ((x1.trans x2).trans x3) (s2.write (x2.pre _ _ hla) ⟨_, upd_same, rr.1, rr.2⟩) ((t.fr.mo (x1.trans x2)).mo x3) But.refl
            · cases e1
        | _ => cases e1
end
/-! ### for k in a dict that stands still -/
def mKeys (m : M) : MI := fun ρ S => (m ρ S).bnd fun d S1 => match d with
  | .fdk kvs => .ok ⟨kvs.map fun kv => keyD kv.1, free⟩ S1
  | _ => .stuck
section
variable {X : Cx} {Y : Yt} {E : XK} {tg e : Expr} {m : M}
theorem iw_keys {as : List Addr} {F H : Hp} {a : Addr} {o : Obj} {kvs : List (Key × D)} {ws : List (Key × V)} (h : F a = some (.frz o (.dK ws))) (hk : ws.map (·.1) = kvs.map (·.1)) : IW Y as F H ⟨kvs.map fun kv => keyD kv.1, free⟩ (Itk a o ws) := by
  have hl : ws.length = kvs.length := by have := congrArg List.length hk; simpa using this
  refine ⟨_, _, by show Walk _ (List.length _) _ _; rw [List.length_map, ← hl]; exact walk_keys, fun as' F' H' S' x s _ => (s.sub _ _ (x.ex _ _ h)).2, fun i d as' F' H' S' x H2 e xt st y => ?_⟩
  obtain ⟨rfl, k, v, e1, rfl⟩ := y
  have e : (kvs.map fun kv => keyD kv.1)[i]? = some d := e
  rw [List.getElem?_map] at e
  obtain ⟨q, e3, rfl⟩ := map_some e
  have hq : q.1 = k := by
    have := congrArg (·[i]?) hk
    simp only [List.getElem?_map, e1, e3, Option.map_some] at this
    exact (Option.some.inj this).symm
  rw [hq]
  exact ⟨F', Xt.refl _ _ _, st, keyD_rp k⟩
theorem ii_keys (he : PE X e (iE Y E m)) : PI X tg e (iI Y E (mKeys m)) := PI_imp (pi_keys he) fun σ H R ⟨F, as, ρ, S, t, q⟩ => ⟨F, as, ρ, S, t, (AfterI.bnd q).imp fun v H1 ⟨d, S1, F1, as1, x1, s1, r1, q1⟩ => by
  cases r1 with
  | @fdk a o ws kvs vs h k z r =>
    have q1 : AfterI Y E as1 F1 H1 (.ok ⟨kvs.map fun kv => keyD kv.1, free⟩ S1) R := q1
    exact ⟨a, o, rfl, .inl ⟨ws, lst_up s1 h, q1 as1 F1 H1 _ (Xt.refl _ _ _) s1 (iw_keys h k)⟩⟩
  | _ => exact q1.elim⟩
end
end Rf

set_option Elab.async false
set_option linter.all false
set_option maxRecDepth 100000
/-! R25: extend, dict displays, a dict that is walked, while. -/
namespace Rf
open PySem L2 PyProof.Rows

/-! ### o.extend(list) -/
def mExt (mo me : M) : M := fun ρ S => (mo ρ S).bnd fun o S1 => match o with
  | .loc k => if (lstOf S1[k]?).isSome = true then (me ρ S1).bnd fun d S2 => match d with
    | .lst es => match lstOf S2[k]? with
      | some ds => if few (ds.length + es.length) = true then .ok .non (S2.set k (.lst (ds ++ es))) else .stuck
      | none => .stuck
    | _ => .stuck
    else .stuck
  | _ => .stuck
section
variable {X : Cx} {Y : Yt} {E : XK} {a e : Expr} {mo me : M} {apos cpos : Pos}
theorem i_ext (ho : PE X a (iE Y E mo)) (he : PE X e (iE Y E me)) (hbase : attributeBase a "extend" X.env (eval a X.env) = eval a X.env := by rfl)
    (hfew : ((backTo cpos (starEach [e] X.env)).all (fun x => !x.1) && (backToKw cpos (keywordEach [] X.env)).all (fun x => x.1.isSome)
      && decide (([e] : List Expr).length + ([] : List Keyword).length + (if ([] : List Keyword).isEmpty then 0 else 1) < 30)) = true := by rfl)
    (hline : (apos.endLine == cpos.line) = true := by rfl) (hs : starEach [e] X.env = (false, eval e X.env) :: starEach [] X.env := by rfl) (hplain : (backTo cpos (starEach [] X.env)).any (·.1) = false := by rfl) :
    PE X (.Call (.Attribute a "extend" apos) [e] [] cpos) (iE Y E (mExt mo me)) :=
  PE_imp (pe_bm PySem.F.plainAttrs_list PySem.F.slot_list_extend PySem.F.type_list_extend mt_extend ho (pa_cons he pa_nil hs) hbase hfew hline hs hplain) fun σ H Q ⟨F, as, ρ, S, t, q⟩ => ⟨F, as, ρ, S, t, (After.bnd q).imp fun v H1 ⟨d, S1, F1, as1, x1, s1, r1, q1⟩ => by
    cases r1 with
    | @loc k la hla =>
      obtain ⟨h, q1⟩ := ite_stuck q1
      obtain ⟨ds0, h0⟩ := Option.isSome_iff_exists.mp h
      obtain ⟨vs0, g0, _⟩ := s1.ob _ _ _ hla (lstOf_some h0)
      refine ⟨.inl ⟨rfl, vs0, SqL.of g0⟩, F1, as1, ρ, S1, t.mo x1 s1, (After.bnd q1).imp fun v2 H2 ⟨d2, S2, F2, as2, x2, s2, r2, q2⟩ => ?_⟩
      cases r2 with
      | @lst b us es hb rb =>
        have q2 : After Y E (Rp Y) as2 F2 H2 (match lstOf S2[k]? with
          | some ds => if few (ds.length + es.length) = true then .ok .non (S2.set k (.lst (ds ++ es))) else .stuck
          | none => .stuck) Q := q2
        cases h2 : lstOf S2[k]? with
        | none => rw [h2] at q2; exact q2.elim
        | some ds =>
          rw [h2] at q2
          obtain ⟨h3, q2⟩ := ite_stuck q2
          obtain ⟨ws, g1, g2⟩ := s2.ob _ _ _ (x2.pre _ _ hla) (lstOf_some h2)
          refine ⟨la, b, ws, us, rfl, rfl, g1, lst_up s2 hb, ?_, ?_⟩
          · rw [← g2.length, ← rb.length]
            exact few_line h3
          · have hm : la ∈ as2 := List.mem_of_getElem? (x2.pre _ _ hla)
            have x3 := Xt.write (o := .lst (ws ++ us)) (H := H2) (F := F2) hm
            exact q2 as2 F2 _ _ x3 (s2.write (x2.pre _ _ hla) ⟨_, upd_same, g2.app rb⟩) .non
      | _ => exact q2.elim
    | _ => exact q1.elim⟩
end

/-! ### a dict display with texts for keys: a cell -/
theorem merge_new : ∀ (more acc : List (Key × V)), (∀ p ∈ more, ∀ q ∈ acc, q.1 ≠ p.1) → (more.map (·.1)).Nodup → mergeK acc more = acc ++ more
  | [], acc, _, _ => by simp [mergeK]
  | p :: r, acc, h, hn => by
    rw [List.map_cons, List.nodup_cons] at hn
    have e : putK acc p.1 p.2 = acc ++ [p] := by
      unfold putK
      rw [if_neg]
      intro z
      obtain ⟨q, hq, e⟩ := List.any_eq_true.mp z
      exact h p (List.mem_cons_self ..) q hq (of_decide_eq_true e)
    show mergeK (putK acc p.1 p.2) r = _
    rw [e, merge_new r (acc ++ [p]) (fun x hx q hq => ?_) hn.2, List.append_assoc]
    · rfl
    · rcases List.mem_append.mp hq with z | z
      · exact h x (List.mem_cons_of_mem _ hx) q z
      · rw [List.mem_singleton.mp z]
        exact fun e => hn.1 (by rw [e]; exact List.mem_map_of_mem hx)
theorem zip_keys : ∀ (zs : List Str) (us : List V), (zs.map V.str).zip us = ((zs.map (Sum.inr : Str → Key)).zip us).map fun kv => (kV kv.1, kv.2)
  | [], _ => rfl
  | _ :: _, [] => rfl
  | z :: zs, u :: us => by rw [List.map_cons, List.map_cons, List.zip_cons_cons, List.zip_cons_cons, List.map_cons, zip_keys zs us]; rfl
/-- the pairs: keys that are texts, values -/
inductive Prs (X : Cx) (Y : Yt) (E : XK) (pos : Pos) : List (Option Expr) → List Expr → List (TE × TE) → List Str → (Rho → Sto → Res (List D)) → Prop
  | nil : Prs X Y E pos [] [] [] [] mNil
  | cons {z : Str} {j : Nat} {p : Pos} {v : Expr} {ks : List (Option Expr)} {vs : List Expr} {trs : List (TE × TE)} {zs : List Str} {m : M} {mr : Rho → Sto → Res (List D)} : PE X v (iE Y E m) → Prs X Y E pos ks vs trs zs mr →
      Prs X Y E pos (some (.Constant (.str z) j p) :: ks) (v :: vs) ((tC (.str z), iE Y E m) :: trs) (z :: zs) (mCons m mr)
theorem Prs.pps {X : Cx} {Y : Yt} {E : XK} {pos : Pos} {ks : List (Option Expr)} {vs : List Expr} {trs : List (TE × TE)} {zs : List Str} {mr : Rho → Sto → Res (List D)} (h : Prs X Y E pos ks vs trs zs mr) : PPs X pos ks vs trs := by
  induction h with
  | nil => exact pps_nil
  | cons hv _ ih => exact pps_cons pe_str hv ih
theorem Prs.run {X : Cx} {Y : Yt} {E : XK} {pos : Pos} {ks : List (Option Expr)} {vs : List Expr} {trs : List (TE × TE)} {zs : List Str} {mr : Rho → Sto → Res (List D)} (h : Prs X Y E pos ks vs trs zs mr) : ∀ {σ : L2.St} {H F : Hp} {as : List Addr} {ρ : Rho} {S : Sto} {Q : List (V × V) → Hp → Prop}, At Y σ H F as ρ S →
    After Y E (Rps Y) as F H (mr ρ S) (fun us H1 => Q ((zs.map V.str).zip us) H1) → tPairs trs σ H Q := by
  induction h with
  | nil => intro σ H F as ρ S Q t q; exact q.now t.st .nil
  | @cons z j p v ks vs trs zs m mr hv _ ih =>
    intro σ H F as ρ S Q t q
    refine (show tC (.str z) σ H _ from ?_)
    show iE Y E m σ H fun y H2 => tPairs trs σ H2 fun ps H3 => Q ((.str z, y) :: ps) H3
    refine ⟨F, as, ρ, S, t, (After.bnd q).imp fun y H1 ⟨d, S1, F1, as1, x1, s1, r1, q1⟩ => ?_⟩
    refine ih (t.mo x1 s1) ((After.bnd q1).imp fun us H2 ⟨ds, S2, F2, as2, x2, s2, r2, q2⟩ => ?_)
    exact q2.now s2 (.cons (r1.mo x2.pre x2.ex) r2)
def mDisp (zs : List Str) (mr : Rho → Sto → Res (List D)) : M := fun ρ S => (mr ρ S).bnd fun ds S1 => if ds.length = zs.length ∧ zs.Nodup then .ok (.loc S1.length) (S1 ++ [.dk ((zs.map Sum.inr).zip ds)]) else .stuck
theorem i_disp {X : Cx} {Y : Yt} {E : XK} {pos : Pos} {ks : List (Option Expr)} {vs : List Expr} {trs : List (TE × TE)} {zs : List Str} {mr : Rho → Sto → Res (List D)} (h : Prs X Y E pos ks vs trs zs mr) (hall : ks.all (·.isSome) = true := by rfl) (hl : ks.length = vs.length := by rfl) (h0 : ks ≠ [] := by simp)
    (h15 : ks.length ≤ 15 := by decide) (hz : zs.length ≤ 15 := by decide) : PE X (.Dict ks vs pos) (iE Y E (mDisp zs mr)) :=
  PE_imp (pe_disp h.pps hall hl h0 h15) fun σ H Q ⟨F, as, ρ, S, t, q⟩ p hp => by
    have x0 : Xt H F as (upd H p (.dK [])) F as := Xt.keep fun a o h => by rw [upd_ne (ne_of_none h hp)]; exact h
    have t0 : At Y σ (upd H p (.dK [])) F as ρ S := t.mo x0 (t.st.keep fun a o h => by rw [upd_ne (ne_of_none h hp)]; exact h)
    have hpa : p ∉ as := t.st.fresh hp
    refine h.run t0 ?_
    cases hm : mr ρ S with
    | stuck => unfold mDisp at q; rw [hm] at q; exact q.elim
    | err y S1 =>
      unfold mDisp at q
      rw [hm] at q
      exact After.weak (rl := Rps Y) (Q := fun us H1 => _) x0 (show After Y E (Rps Y) as F H (.err y S1) _ from q)
    | ok ds S1 =>
      unfold mDisp at q
      rw [hm] at q
      have q : After Y E (Rp Y) as F H (if ds.length = zs.length ∧ zs.Nodup then .ok (.loc S1.length) (S1 ++ [.dk ((zs.map Sum.inr).zip ds)]) else .stuck) Q := q
      obtain ⟨⟨hlen, hnd⟩, q⟩ := ite_stuck q
      intro as2 F2 H2 us x s r
      have hul : us.length = zs.length := by rw [← r.length]; exact hlen
      obtain ⟨hp2, hpH⟩ := x.st p _ hpa upd_same
      have hkeys : ∀ {α : Type} (ls : List α), ls.length = zs.length → ((zs.map (Sum.inr : Str → Key)).zip ls).map (·.1) = zs.map Sum.inr ∧ ((zs.map (Sum.inr : Str → Key)).zip ls).map (·.2) = ls := fun ls hl => ⟨List.map_fst_zip (by rw [List.length_map]; omega), List.map_snd_zip (by rw [List.length_map]; omega)⟩
      have hndK : ((zs.map (Sum.inr : Str → Key))).Nodup := List.Pairwise.map _ (fun a b h e => h (Sum.inr.inj e)) hnd
      have hmerge : mergeK [] ((zs.map (Sum.inr : Str → Key)).zip us) = (zs.map Sum.inr).zip us := by
        rw [merge_new _ [] (fun p _ q hq => by cases hq) (by rw [(hkeys us hul).1]; exact hndK), List.nil_append]
      have hps : (zs.map V.str).zip us = ((zs.map (Sum.inr : Str → Key)).zip us).map fun kv => (kV kv.1, kv.2) := zip_keys zs us
      refine ⟨hpH, (zs.map Sum.inr).zip us, hps, by rw [List.length_zip, List.length_map]; omega, ?_⟩
      rw [hmerge]
      have ne_p : ∀ a ∈ as2, a ≠ p := fun a ha e => hp2 (by rw [← e]; exact ha)
      have hloc : (as2 ++ [p])[S1.length]? = some p := by rw [← s.len]; simp
      refine q (as2 ++ [p]) F2 _ (.ref p) ⟨fun n a h => ?_, x.ex, fun a o h1 h2 => ?_, fun a o h => ?_⟩ ⟨fun a o h => ?_, by rw [List.length_append, List.length_append, s.len]; rfl, ?_, fun n a d h1 h2 => ?_⟩ (.loc hloc)
      · have := x.pre n a h
        rw [List.getElem?_append_left (List.getElem?_eq_some_iff.mp this).1]
        exact this
      · have hap : a ≠ p := ne_of_none h2 hp
        obtain ⟨g1, g2⟩ := x.st a o h1 (by rw [upd_ne hap]; exact h2)
        exact ⟨fun z => (List.mem_append.mp z).elim g1 fun y => hap (List.mem_singleton.mp y), by rw [upd_ne hap]; exact g2⟩
      · rcases x.gr a o h with g | g | g
        · exact .inl g
        · refine .inr (.inl ?_)
          by_cases hap : a = p
          · rw [hap, upd_same] at g; cases g
          · rwa [upd_ne hap] at g
        · exact .inr (.inr g)
      · obtain ⟨g1, g2⟩ := s.sub a o h
        have hap : a ≠ p := fun e => by
          subst e
          rcases x.gr _ o h with g | g | g
          · have := (t.st.sub _ o g).2; rw [hp] at this; cases this
          · rw [upd_same] at g; cases g
          · exact hpa g
        exact ⟨fun z => (List.mem_append.mp z).elim g1 fun y => hap (List.mem_singleton.mp y), by rw [upd_ne hap]; exact g2⟩
      · rw [List.nodup_append]
        exact ⟨s.nd, by simp, fun a ha b hb e => ne_p a ha (e.trans (List.mem_singleton.mp hb))⟩
      · by_cases hn : n < as2.length
        · rw [List.getElem?_append_left hn] at h1
          rw [List.getElem?_append_left (by rw [← s.len]; exact hn)] at h2
          refine ob_mo (fun i b hb => ?_) (fun _ _ h => h) (upd_ne (ne_p a (List.mem_of_getElem? h1))) (s.ob n a d h1 h2)
          rw [List.getElem?_append_left (List.getElem?_eq_some_iff.mp hb).1]
          exact hb
        · rw [List.getElem?_append_right (by omega)] at h1
          rw [List.getElem?_append_right (by rw [← s.len]; omega)] at h2
          have e0 : n - as2.length = 0 := by have := (List.getElem?_eq_some_iff.mp h1).1; simp at this; omega
          have e1 : n - S1.length = 0 := by rw [← s.len]; exact e0
          rw [e0] at h1
          rw [e1] at h2
          cases h1
          cases h2
          refine ⟨_, upd_same, by rw [(hkeys us hul).1, (hkeys ds hlen).1], ?_⟩
          rw [(hkeys us hul).2, (hkeys ds hlen).2]
          exact r.mo (fun i b hb => by rw [List.getElem?_append_left (List.getElem?_eq_some_iff.mp hb).1]; exact hb) fun _ _ h => h
/-! ### an expression for which a dict stands still: it tells a new list of plain values -/
def onlyS (v : Nat) (kvs : List (Key × D)) (ρ : Rho) : Rho := (ρ.map fun o => match o with
  | some d => if lf d = true then some d else none
  | none => none).set v (some (.fdk kvs))
def mStill (v : Nat) (m : M) : M := fun ρ S => match ρ[v]? with
  | some (some (.loc k)) => match S[k]? with
    | some (.dk kvs) => if lfs (kvs.map (·.2)) = true then match m (onlyS v kvs ρ) [] with
      | .ok (.lst ds) _ => if ds.all plainD = true then .ok (.lst ds) S else .stuck
      | _ => .stuck
      else .stuck
    | _ => .stuck
  | _ => .stuck
theorem plains_rp {Y : Yt} {as as' : List Addr} {F F' : Hp} : ∀ {ds : List D} {vs : List V}, ds.all plainD = true → Rps Y as F ds vs → Rps Y as' F' ds vs
  | _, _, _, .nil => .nil
  | _, _, h, .cons r rs => by
    rw [List.all_cons, Bool.and_eq_true] at h
    exact .cons (plain_rp h.1 r) (plains_rp h.2 rs)
theorem i_still {X : Cx} {Y : Yt} {E : XK} {e : Expr} {m : M} {v : Nat} (h : PE X e (iE Y E m)) : PE X e (iE Y E (mStill v m)) := PE_imp (pe_lock h) fun σ H Q ⟨F, as, ρ, S, t, q⟩ => by
  unfold mStill at q
  split at q
  · rename_i k hv
    split at q
    · rename_i kvs hS
      obtain ⟨hlf, q⟩ := ite_stuck q
      obtain ⟨va, hva, rva⟩ := t.fr.at_ v _ hv
      cases rva with
      | @loc _ a ha =>
        obtain ⟨ws, g1, g2, g3⟩ := t.st.ob k a _ ha hS
        have haas : a ∈ as := List.mem_of_getElem? ha
        refine ⟨a, .dK ws, g1, True.intro, fun od => ?_⟩
        have fa : F a = none := by
          cases hf : F a with
          | none => rfl
          | some o => exact absurd haas (t.st.sub a o hf).1
        have f1 : ∀ b o, F b = some o → upd F a (.frz od (.dK ws)) b = some o := fun b o hb => by rw [upd_ne (ne_of_none hb fa)]; exact hb
        refine ⟨upd F a (.frz od (.dK ws)), [], onlyS v kvs ρ, [], ⟨⟨fun b o hb => ⟨by simp, ?_⟩, rfl, .nil, fun n b d h _ => by simp at h⟩, ⟨by simp [onlyS, t.fr.len], fun i d hd => ?_⟩⟩, ?_⟩
        · by_cases hba : b = a
          · rw [hba, upd_same] at hb ⊢; exact hb
          · rw [upd_ne hba] at hb ⊢
            exact (t.st.sub b o hb).2
        · unfold onlyS at hd
          by_cases hvi : v = i
          · subst hvi
            have hlen : v < ρ.length := (List.getElem?_eq_some_iff.mp hv).1
            rw [List.getElem?_set_self (by simpa using hlen)] at hd
            cases hd
            exact ⟨_, hva, .fdk upd_same g2 rfl ((g3.any hlf).mo (fun _ _ h => h) f1)⟩
          · rw [List.getElem?_set_ne hvi, List.getElem?_map] at hd
            obtain ⟨o, e1, e2⟩ := map_some hd
            cases o with
            | none => cases e2
            | some d0 =>
              have e2 : (if lf d0 = true then some d0 else none) = some d := e2
              split at e2
              · rename_i hl
                cases e2
                obtain ⟨w, hw, rw0⟩ := t.fr.at_ i _ e1
                exact ⟨w, hw, (rw0.any hl).mo (fun _ _ h => h) f1⟩
              · cases e2
        · cases hm : m (onlyS v kvs ρ) [] with
          | ok d S1 =>
            rw [hm] at q
            cases d with
            | lst ds =>
              obtain ⟨hpl, q⟩ := ite_stuck (show After Y E (Rp Y) as F H (if ds.all plainD = true then .ok (.lst ds) S else .stuck) Q from q)
              intro as1 F1 H1 w x s r
              obtain ⟨_, ha1⟩ := x.st a _ (by simp) upd_same
              refine ⟨ha1, ?_⟩
              cases r with
              | @lst b vs _ hb rb =>
                have hbH := (s.sub b _ hb).2
                have hba : b ≠ a := fun e => by rw [e, ha1] at hbH; cases hbH
                have old : ∀ c o, c ≠ a → H c = some o → H1 c = some o := fun c o hc hco => (x.st c o (by simp) (by rw [upd_ne hc]; exact hco)).2
                have kind : F b = some (.lst vs) ∨ H b = none := by
                  rcases x.gr b _ hb with g | g | g
                  · rw [upd_ne hba] at g; exact .inl g
                  · rw [upd_ne hba] at g; exact .inr g
                  · cases g
                have hbas : b ∉ as := fun hm2 => by
                  rcases kind with g | g
                  · exact (t.st.sub b _ g).1 hm2
                  · obtain ⟨n, hn, en⟩ := List.getElem_of_mem hm2
                    have hn2 : n < S.length := by rw [← t.st.len]; exact hn
                    obtain ⟨u, hu⟩ := ob_some (t.st.ob n b _ (by rw [List.getElem?_eq_getElem hn, en]) (List.getElem?_eq_getElem hn2))
                    rw [g] at hu
                    cases hu
                have f2 : ∀ c o, F c = some o → upd F b (.lst vs) c = some o := fun c o hc => by
                  by_cases hcb : c = b
                  · subst hcb
                    rcases kind with g | g
                    · rw [upd_same, ← g]; exact hc
                    · have := (t.st.sub c o hc).2; rw [g] at this; cases this
                  · rw [upd_ne hcb]; exact hc
                have keep2 : ∀ c o, H c = some o → upd H1 a (.dK ws) c = some o := fun c o hc => by
                  by_cases hca : c = a
                  · subst hca
                    rw [upd_same, ← g1]
                    exact hc
                  · rw [upd_ne hca]; exact old c o hca hc
                refine q as (upd F b (.lst vs)) _ (.ref b) ⟨fun _ _ h => h, f2, fun c o h1 h2 => ⟨h1, keep2 c o h2⟩, fun c o h => ?_⟩ ⟨fun c o h => ?_, t.st.len, t.st.nd, fun n c d h1 h2 => ?_⟩ (.lst upd_same (plains_rp hpl rb))
                · by_cases hcb : c = b
                  · subst hcb
                    rw [upd_same] at h
                    rcases kind with g | g
                    · exact .inl (by rw [g]; exact h)
                    · exact .inr (.inl g)
                  · rw [upd_ne hcb] at h
                    exact .inl h
                · by_cases hcb : c = b
                  · subst hcb
                    rw [upd_same] at h
                    cases h
                    exact ⟨hbas, by rw [upd_ne hba]; exact hbH⟩
                  · rw [upd_ne hcb] at h
                    obtain ⟨h1, h2⟩ := t.st.sub c o h
                    exact ⟨h1, keep2 c o h2⟩
                · have q1 := t.st.ob n c d h1 h2
                  obtain ⟨u, hu⟩ := ob_some q1
                  exact ob_mo (fun _ _ h => h) f2 ((keep2 c u hu).trans hu.symm) q1
            | _ => exact q.elim
          | stuck => rw [hm] at q; exact q.elim
          | err y S1 => rw [hm] at q; exact q.elim
    · exact q.elim
  · exact q.elim

/-! ### while -/
def whileL : Nat → MT → MS → MS
  | 0, _, _ => fun _ _ => .stuck
  | n + 1, c, b => fun ρ S => (c ρ S).out fun r S1 => if r = true then match b ρ S1 with
    | .nx ρ2 S2 => whileL n c b ρ2 S2
    | .ct ρ2 S2 => whileL n c b ρ2 S2
    | .bk ρ2 S2 => .nx ρ2 S2
    | o => o
    else .nx ρ S1
section
variable {X : Cx} {Y : Yt} {E : XK} {c : Expr} {body : List Stmt} {mt : MT} {b : MS} {pos : Pos}
theorem is_while (hp : PassesOwn (model X.prog X.w) X.A X.env X.xe) (n : Nat) (hc : PT X c (iT Y E mt)) (hb : PSs X body (iS Y E b)) : PS X (.While c body [] pos) (iS Y E (whileL n mt b)) :=
  PS_imp (ps_while hp hc hb) fun Dn σ H ⟨F, as, ρ, S, t, q⟩ => by
    refine ⟨fun m σ H => ∃ F as ρ S, At Y σ H F as ρ S ∧ AfterS Y E as F H (whileL m mt b ρ S) Dn, ⟨n, F, as, ρ, S, t, q⟩, ?_⟩
    rintro m σ H ⟨F, as, ρ, S, t, q⟩
    cases m with
    | zero => exact q.elim
    | succ m =>
      refine ⟨F, as, ρ, S, t, (After.out (rl := fun _ _ a b => a = b) (show AfterS Y E as F H ((mt ρ S).out fun r S1 => if r = true then match b ρ S1 with
        | .nx ρ2 S2 => whileL m mt b ρ2 S2
        | .ct ρ2 S2 => whileL m mt b ρ2 S2
        | .bk ρ2 S2 => .nx ρ2 S2
        | o => o
        else .nx ρ S1) Dn from q)).imp fun r H1 ⟨d, S1, F1, as1, x1, s1, r1, q1⟩ => ?_⟩
      subst r1
      cases d with
      | false =>
        rw [if_neg (by simp)]
        rw [if_neg (by simp)] at q1
        exact q1 as1 F1 H1 σ (Xt.refl _ _ _) s1 (t.mo x1 s1).fr
      | true =>
        rw [if_pos rfl]
        rw [if_pos rfl] at q1
        refine ⟨fun σ' H' => ∃ F as ρ S, At Y σ' H' F as ρ S ∧ AfterS Y E as F H' (whileL m mt b ρ S) Dn, fun σ' H' w => ⟨m, Nat.lt_succ_self _, w⟩, F1, as1, ρ, S1, t.mo x1 s1, ?_⟩
        cases hbb : b ρ S1 with
        | nx ρ2 S2 => rw [hbb] at q1; exact fun as' F' H' σ' x s f => ⟨F', as', ρ2, S2, ⟨s, f⟩, AfterS.weak x q1⟩
        | ct ρ2 S2 => rw [hbb] at q1; exact fun as' F' H' σ' x s f => ⟨F', as', ρ2, S2, ⟨s, f⟩, AfterS.weak x q1⟩
        | bk ρ2 S2 => rw [hbb] at q1; exact q1
        | rt d S2 => rw [hbb] at q1; exact q1
        | err y S2 => rw [hbb] at q1; exact q1
        | stuck => rw [hbb] at q1; exact q1.elim
end
end Rf

set_option Elab.async false
set_option maxRecDepth 100000
namespace K7
open PySem L2
def top (i : Nat) : Stmt := PySem.Challenge.pw_handkept_k04_what_is_open_where.main.body.getD i (.Pass ⟨0, 0, 0, 0⟩)
abbrev sPot : Stmt := top 25
abbrev sTake : Stmt := top 26
abbrev sOf : Stmt := top 27
/-! powers of any size that the model takes -/
def PowFits (i j : Int) : Prop := 0 ≤ j ∧ (Builtin.Int.intBits i : Int) * j ≤ 2 ^ 27
section
variable {X : Cx}
theorem op_powB : OpR X (binaryOp .Pow) (rI PowFits fun i j => .int (i ^ j.toNat)) := opI fun _ _ _ _ _ _ _ hc q => PyProof.Rows.pow_int hc.1 hc.2 q
end
section
variable {X : Cx}
theorem call_intI : CallR X (.type "int") (fun xs H Q => ∃ i, xs = [.int i] ∧ Q (.int i) H) := fun pins s σ H xs us Q I r ⟨i, e, q⟩ => call_int1 pins s σ H xs us Q I r (.inl ⟨i, e, q⟩)
end
theorem bits_of {x : Int} {n : Nat} (h : x.natAbs < 2 ^ n) (h0 : 0 < n) : Builtin.Int.intBits x ≤ n := by
  have y := PySem.Flt.log2_lt_of h0 h
  unfold Builtin.Int.intBits
  split <;> omega
/-- the built-in names that the defs ask for -/
structure Nat3 (mg : Str → Option Value) : Prop where
  int : mg "int" = none
  abs : mg "abs" = none
  len : mg "len" = none
/-! ### a pot of draws: own digits, a mixed number, how many were mixed -/
structure PotAt (H : Hp) (p : Addr) (a b c : Int) : Prop where
  at_ : H p = some (.lst [.int a, .int b, .int c])
  a0 : 0 ≤ a
  a1 : a.natAbs < 2 ^ 1000
  b0 : 0 ≤ b
  b1 : b < 2305843009213693952
  c0 : 0 ≤ c
def spTake : Sp := fun vs H Q _ => ∃ (p : Addr) (n a b c : Int), vs = [.ref p, .int n] ∧ PotAt H p a b c ∧ 0 < n ∧ n < 1000000 ∧ c < 1000000 ∧
  ∀ (d a' c' : Int) (H' : Hp), 0 ≤ d → d < n → PotAt H' p a' b c' → c' ≤ c + 1 → (∀ q o, H q = some o → q ≠ p → H' q = some o) → Q (.int d) H'
theorem five (k : Int) : ∃ z : Int, atI [V.int 2147483647, .int 2147483629, .int 2147483587, .int 2147483579, .int 2147483563] (k % 5) = some (.int z) ∧ 0 < z ∧ z < 2147483648 := by
  have h0 : 0 ≤ k % 5 := Int.emod_nonneg _ (by decide)
  have h1 : k % 5 < 5 := Int.emod_lt_of_pos _ (by decide)
  have h : k % 5 = 0 ∨ k % 5 = 1 ∨ k % 5 = 2 ∨ k % 5 = 3 ∨ k % 5 = 4 := by omega
  rcases h with e | e | e | e | e <;> rw [e]
  · exact ⟨_, rfl, by decide, by decide⟩
  · exact ⟨_, rfl, by decide, by decide⟩
  · exact ⟨_, rfl, by decide, by decide⟩
  · exact ⟨_, rfl, by decide, by decide⟩
  · exact ⟨_, rfl, by decide, by decide⟩
section
variable {P : Program} {w : World} {K : PySem.W.Frag} {mg : Str → Option Value} {base : Heap}
theorem scTake : FnScope ["_law_pot_here", "_law_upto", "_law_digit", "_law_prime", "_law_mixed"] ["_law_pot_here", "_law_upto"] (defScope sTake) := ⟨rfl, rfl, rfl, by decide +kernel, rfl, by decide +kernel, by decide +kernel⟩
theorem ok_take {f : Addr} {fd : FuncData} (F : Fun K "_law_take" "_law_take" sTake f fd) (T : Nat3 mg) : FnOk P w K mg base CX0 1 f fd ["_law_pot_here", "_law_upto"] spTake := by
  refine F.ok scTake (fun vs H Q E h => ?_) (fun cdv A outer s H vs Q E hr h => ?_)
  · obtain ⟨p, n, a, b, c, rfl, _⟩ := h
    rfl
  · obtain ⟨p, n, a, b, c, rfl, hP, n0, n1, c1, k⟩ := h
    have hu := hu_of hr
    obtain ⟨hp, a0, a1, b0, b1, c0⟩ := id hP
    refine ⟨_, (pss_cons (ps_if (pt_cmpR op_gt (pe_ix ix_list (pv 0) pe_int (fun _ _ => rfl)) pe_int (nomark _))
      (pss_cons (ps_set (i := 2) scTake.nd rfl (Or.inl rfl) (pe_op op_mod (pe_callTy call_intI (by rfl) T.int (by decide +kernel) (pa_cons (pe_ix ix_list (pv 0) pe_int (fun _ _ => rfl)) pa_nil)) (pv 1)))
      (pss_cons (ps_asg (pe_op op_fdiv (pe_ix ix_list (pv 0) pe_int (fun _ _ => rfl)) (pv 1)) (pg_sub (pv 0) pe_int set_list))
      (pss_one (ps_ret (pv 2))))) pss_nil)
      (pss_cons (ps_asg (pe_op op_add (pe_ix ix_list (pv 0) pe_int (fun _ _ => rfl)) pe_int) (pg_sub (pv 0) pe_int set_list))
      (pss_cons (ps_set (i := 3) scTake.nd rfl (Or.inl rfl) (pe_ix ix_list (pe_lst (pa_cons pe_int (pa_cons pe_int (pa_cons pe_int (pa_cons pe_int (pa_cons pe_int pa_nil)))))) (pe_op op_mod (pe_callTy call_intI (by rfl) T.int (by decide +kernel) (pa_cons (pe_ix ix_list (pv 0) pe_int (fun _ _ => rfl)) pa_nil)) pe_int) (fun _ _ => rfl)))
      (pss_cons (ps_set (i := 4) scTake.nd rfl (Or.inl rfl) (pe_op op_mod (pe_callTy call_intI (by rfl) T.int (by decide +kernel) (pa_cons (pe_op op_powB (pe_callTy call_intI (by rfl) T.int (by decide +kernel) (pa_cons (pe_op op_add (pe_op op_add (pe_ix ix_list (pv 0) pe_int (fun _ _ => rfl)) (pe_op op_mul (pe_op op_mul pe_int (pe_ix ix_list (pv 0) pe_int (fun _ _ => rfl))) (pe_ix ix_list (pv 0) pe_int (fun _ _ => rfl)))) pe_int) pa_nil)) pe_int) pa_nil)) (pv 3)))
      (pss_cons (ps_set (i := 4) scTake.nd rfl (Or.inl rfl) (pe_op op_mod (pe_callTy call_intI (by rfl) T.int (by decide +kernel) (pa_cons (pe_op op_mul (pv 4) (pe_op op_add (pe_op op_mod (pe_callTy call_intI (by rfl) T.int (by decide +kernel) (pa_cons (pv 4) pa_nil)) pe_int) (pe_op op_mul pe_int (pe_ix ix_list (pv 0) pe_int (fun _ _ => rfl))))) pa_nil)) pe_int))
      (pss_one (ps_ret (pe_op op_mod (pe_callTy call_intI (by rfl) T.int (by decide +kernel) (pa_cons (pe_op op_fdiv (pv 4) pe_int) pa_nil)) (pv 1))))))))), ?_⟩
    refine ⟨_, rfl, p, _, 0, _, rfl, rfl, SqL.of hp, rfl, _, _, rfl, rfl, _, rfl, ?_⟩
    refine ite2 (fun z => ?_) (fun z => ?_)
    · have z := of_decide_eq_true z
      have d0 : 0 ≤ a % n := Int.emod_nonneg _ (by omega)
      have d1 : a % n < n := Int.emod_lt_of_pos _ n0
      have e0 : 0 ≤ a / n := Int.ediv_nonneg a0 (by omega)
      have e1 : a / n ≤ a := Int.ediv_le_self _ a0
      -- own digits: the last one goes
      refine ⟨_, rfl, p, _, 0, _, rfl, rfl, SqL.of hp, rfl, _, rfl, _, rfl, _, _, rfl, rfl, n0, ?_⟩
      refine ⟨_, rfl, p, _, 0, _, rfl, rfl, SqL.of hp, rfl, _, rfl, _, _, rfl, rfl, ⟨n0, by omega⟩, _, rfl, p, _, 0, 0, rfl, rfl, hp, rfl, _, rfl, ?_⟩
      exact k _ (a / n) c _ d0 d1 ⟨upd_same, e0, by omega, b0, b1, c0⟩ (by omega) fun q o e hq => by rw [upd_ne hq]; exact e
    · -- a mixed number
      refine ⟨_, rfl, p, _, 2, _, rfl, rfl, SqL.of hp, rfl, _, _, rfl, rfl, _, rfl, p, _, 2, 2, rfl, rfl, hp, rfl, ?_⟩
      generalize hH1 : upd H p _ = H1
      have hp1 : H1 p = some (.lst [.int a, .int b, .int (c + 1)]) := by rw [← hH1]; exact upd_same
      have s1 : ∀ q o, H q = some o → q ≠ p → H1 q = some o := fun q o e hq => by rw [← hH1, upd_ne hq]; exact e
      refine ⟨(by show 5 ≤ sizeLine; decide), fun l hl => ?_⟩
      generalize hH2 : upd H1 l _ = H2
      have npl : p ≠ l := ne_of_none hp1 hl
      have hp2 : H2 p = some (.lst [.int a, .int b, .int (c + 1)]) := by rw [← hH2, upd_ne npl]; exact hp1
      have s2 : ∀ q o, H q = some o → q ≠ p → H2 q = some o := fun q o e hq => by rw [← hH2, upd_ne (ne_of_none (s1 q o e hq) hl)]; exact s1 q o e hq
      have hl2 : H2 l = some (.lst [V.int 2147483647, .int 2147483629, .int 2147483587, .int 2147483579, .int 2147483563]) := by rw [← hH2]; exact upd_same
      obtain ⟨z5, h5, z0, z1⟩ := five (c + 1)
      refine ⟨_, rfl, p, _, 2, _, rfl, rfl, SqL.of hp2, rfl, _, rfl, _, _, rfl, rfl, (by show (0 : Int) < 5; decide), l, _, _, _, rfl, rfl, SqL.of hl2, h5, ?_⟩
      have q0 : 0 ≤ (c + 1) * (c + 1) := Int.mul_nonneg (by omega) (by omega)
      have q1 : (c + 1) * (c + 1) ≤ 1000000 * 1000000 := Int.mul_le_mul (by omega) (by omega) (by omega) (by omega)
      have q2 : 99041 * (c + 1) * (c + 1) = 99041 * ((c + 1) * (c + 1)) := Int.mul_assoc _ _ _
      refine ⟨_, rfl, p, _, 1, _, rfl, rfl, SqL.of hp2, rfl, _, rfl, p, _, 2, _, rfl, rfl, SqL.of hp2, rfl, _, _, rfl, rfl, .inl ⟨by omega, by omega⟩, _, rfl, p, _, 2, _, rfl, rfl, SqL.of hp2, rfl, _, _, rfl, rfl, .inr ⟨by omega, by omega⟩, _, _, rfl, rfl, _, _, rfl, rfl, _, rfl, _, _, rfl, rfl, ⟨by decide, ?_⟩, _, rfl, _, rfl, _, _, rfl, rfl, z0, ?_⟩
      · have hb : Builtin.Int.intBits (b + 99041 * (c + 1) * (c + 1) + 37) ≤ 63 := bits_of (by rw [q2]; omega) (by decide)
        omega
      generalize (b + 99041 * (c + 1) * (c + 1) + 37) ^ (3 : Int).toNat = big
      have m0 : 0 ≤ big % z5 := Int.emod_nonneg _ (by omega)
      have m1 : big % z5 < z5 := Int.emod_lt_of_pos _ z0
      generalize hm : big % z5 = m at m0 m1 ⊢
      have r0 : 0 ≤ m % 10007 := Int.emod_nonneg _ (by decide)
      have r1 : m % 10007 < 10007 := Int.emod_lt_of_pos _ (by decide)
      refine ⟨_, rfl, _, rfl, _, rfl, _, _, rfl, rfl, (by show (0 : Int) < 10007; decide), _, rfl, p, _, 2, _, rfl, rfl, SqL.of hp2, rfl, _, _, rfl, rfl, .inl ⟨by omega, by omega⟩, _, _, rfl, rfl, _, _, rfl, rfl, .inl ⟨by omega, by omega⟩, _, rfl, _, _, rfl, rfl, (by show (0 : Int) < 2305843009213693907; decide), ?_⟩
      generalize m * (m % 10007 + 83 * (c + 1)) % 2305843009213693907 = y
      refine ⟨_, rfl, _, _, rfl, rfl, ⟨by decide, by decide⟩, _, rfl, _, rfl, _, _, rfl, rfl, n0, ?_⟩
      exact k _ a (c + 1) _ (Int.emod_nonneg _ (by omega)) (Int.emod_lt_of_pos _ n0) ⟨hp2, a0, a1, b0, b1, by omega⟩ (by omega) s2
end
end K7

set_option Elab.async false
set_option maxRecDepth 100000
namespace K7
open PySem L2
section
variable {X : Cx}
theorem call_intB : CallR X (.type "int") (fun xs H Q => ∃ k, xs = [.bl k] ∧ Q (.int (if k then 1 else 0)) H) := fun pins s σ H xs us Q I r ⟨i, e, q⟩ => call_int1 pins s σ H xs us Q I r (.inr ⟨i, e, q⟩)
end
/-- an item of a list of its own, some item -/
def spOf : Sp := fun vs H Q _ => ∃ (p m : Addr) (xs : List V) (a b c : Int), vs = [.ref p, .ref m] ∧ PotAt H p a b c ∧ H m = some (.lst xs) ∧ m ≠ p ∧ 0 < xs.length ∧ xs.length < 1000000 ∧ c < 1000000 ∧
  ∀ (v : V) (a' c' : Int) (H' : Hp), v ∈ xs → PotAt H' p a' b c' → c' ≤ c + 1 → (∀ q o, H q = some o → q ≠ p → H' q = some o) → Q v H'
/-- the draws of the k-th cell -/
def spPot (K : PySem.W.Frag) : Sp := fun vs H Q _ => ∃ (s : Addr) (ns : List Int) (k : Int), vs = [.ref s, .int k] ∧ SqL K H s (ns.map V.int) ∧ ns.length ≤ 63 ∧ 0 ≤ k ∧ k < 100 ∧
  ∀ (p : Addr) (a b : Int) (H' : Hp), H p = none → PotAt H' p a b 0 → Same H H' → Q (.ref p) H'
structure Draws (mg : Str → Option Value) (K : PySem.W.Frag) (fP fT fO : Addr) (fdP fdT fdO : FuncData) : Prop where
  pot : mg "_law_pot" = some (.ref fP)
  take : mg "_law_take" = some (.ref fT)
  of_ : mg "_law_of" = some (.ref fO)
  FP : Fun K "_law_pot" "_law_pot" sPot fP fdP
  FT : Fun K "_law_take" "_law_take" sTake fT fdT
  FO : Fun K "_law_of" "_law_of" sOf fO fdO
  bP : Binds K fdP ["_law_script", "_law_k"] []
  bT : Binds K fdT ["_law_pot_here", "_law_upto"] []
  bO : Binds K fdO ["_law_pot_here", "_law_some"] []
  nat : Nat3 mg
theorem b01 (k : Bool) : -(2 ^ 64) < (if k = true then (1 : Int) else 0) ∧ (if k = true then (1 : Int) else 0) < 2 ^ 64 := by cases k <;> decide
set_option exponentiation.threshold 2000 in
theorem pot_own (x : Int) (k : Bool) : 0 ≤ x % (((10 : Int) ^ (60 : Int).toNat) ^ (5 : Int).toNat) * (if k = true then 1 else 0) ∧ (x % (((10 : Int) ^ (60 : Int).toNat) ^ (5 : Int).toNat) * (if k = true then 1 else 0)).natAbs < 2 ^ 1000 := by
  have o0 : 0 ≤ x % (((10 : Int) ^ (60 : Int).toNat) ^ (5 : Int).toNat) := Int.emod_nonneg _ (by decide)
  have o1 : x % (((10 : Int) ^ (60 : Int).toNat) ^ (5 : Int).toNat) < ((10 : Int) ^ (60 : Int).toNat) ^ (5 : Int).toNat := Int.emod_lt_of_pos _ (by decide)
  have o2 : (((10 : Int) ^ (60 : Int).toNat) ^ (5 : Int).toNat).natAbs < 2 ^ 1000 := by decide
  generalize (((10 : Int) ^ (60 : Int).toNat) ^ (5 : Int).toNat) = M at *
  generalize x % M = own at *
  cases k
  · simp
  · simp only [if_true, Int.mul_one]
    exact ⟨o0, by omega⟩
theorem atI_in {xs : List V} {d : Int} (h0 : 0 ≤ d) (h1 : d < xs.length) : ∃ v, atI xs d = some v ∧ v ∈ xs := by
  obtain ⟨n, rfl⟩ := Int.eq_ofNat_of_zero_le h0
  have hn : n < xs.length := by omega
  exact ⟨xs[n], atI_nat (by rw [List.getElem?_eq_getElem hn]), List.getElem_mem hn⟩
section
variable {P : Program} {w : World} {K : PySem.W.Frag} {mg : Str → Option Value} {base : Heap}
theorem scOf : FnScope ["_law_pot_here", "_law_some"] ["_law_pot_here", "_law_some"] (defScope sOf) := ⟨rfl, rfl, rfl, by decide +kernel, rfl, by decide +kernel, by decide +kernel⟩
theorem ok_of {fP fT f : Addr} {fdP fdT fd : FuncData} (D : Draws mg K fP fT f fdP fdT fd) : FnOk P w K mg base CX0 2 f fd ["_law_pot_here", "_law_some"] spOf := by
  have GT : FnOk P w K mg base CX0 1 fT fdT ["_law_pot_here", "_law_upto"] spTake := ok_take D.FT D.nat
  refine D.FO.ok scOf (fun vs H Q E h => ?_) (fun cdv A outer s H vs Q E hr h => ?_)
  · obtain ⟨p, m, xs, a, b, c, rfl, _⟩ := h
    rfl
  · obtain ⟨p, m, xs, a, b, c, rfl, hP, hm, mp, l0, l1, c1, k⟩ := h
    refine ⟨_, (pss_one (ps_ret (pe_ix ix_list (pv 1) (pe_call GT hr rfl D.take D.FT.kp D.bT .nil pass0 (pa_cons (pv 0) (pa_cons (pe_callB call_len_seq (by rfl) D.nat.len (PySem.boot_len) (pa_cons (pv 1) pa_nil)) pa_nil))) (fun _ _ => rfl)))), ?_⟩
    refine ⟨_, rfl, _, rfl, _, rfl, m, _, rfl, .inl (SqL.of hm), p, _, a, b, c, rfl, hP, (by omega), (by omega), c1, fun d a' c' H' d0 d1 hP' hc hk => ?_⟩
    obtain ⟨v, hv, hi⟩ := atI_in d0 d1
    exact ⟨m, xs, d, v, rfl, rfl, SqL.of (hk m _ hm mp), hv, k v a' c' H' hi hP' hc hk⟩
theorem scPot : FnScope ["_law_script", "_law_k", "_law_cell", "_law_own", "_law_mixed"] ["_law_script", "_law_k"] (defScope sPot) := ⟨rfl, rfl, rfl, by decide +kernel, rfl, by decide +kernel, by decide +kernel⟩
theorem ok_pot {fP fT fO : Addr} {fdP fdT fdO : FuncData} (D : Draws mg K fP fT fO fdP fdT fdO) : FnOk P w K mg base CX0 1 fP fdP ["_law_script", "_law_k"] (spPot K) := by
  have T := D.nat
  refine D.FP.ok scPot (fun vs H Q E h => ?_) (fun cdv A outer s H vs Q E hr h => ?_)
  · obtain ⟨s, ns, k, rfl, _⟩ := h
    rfl
  · obtain ⟨s, ns, k, rfl, hS, hl, k0, k1, q⟩ := h
    refine ⟨_, (pss_cons (ps_set (i := 2) scPot.nd rfl (Or.inl rfl) (pe_ifExp (pt_cmpR op_lt (pv 1) (pe_callB call_len_seq (by rfl) T.len (PySem.boot_len) (pa_cons (pv 0) pa_nil)) (nomark _)) (pe_ix ix_list (pv 0) (pv 1) (fun _ _ => rfl)) (pe_op op_add (pe_op op_mul pe_int (pv 1)) pe_int)))
      (pss_cons (ps_set (i := 3) scPot.nd rfl (Or.inl rfl) (pe_op op_mul (pe_op op_mod (pe_callTy call_intI (by rfl) T.int (by decide +kernel) (pa_cons (pe_callB call_abs (by rfl) T.abs (by decide +kernel) (pa_cons (pv 2) pa_nil)) pa_nil)) (pe_op op_powB (pe_op op_powB pe_int pe_int) pe_int)) (pe_callTy call_intB (by rfl) T.int (by decide +kernel) (pa_cons (pe_cmpR op_ge (pe_callB call_abs (by rfl) T.abs (by decide +kernel) (pa_cons (pv 2) pa_nil)) (pe_op op_powB pe_int pe_int) (nomark _)) pa_nil))))
      (pss_cons (ps_set (i := 4) scPot.nd rfl (Or.inl rfl) (pe_op op_add (pe_op op_add (pe_op op_mul (pe_op op_mod (pe_callTy call_intI (by rfl) T.int (by decide +kernel) (pa_cons (pv 2) pa_nil)) pe_int) pe_int) (pe_op op_mul (pe_op op_mul pe_int (pv 1)) (pv 1))) pe_int))
      (pss_one (ps_ret (pe_lst (pa_cons (pv 3) (pa_cons (pe_op op_mod (pe_callTy call_intI (by rfl) T.int (by decide +kernel) (pa_cons (pv 4) pa_nil)) pe_int) (pa_cons pe_int pa_nil))))))))), ?_⟩
    refine ⟨_, rfl, _, rfl, s, _, rfl, .inl hS, _, _, rfl, rfl, _, rfl, ?_⟩
    have b10 : Builtin.Int.intBits 10 ≤ 4 := bits_of (by decide) (by decide)
    have b60 : Builtin.Int.intBits ((10 : Int) ^ (60 : Int).toNat) ≤ 200 := bits_of (by decide) (by decide)
    refine ite2 (fun z => ?_) (fun z => ?_)
    all_goals first
      | (have z1 := of_decide_eq_true z
         obtain ⟨v, hv, hi⟩ := atI_in (xs := ns.map V.int) k0 (by simpa using z1)
         obtain ⟨cell, _, rfl⟩ := List.mem_map.mp hi
         refine ⟨_, rfl, _, rfl, s, _, _, _, rfl, rfl, hS, hv, ?_⟩)
      | (refine ⟨_, rfl, _, _, rfl, rfl, .inl ⟨by decide, by decide⟩, _, _, rfl, rfl, ?_⟩
         generalize 59 * k + 29 = cell)
    all_goals
      refine ⟨_, rfl, _, rfl, _, rfl, _, _, rfl, rfl, ⟨by decide, by omega⟩, _, _, rfl, rfl, ⟨by decide, by omega⟩, _, _, rfl, rfl, (by show (0 : Int) < ((10 : Int) ^ (60 : Int).toNat) ^ (5 : Int).toNat; decide), ?_⟩
      refine ⟨_, rfl, _, rfl, _, _, rfl, rfl, ⟨by decide, by omega⟩, _, _, rfl, rfl, _, rfl, _, _, rfl, rfl, .inr (b01 _), ?_⟩
      refine ⟨_, rfl, _, rfl, _, _, rfl, rfl, (by show (0 : Int) < 2305843009213693951; decide), _, _, rfl, rfl, .inr ⟨by decide, by decide⟩, _, rfl, _, _, rfl, rfl, .inl ⟨by decide, by decide⟩, _, rfl, _, _, rfl, rfl, .inr ⟨by omega, by omega⟩, _, _, rfl, rfl, _, _, rfl, rfl, ?_⟩
      refine ⟨_, rfl, _, rfl, _, rfl, _, _, rfl, rfl, (by show (0 : Int) < 2305843009213693921; decide), (by show 3 ≤ sizeLine; decide), fun p hp => ?_⟩
      exact q p _ _ _ hp ⟨upd_same, (pot_own _ _).1, (pot_own _ _).2, Int.emod_nonneg _ (by decide), Int.lt_trans (Int.emod_lt_of_pos _ (by decide)) (by decide), by omega⟩ fun b o e => by rw [upd_ne (ne_of_none e hp)]; exact e
end
end K7

set_option Elab.async false
set_option maxRecDepth 100000
/-! The mirror of the reader of programs: lines with how many blanks stand ahead, parted into words. -/
namespace Rdr
open PySem L2
/-- what a step comes to: a value and the state, or the number of the wrong line -/
inductive Res (A : Type) where
  | ok (a : A)
  | bad (n : Int)
def Res.bind {A B : Type} (r : Res A) (f : A → Res B) : Res B := match r with
  | .ok a => f a
  | .bad n => .bad n
def Res.isBad {A : Type} (r : Res A) : Option Int := match r with
  | .ok _ => none
  | .bad n => some n
structure Rd where
  ls : List (Int × List Str)
  pos : Nat
  kinds : List (Str × Str × List Str)
  chains : List (Str × List Str)
  fields : List (Str × List Str)
  labels : List Str
  parts : Nat
  cells : List Str
  worths : List Int
  near : List Str
def letter (c : Nat) : Bool := decide (97 ≤ c) && decide (c ≤ 122)
def word (s : Str) : Bool := decide (1 ≤ s.length) && decide (s.length ≤ 8) && s.cps.toList.all letter
def parted (l : Str) : Int × List Str := ((l.length : Int) - ((Txt.lstripChars l " ").length : Int), Txt.split (Txt.lstripChars l " ") " ")
def start (t : Str) : Rd := { ls := (Txt.split t "\n").map parted, pos := 0, kinds := [], chains := [], fields := [], labels := [], parts := 0, cells := [], worths := [], near := [] }
def Rd.wordsAt (S : Rd) (depth : Int) : List Str := match S.ls[S.pos]? with
  | none => []
  | some (b, ws) => if b = 2 * depth then ws else []
def Rd.need (S : Rd) (b : Bool) (r : Res A) : Res A := if b then r else .bad ((S.pos : Int) + 1)
def Rd.on (S : Rd) : Rd := { S with pos := S.pos + 1 }
def item (ws : List Str) (i : Nat) : Str := ws.getD i ""
/-- fields below a kind -/
def fieldsM : Nat → Rd → List Str → Res (Rd × List Str)
  | 0, S, acc => .ok (S, acc)
  | n + 1, S, acc =>
    let ws := S.wordsAt 1
    if ws = [] then .ok (S, acc) else
      S.need (decide (acc.length < 2) && decide (ws.length = 2) && decide (item ws 0 = "field")) <|
      S.need (word (item ws 1) && decide (item ws 1 ≠ "key") && !acc.contains (item ws 1)) <|
      fieldsM n S.on (acc ++ [item ws 1])
def chainOf (S : Rd) (k : Str) : List Str := (S.chains.lookup k).getD []
def kindM (S : Rd) (ws : List Str) : Res Rd :=
  S.need (decide (S.kinds.length < 4) && (decide (ws.length = 2) || decide (ws.length = 4))) <|
  S.need (word (item ws 1) && (S.chains.lookup (item ws 1)).isNone) <|
  (if ws.length = 4 then
    S.need (decide (item ws 2 = "in") && (S.chains.lookup (item ws 3)).isSome) <|
    S.need (decide ((chainOf S (item ws 3)).length < 3)) <| .ok (item ws 3)
  else .ok "").bind fun outer =>
  (fieldsM (S.ls.length - S.pos) S.on []).bind fun (S1, fs) =>
  .ok { S1 with kinds := S1.kinds ++ [(item ws 1, outer, fs)], chains := S1.chains ++ [(item ws 1, chainOf S1 outer ++ [item ws 1])], fields := S1.fields ++ [(item ws 1, ("key" : Str) :: fs)] }
def kindsM : Nat → Rd → Res Rd
  | 0, S => .ok S
  | n + 1, S =>
    let ws := S.wordsAt 0
    if ws.take 1 = [("kind" : Str)] then (kindM S ws).bind (kindsM n) else .ok S
def cellM (S : Rd) (ws : List Str) : Res Rd :=
  S.need (decide (S.cells.length < 2) && decide (ws.length = 3)) <|
  S.need (word (item ws 1) && !S.cells.contains (item ws 1) && (decide (item ws 2 = "2") || decide (item ws 2 = "3"))) <|
  .ok { S with cells := S.cells ++ [item ws 1], worths := S.worths ++ [if item ws 2 = "2" then 2 else 3], pos := S.pos + 1 }
def cellsM : Nat → Rd → Res Rd
  | 0, S => .ok S
  | n + 1, S =>
    let ws := S.wordsAt 1
    if ws.take 1 = [("cell" : Str)] then (cellM S ws).bind (cellsM n) else .ok S
def digits (w : Int) : List Str := if w = 2 then ["0", "1"] else ["0", "1", "2"]
/-- the worth of a cell -/
def worthM (S : Rd) (c d : Str) (r : Res A) : Res A :=
  S.need (S.cells.contains c) <| S.need ((digits (S.worths.getD (S.cells.findIdx (· = c)) 0)).contains d) r
/-- a REF -/
def refM (S : Rd) (t : Str) (r : Res A) : Res A :=
  let p := Txt.partition t "."
  S.need (S.near.contains p.1 && ((S.fields.lookup p.1).getD []).contains p.2.2) r
def tokensM (S : Rd) : List Str → Res A → Res A
  | [], r => r
  | t :: ts, r => if word t then tokensM S ts r else refM S t (tokensM S ts r)
def writeM (S : Rd) (label : Str) (ts : List Str) : Res Rd :=
  S.need (word label && !S.labels.contains label && decide (ts.length ≤ 6)) <|
  tokensM S ts (.ok { S with labels := S.labels ++ [label] })
def simpleM (S : Rd) (ws : List Str) : Res Rd :=
  (if item ws 0 = "line" then S.need (decide (2 < ws.length)) (writeM S (item ws 1) (ws.drop 2))
  else if item ws 0 = "head" then S.need (decide (3 < ws.length)) <| S.need (decide (item ws 2 = "-") || S.near.contains (item ws 2)) (writeM S (item ws 1) (ws.drop 3))
  else S.need (decide (item ws 0 = "set") && decide (ws.length = 3)) <| worthM S (item ws 1) (item ws 2) (.ok S)).bind fun S => .ok S.on
/-- a block: the statements, one by one, by stm -/
def blockM (stm : Rd → List Str → Res Rd) (depth : Int) : Nat → Nat → Rd → Res Rd
  | 0, _, S => .ok S
  | n + 1, many, S =>
    let ws := S.wordsAt depth
    if ws = [] then S.need (decide (0 < many)) (.ok S) else
      S.need (decide (many < 6)) <| (stm S ws).bind (blockM stm depth n (many + 1))
def ifM (block : Rd → Res Rd) (S : Rd) (ws : List Str) (depth : Int) : Res Rd :=
  S.need (decide (ws.length = 4)) <|
  (if item ws 2 = "=" then worthM S (item ws 1) (item ws 3) (.ok ())
  else S.need (decide (item ws 2 = "is") && word (item ws 3)) (refM S (item ws 1) (.ok ()))).bind fun _ =>
  (block S.on).bind fun S1 => if S1.wordsAt depth = [("else" : Str)] then block S1.on else .ok S1
/-- a statement with so many ifs left -/
def stmM : Nat → Int → Rd → List Str → Res Rd
  | 0, _, S, ws => if item ws 0 = "if" then .bad ((S.pos : Int) + 1) else simpleM S ws
  | j + 1, depth, S, ws => if item ws 0 = "if" then ifM (fun S => blockM (stmM j (depth + 1)) (depth + 1) (S.ls.length - S.pos + 1) 0 S) S ws depth else simpleM S ws
def blockOf (j : Nat) (depth : Int) (S : Rd) : Res Rd := blockM (stmM j depth) depth (S.ls.length - S.pos + 1) 0 S
def placesM : List (Str × Str) → Rd → Res Rd
  | [], S => .ok S
  | (p, k) :: r, S =>
    let S := { S with near := chainOf S k }
    if S.wordsAt 1 = (if k = "" then [p] else [p, k]) then (blockOf 2 2 S.on).bind (placesM r) else placesM r S
def places (S : Rd) : List (Str × Str) := [(("begin" : Str), ("" : Str))] ++ S.kinds.flatMap (fun k => [(("open" : Str), k.1), (("close" : Str), k.1)]) ++ [(("end" : Str), ("" : Str))]
def partM (S : Rd) : Res Rd :=
  (cellsM (S.ls.length - S.pos + 1) { S with cells := [], worths := [] }).bind fun S =>
  (placesM (places S) S).bind fun S => .ok { S with parts := S.parts + 1 }
def partsM : Nat → Rd → Res Rd
  | 0, S => .ok S
  | n + 1, S => if S.wordsAt 0 = [("pass" : Str)] ∧ S.parts < 2 then (partM S.on).bind (partsM n) else .ok S
def readM (S : Rd) : Res Rd :=
  (kindsM (S.ls.length + 1) S).bind fun S =>
  S.need (decide (0 < S.kinds.length)) <|
  (partsM 3 S).bind fun S =>
  S.need (decide (0 < S.parts) && decide (S.pos = S.ls.length)) (.ok S)
def good : Str := "kind k\npass\n  open k\n    line a k.key"
example : (readM (start good)).isBad = none := by decide +kernel
example : (readM (start "")).isBad = some 1 := by decide +kernel
example : (readM (start "kind k")).isBad = some 2 := by decide +kernel
example : (readM (start (good ++ " "))).isBad = some 4 := by decide +kernel
example : (readM (start "kind k\npass\n  open")).isBad = some 3 := by decide +kernel
end Rdr

set_option Elab.async false
set_option linter.all false
set_option maxRecDepth 100000
namespace Rdr
open PySem L2
abbrev wlist (ws : List Str) : List V := ws.map V.str
abbrev ilist (ws : List Int) : List V := ws.map V.int
def rdF (l a k c f lb p cl w n : V) : List (Str × V) := [("lines", l), ("at", a), ("kinds", k), ("chains", c), ("fields", f), ("labels", lb), ("parts", p), ("cells", cl), ("worths", w), ("near", n)]
structure Adr where
  ln : Addr
  kl : Addr
  cd : Addr
  fd : Addr
  ll : Addr
  pl : Addr
  cl : Addr
  wl : Addr
  nr : Addr
  xt : List Addr := []
def Adr.own (A : Adr) (r : Addr) : List Addr := [r, A.kl, A.cd, A.fd, A.ll, A.pl, A.cl, A.wl]
def Adr.all (A : Adr) (r : Addr) : List Addr := A.own r ++ A.xt
def Adr.flds (A : Adr) (n : Nat) : List (Str × V) := rdF (.ref A.ln) (.int n) (.ref A.kl) (.ref A.cd) (.ref A.fd) (.ref A.ll) (.ref A.pl) (.ref A.cl) (.ref A.wl) (.ref A.nr)
/-- o stands at a, which no method changes -/
def Fix (H : Hp) (M : List Addr) (a : Addr) (o : HO) : Prop := H a = some o ∧ a ∉ M
theorem Fix.upd {H : Hp} {M : List Addr} {a x : Addr} {o u : HO} (h : Fix H M a o) (hx : x ∈ M) : Fix (L2.upd H x u) M a o := ⟨by rw [upd_ne (fun e => h.2 (by rw [e]; exact hx))]; exact h.1, h.2⟩
/-- all that is tracked and lies out of M is as it was; what was tracked is tracked -/
structure But (M : List Addr) (H H' : Hp) : Prop where
  keep : ∀ b o, H b = some o → b ∉ M → H' b = some o
  free : ∀ b, H' b = none → H b = none
theorem But.refl {M : List Addr} {H : Hp} : But M H H := ⟨fun _ _ h _ => h, fun _ h => h⟩
theorem But.trans {M : List Addr} {H H1 H2 : Hp} (a : But M H H1) (b : But M H1 H2) : But M H H2 := ⟨fun c o h n => b.keep c o (a.keep c o h n) n, fun c h => a.free c (b.free c h)⟩
theorem But.of {M : List Addr} {H H' : Hp} (k : Same H H') : But M H H' := ⟨fun b o h _ => k b o h, fun b h => k.free h⟩
theorem But.upd {M : List Addr} {H : Hp} {x : Addr} {o : HO} (hx : x ∈ M) : But M H (L2.upd H x o) := ⟨fun b _ h n => by rw [upd_ne (fun e => n (by rw [e]; exact hx))]; exact h, fun b h => by
  by_cases e : b = x
  · rw [e, upd_same] at h; cases h
  · rwa [upd_ne e] at h⟩
theorem Fix.but {H H' : Hp} {M : List Addr} {a : Addr} {o : HO} (h : Fix H M a o) (k : But M H H') : Fix H' M a o := ⟨k.keep _ _ h.1 h.2, h.2⟩
theorem Same.new {H : Hp} {p : Addr} {o : HO} (h : H p = none) : Same H (L2.upd H p o) := fun b _ e => by rw [upd_ne (ne_of_none e h)]; exact e
/-- M and new places alone -/
theorem Fix.grow {H : Hp} {M N : List Addr} {a : Addr} {o : HO} (h : Fix H M a o) (k : ∀ b ∈ N, b ∈ M ∨ H b = none) : Fix H N a o := ⟨h.1, fun m => (k a m).elim h.2 fun z => by rw [h.1] at z; cases z⟩
theorem Pr.mono {α β : Type} {F G : α → β → Prop} (f : ∀ a b, F a b → G a b) : ∀ {xs : List α} {ys : List β}, Paired F xs ys → Paired G xs ys
  | _, _, .nil => .nil
  | _, _, .cons h t => .cons (f _ _ h) (Pr.mono f t)
theorem Pr.snoc {α β : Type} {F : α → β → Prop} {a : α} {b : β} (h : F a b) : ∀ {xs : List α} {ys : List β}, Paired F xs ys → Paired F (xs ++ [a]) (ys ++ [b])
  | _, _, .nil => .cons h .nil
  | _, _, .cons g t => .cons g (Pr.snoc h t)
theorem Pr.at {α β : Type} {F : α → β → Prop} : ∀ {xs : List α} {ys : List β} {i : Nat} {b : β}, Paired F xs ys → ys[i]? = some b → ∃ a, xs[i]? = some a ∧ F a b
  | _, _, i, b, .nil, e => by cases e
  | _, _, 0, b, .cons g t, e => ⟨_, rfl, by cases e; exact g⟩
  | _, _, i + 1, b, .cons g t, e => Pr.at (i := i) t e
def LineAt (H : Hp) (M : List Addr) (v : V) (l : Int × List Str) : Prop := ∃ t a, v = .ref t ∧ Fix H M t (.tup [.int l.1, .ref a]) ∧ Fix H M a (.lst (wlist l.2))
def KindAt (H : Hp) (M : List Addr) (v : V) (k : Str × Str × List Str) : Prop := ∃ t f, v = .ref t ∧ Fix H M t (.tup [.str k.1, .str k.2.1, .ref f]) ∧ Fix H M f (.tup (wlist k.2.2))
def ChAt (H : Hp) (M : List Addr) (v : Key × V) (k : Str × List Str) : Prop := v.1 = .inr k.1 ∧ ∃ t, v.2 = .ref t ∧ Fix H M t (.tup (wlist k.2))
def FdAt (H : Hp) (M : List Addr) (v : Key × V) (k : Str × List Str) : Prop := v.1 = .inr k.1 ∧ ∃ t, v.2 = .ref t ∧ Fix H M t (.lst (wlist k.2))
structure RdAt (C : Addr) (H : Hp) (r : Addr) (A : Adr) (S : Rd) : Prop where
  ob : ∃ dx, H r = some (.ins C dx (A.flds S.pos))
  nd : (A.own r).Nodup
  ln : ∃ vs, Fix H (A.all r) A.ln (.lst vs) ∧ Paired (LineAt H (A.all r)) vs S.ls
  kl : ∃ vs, H A.kl = some (.lst vs) ∧ Paired (KindAt H (A.all r)) vs S.kinds
  cd : ∃ vs, H A.cd = some (.dK vs) ∧ Paired (ChAt H (A.all r)) vs S.chains
  fd : ∃ vs, H A.fd = some (.dK vs) ∧ Paired (FdAt H (A.all r)) vs S.fields
  ll : H A.ll = some (.lst (wlist S.labels))
  pl : ∃ vs, H A.pl = some (.lst vs) ∧ vs.length = S.parts
  cl : H A.cl = some (.lst (wlist S.cells))
  wl : H A.wl = some (.lst (ilist S.worths))
  nr : Fix H (A.all r) A.nr (.tup (wlist S.near))
  xt : ∀ x ∈ A.xt, H x ≠ none ∧ x ∉ A.own r
/-- each kind of data, from a heap to another one -/
structure Carry (H H' : Hp) (M N : List Addr) : Prop where
  fx : ∀ a o, Fix H M a o → Fix H' N a o
theorem Carry.ln {H H' : Hp} {M N : List Addr} (c : Carry H H' M N) {v : V} {l : Int × List Str} (h : LineAt H M v l) : LineAt H' N v l := by
  obtain ⟨t, a, e, f, g⟩ := h
  exact ⟨t, a, e, c.fx _ _ f, c.fx _ _ g⟩
theorem Carry.kl {H H' : Hp} {M N : List Addr} (c : Carry H H' M N) {v : V} {l : Str × Str × List Str} (h : KindAt H M v l) : KindAt H' N v l := by
  obtain ⟨t, a, e, f, g⟩ := h
  exact ⟨t, a, e, c.fx _ _ f, c.fx _ _ g⟩
theorem Carry.cd {H H' : Hp} {M N : List Addr} (c : Carry H H' M N) {v : Key × V} {l : Str × List Str} (h : ChAt H M v l) : ChAt H' N v l := by
  obtain ⟨e, t, z, f⟩ := h
  exact ⟨e, t, z, c.fx _ _ f⟩
theorem Carry.fd {H H' : Hp} {M N : List Addr} (c : Carry H H' M N) {v : Key × V} {l : Str × List Str} (h : FdAt H M v l) : FdAt H' N v l := by
  obtain ⟨e, t, z, f⟩ := h
  exact ⟨e, t, z, c.fx _ _ f⟩
theorem Carry.upd {H : Hp} {M : List Addr} {x : Addr} {u : HO} (hx : x ∈ M) : Carry H (L2.upd H x u) M M := ⟨fun _ _ h => h.upd hx⟩
theorem Carry.same {H H' : Hp} {M : List Addr} (k : Same H H') : Carry H H' M M := ⟨fun a o h => ⟨k a o h.1, h.2⟩⟩
/-- the eight places are apart -/
theorem own_ne {A : Adr} {r : Addr} (h : (A.own r).Nodup) : r ≠ A.kl ∧ r ≠ A.cd ∧ r ≠ A.fd ∧ r ≠ A.ll ∧ r ≠ A.pl ∧ r ≠ A.cl ∧ r ≠ A.wl ∧ A.kl ≠ A.cd ∧ A.kl ≠ A.fd ∧ A.kl ≠ A.ll ∧ A.kl ≠ A.pl ∧ A.kl ≠ A.cl ∧ A.kl ≠ A.wl ∧
    A.cd ≠ A.fd ∧ A.cd ≠ A.ll ∧ A.cd ≠ A.pl ∧ A.cd ≠ A.cl ∧ A.cd ≠ A.wl ∧ A.fd ≠ A.ll ∧ A.fd ≠ A.pl ∧ A.fd ≠ A.cl ∧ A.fd ≠ A.wl ∧ A.ll ≠ A.pl ∧ A.ll ≠ A.cl ∧ A.ll ≠ A.wl ∧ A.pl ≠ A.cl ∧ A.pl ≠ A.wl ∧ A.cl ≠ A.wl := by
  unfold Adr.own at h
  simp only [List.nodup_cons, List.mem_cons, not_or, List.not_mem_nil, not_false_eq_true, and_true, List.nodup_nil] at h
  obtain ⟨⟨a1, a2, a3, a4, a5, a6, a7⟩, ⟨b1, b2, b3, b4, b5, b6⟩, ⟨c1, c2, c3, c4, c5⟩, ⟨d1, d2, d3, d4⟩, ⟨e1, e2, e3⟩, ⟨f1, f2⟩, g1⟩ := h
  exact ⟨a1, a2, a3, a4, a5, a6, a7, b1, b2, b3, b4, b5, b6, c1, c2, c3, c4, c5, d1, d2, d3, d4, e1, e2, e3, f1, f2, g1⟩
section
variable {C r : Addr} {H H' : Hp} {A : Adr} {S : Rd}
theorem upd_none {H : Hp} {a b : Addr} {o : HO} (e : L2.upd H a o b = none) : H b = none := by
  by_cases h : b = a
  · rw [h, upd_same] at e; cases e
  · rwa [upd_ne h] at e
theorem RdAt.same (h : RdAt C H r A S) (k : Same H H') : RdAt C H' r A S := by
  obtain ⟨⟨dx, ob⟩, nd, ⟨lv, l1, l2⟩, ⟨kv, k1, k2⟩, ⟨cv, c1, c2⟩, ⟨fv, f1, f2⟩, ll, ⟨pv, p1, p2⟩, cl, wl, nr, xt⟩ := h
  have c : Carry H H' (A.all r) (A.all r) := .same k
  exact ⟨⟨dx, k _ _ ob⟩, nd, ⟨lv, c.fx _ _ l1, Pr.mono (fun _ _ => c.ln) l2⟩, ⟨kv, k _ _ k1, Pr.mono (fun _ _ => c.kl) k2⟩, ⟨cv, k _ _ c1, Pr.mono (fun _ _ => c.cd) c2⟩, ⟨fv, k _ _ f1, Pr.mono (fun _ _ => c.fd) f2⟩, k _ _ ll, ⟨pv, k _ _ p1, p2⟩, k _ _ cl, k _ _ wl, c.fx _ _ nr, fun x hx => ⟨fun z => (xt x hx).1 (k.free z), (xt x hx).2⟩⟩
theorem RdAt.goTo (h : RdAt C H r A S) {dx : Addr} (n : Nat) : RdAt C (L2.upd H r (.ins C dx (A.flds n))) r A { S with pos := n } := by
  obtain ⟨⟨_, ob⟩, nd, ⟨lv, l1, l2⟩, ⟨kv, k1, k2⟩, ⟨cv, c1, c2⟩, ⟨fv, f1, f2⟩, ll, ⟨pv, p1, p2⟩, cl, wl, nr, xt⟩ := h
  obtain ⟨n_r_kl, n_r_cd, n_r_fd, n_r_ll, n_r_pl, n_r_cl, n_r_wl, n_kl_cd, n_kl_fd, n_kl_ll, n_kl_pl, n_kl_cl, n_kl_wl, n_cd_fd, n_cd_ll, n_cd_pl, n_cd_cl, n_cd_wl, n_fd_ll, n_fd_pl, n_fd_cl, n_fd_wl, n_ll_pl, n_ll_cl, n_ll_wl, n_pl_cl, n_pl_wl, n_cl_wl⟩ := own_ne nd
  have c : Carry H (L2.upd H r (HO.ins C dx (A.flds n))) (A.all r) (A.all r) := .upd (by simp [Adr.all, Adr.own])
  exact ⟨⟨dx, upd_same⟩, nd, ⟨lv, c.fx _ _ l1, Pr.mono (fun _ _ => c.ln) l2⟩, ⟨kv, by rw [upd_ne n_r_kl.symm]; exact k1, Pr.mono (fun _ _ => c.kl) k2⟩, ⟨cv, by rw [upd_ne n_r_cd.symm]; exact c1, Pr.mono (fun _ _ => c.cd) c2⟩, ⟨fv, by rw [upd_ne n_r_fd.symm]; exact f1, Pr.mono (fun _ _ => c.fd) f2⟩, by rw [upd_ne n_r_ll.symm]; exact ll, ⟨pv, by rw [upd_ne n_r_pl.symm]; exact p1, p2⟩, by rw [upd_ne n_r_cl.symm]; exact cl, by rw [upd_ne n_r_wl.symm]; exact wl, c.fx _ _ nr, fun x hx => ⟨fun z => (xt x hx).1 (upd_none z), (xt x hx).2⟩⟩
theorem RdAt.setNear (h : RdAt C H r A S) {dx a : Addr} {ws : List Str} (n : Fix H (A.all r) a (.tup (wlist ws))) : RdAt C (L2.upd H r (.ins C dx (({ A with nr := a } : Adr).flds S.pos))) r { A with nr := a } { S with near := ws } := by
  obtain ⟨⟨_, ob⟩, nd, ⟨lv, l1, l2⟩, ⟨kv, k1, k2⟩, ⟨cv, c1, c2⟩, ⟨fv, f1, f2⟩, ll, ⟨pv, p1, p2⟩, cl, wl, nr, xt⟩ := h
  obtain ⟨n_r_kl, n_r_cd, n_r_fd, n_r_ll, n_r_pl, n_r_cl, n_r_wl, n_kl_cd, n_kl_fd, n_kl_ll, n_kl_pl, n_kl_cl, n_kl_wl, n_cd_fd, n_cd_ll, n_cd_pl, n_cd_cl, n_cd_wl, n_fd_ll, n_fd_pl, n_fd_cl, n_fd_wl, n_ll_pl, n_ll_cl, n_ll_wl, n_pl_cl, n_pl_wl, n_cl_wl⟩ := own_ne nd
  have c : Carry H (L2.upd H r (HO.ins C dx (({ A with nr := a } : Adr).flds S.pos))) (A.all r) (A.all r) := .upd (by simp [Adr.all, Adr.own])
  exact ⟨⟨dx, upd_same⟩, nd, ⟨lv, c.fx _ _ l1, Pr.mono (fun _ _ => c.ln) l2⟩, ⟨kv, by rw [upd_ne n_r_kl.symm]; exact k1, Pr.mono (fun _ _ => c.kl) k2⟩, ⟨cv, by rw [upd_ne n_r_cd.symm]; exact c1, Pr.mono (fun _ _ => c.cd) c2⟩, ⟨fv, by rw [upd_ne n_r_fd.symm]; exact f1, Pr.mono (fun _ _ => c.fd) f2⟩, by rw [upd_ne n_r_ll.symm]; exact ll, ⟨pv, by rw [upd_ne n_r_pl.symm]; exact p1, p2⟩, by rw [upd_ne n_r_cl.symm]; exact cl, by rw [upd_ne n_r_wl.symm]; exact wl, c.fx _ _ n, fun x hx => ⟨fun z => (xt x hx).1 (upd_none z), (xt x hx).2⟩⟩
theorem RdAt.addKind (h : RdAt C H r A S) {vs : List V} (e : H A.kl = some (.lst vs)) {v : V} {k : Str × Str × List Str} (n : KindAt H (A.all r) v k) : RdAt C (L2.upd H A.kl (.lst (vs ++ [v]))) r A { S with kinds := S.kinds ++ [k] } := by
  obtain ⟨⟨dx, ob⟩, nd, ⟨lv, l1, l2⟩, ⟨kv, k1, k2⟩, ⟨cv, c1, c2⟩, ⟨fv, f1, f2⟩, ll, ⟨pv, p1, p2⟩, cl, wl, nr, xt⟩ := h
  obtain ⟨n_r_kl, n_r_cd, n_r_fd, n_r_ll, n_r_pl, n_r_cl, n_r_wl, n_kl_cd, n_kl_fd, n_kl_ll, n_kl_pl, n_kl_cl, n_kl_wl, n_cd_fd, n_cd_ll, n_cd_pl, n_cd_cl, n_cd_wl, n_fd_ll, n_fd_pl, n_fd_cl, n_fd_wl, n_ll_pl, n_ll_cl, n_ll_wl, n_pl_cl, n_pl_wl, n_cl_wl⟩ := own_ne nd
  have c : Carry H (L2.upd H A.kl (HO.lst (vs ++ [v]))) (A.all r) (A.all r) := .upd (by simp [Adr.all, Adr.own])
  exact ⟨⟨dx, by rw [upd_ne n_r_kl]; exact ob⟩, nd, ⟨lv, c.fx _ _ l1, Pr.mono (fun _ _ => c.ln) l2⟩, ⟨_, upd_same, Pr.snoc (c.kl n) (Pr.mono (fun _ _ => c.kl) (by rw [e] at k1; cases k1; exact k2))⟩, ⟨cv, by rw [upd_ne n_kl_cd.symm]; exact c1, Pr.mono (fun _ _ => c.cd) c2⟩, ⟨fv, by rw [upd_ne n_kl_fd.symm]; exact f1, Pr.mono (fun _ _ => c.fd) f2⟩, by rw [upd_ne n_kl_ll.symm]; exact ll, ⟨pv, by rw [upd_ne n_kl_pl.symm]; exact p1, p2⟩, by rw [upd_ne n_kl_cl.symm]; exact cl, by rw [upd_ne n_kl_wl.symm]; exact wl, c.fx _ _ nr, fun x hx => ⟨fun z => (xt x hx).1 (upd_none z), (xt x hx).2⟩⟩
theorem RdAt.addChain (h : RdAt C H r A S) {vs : List (Key × V)} (e : H A.cd = some (.dK vs)) {v : Key × V} {k : Str × List Str} (n : ChAt H (A.all r) v k) : RdAt C (L2.upd H A.cd (.dK (vs ++ [v]))) r A { S with chains := S.chains ++ [k] } := by
  obtain ⟨⟨dx, ob⟩, nd, ⟨lv, l1, l2⟩, ⟨kv, k1, k2⟩, ⟨cv, c1, c2⟩, ⟨fv, f1, f2⟩, ll, ⟨pv, p1, p2⟩, cl, wl, nr, xt⟩ := h
  obtain ⟨n_r_kl, n_r_cd, n_r_fd, n_r_ll, n_r_pl, n_r_cl, n_r_wl, n_kl_cd, n_kl_fd, n_kl_ll, n_kl_pl, n_kl_cl, n_kl_wl, n_cd_fd, n_cd_ll, n_cd_pl, n_cd_cl, n_cd_wl, n_fd_ll, n_fd_pl, n_fd_cl, n_fd_wl, n_ll_pl, n_ll_cl, n_ll_wl, n_pl_cl, n_pl_wl, n_cl_wl⟩ := own_ne nd
  have c : Carry H (L2.upd H A.cd (HO.dK (vs ++ [v]))) (A.all r) (A.all r) := .upd (by simp [Adr.all, Adr.own])
  exact ⟨⟨dx, by rw [upd_ne n_r_cd]; exact ob⟩, nd, ⟨lv, c.fx _ _ l1, Pr.mono (fun _ _ => c.ln) l2⟩, ⟨kv, by rw [upd_ne n_kl_cd]; exact k1, Pr.mono (fun _ _ => c.kl) k2⟩, ⟨_, upd_same, Pr.snoc (c.cd n) (Pr.mono (fun _ _ => c.cd) (by rw [e] at c1; cases c1; exact c2))⟩, ⟨fv, by rw [upd_ne n_cd_fd.symm]; exact f1, Pr.mono (fun _ _ => c.fd) f2⟩, by rw [upd_ne n_cd_ll.symm]; exact ll, ⟨pv, by rw [upd_ne n_cd_pl.symm]; exact p1, p2⟩, by rw [upd_ne n_cd_cl.symm]; exact cl, by rw [upd_ne n_cd_wl.symm]; exact wl, c.fx _ _ nr, fun x hx => ⟨fun z => (xt x hx).1 (upd_none z), (xt x hx).2⟩⟩
theorem RdAt.addField (h : RdAt C H r A S) {vs : List (Key × V)} (e : H A.fd = some (.dK vs)) {v : Key × V} {k : Str × List Str} (n : FdAt H (A.all r) v k) : RdAt C (L2.upd H A.fd (.dK (vs ++ [v]))) r A { S with fields := S.fields ++ [k] } := by
  obtain ⟨⟨dx, ob⟩, nd, ⟨lv, l1, l2⟩, ⟨kv, k1, k2⟩, ⟨cv, c1, c2⟩, ⟨fv, f1, f2⟩, ll, ⟨pv, p1, p2⟩, cl, wl, nr, xt⟩ := h
  obtain ⟨n_r_kl, n_r_cd, n_r_fd, n_r_ll, n_r_pl, n_r_cl, n_r_wl, n_kl_cd, n_kl_fd, n_kl_ll, n_kl_pl, n_kl_cl, n_kl_wl, n_cd_fd, n_cd_ll, n_cd_pl, n_cd_cl, n_cd_wl, n_fd_ll, n_fd_pl, n_fd_cl, n_fd_wl, n_ll_pl, n_ll_cl, n_ll_wl, n_pl_cl, n_pl_wl, n_cl_wl⟩ := own_ne nd
  have c : Carry H (L2.upd H A.fd (HO.dK (vs ++ [v]))) (A.all r) (A.all r) := .upd (by simp [Adr.all, Adr.own])
  exact ⟨⟨dx, by rw [upd_ne n_r_fd]; exact ob⟩, nd, ⟨lv, c.fx _ _ l1, Pr.mono (fun _ _ => c.ln) l2⟩, ⟨kv, by rw [upd_ne n_kl_fd]; exact k1, Pr.mono (fun _ _ => c.kl) k2⟩, ⟨cv, by rw [upd_ne n_cd_fd]; exact c1, Pr.mono (fun _ _ => c.cd) c2⟩, ⟨_, upd_same, Pr.snoc (c.fd n) (Pr.mono (fun _ _ => c.fd) (by rw [e] at f1; cases f1; exact f2))⟩, by rw [upd_ne n_fd_ll.symm]; exact ll, ⟨pv, by rw [upd_ne n_fd_pl.symm]; exact p1, p2⟩, by rw [upd_ne n_fd_cl.symm]; exact cl, by rw [upd_ne n_fd_wl.symm]; exact wl, c.fx _ _ nr, fun x hx => ⟨fun z => (xt x hx).1 (upd_none z), (xt x hx).2⟩⟩
theorem RdAt.addLabel (h : RdAt C H r A S) (x : Str) : RdAt C (L2.upd H A.ll (.lst (wlist S.labels ++ [.str x]))) r A { S with labels := S.labels ++ [x] } := by
  obtain ⟨⟨dx, ob⟩, nd, ⟨lv, l1, l2⟩, ⟨kv, k1, k2⟩, ⟨cv, c1, c2⟩, ⟨fv, f1, f2⟩, ll, ⟨pv, p1, p2⟩, cl, wl, nr, xt⟩ := h
  obtain ⟨n_r_kl, n_r_cd, n_r_fd, n_r_ll, n_r_pl, n_r_cl, n_r_wl, n_kl_cd, n_kl_fd, n_kl_ll, n_kl_pl, n_kl_cl, n_kl_wl, n_cd_fd, n_cd_ll, n_cd_pl, n_cd_cl, n_cd_wl, n_fd_ll, n_fd_pl, n_fd_cl, n_fd_wl, n_ll_pl, n_ll_cl, n_ll_wl, n_pl_cl, n_pl_wl, n_cl_wl⟩ := own_ne nd
  have c : Carry H (L2.upd H A.ll (HO.lst (wlist S.labels ++ [.str x]))) (A.all r) (A.all r) := .upd (by simp [Adr.all, Adr.own])
  exact ⟨⟨dx, by rw [upd_ne n_r_ll]; exact ob⟩, nd, ⟨lv, c.fx _ _ l1, Pr.mono (fun _ _ => c.ln) l2⟩, ⟨kv, by rw [upd_ne n_kl_ll]; exact k1, Pr.mono (fun _ _ => c.kl) k2⟩, ⟨cv, by rw [upd_ne n_cd_ll]; exact c1, Pr.mono (fun _ _ => c.cd) c2⟩, ⟨fv, by rw [upd_ne n_fd_ll]; exact f1, Pr.mono (fun _ _ => c.fd) f2⟩, by rw [upd_same]; simp [wlist], ⟨pv, by rw [upd_ne n_ll_pl.symm]; exact p1, p2⟩, by rw [upd_ne n_ll_cl.symm]; exact cl, by rw [upd_ne n_ll_wl.symm]; exact wl, c.fx _ _ nr, fun x hx => ⟨fun z => (xt x hx).1 (upd_none z), (xt x hx).2⟩⟩
theorem RdAt.addPart (h : RdAt C H r A S) {vs : List V} (e : H A.pl = some (.lst vs)) (v : V) : RdAt C (L2.upd H A.pl (.lst (vs ++ [v]))) r A { S with parts := S.parts + 1 } := by
  obtain ⟨⟨dx, ob⟩, nd, ⟨lv, l1, l2⟩, ⟨kv, k1, k2⟩, ⟨cv, c1, c2⟩, ⟨fv, f1, f2⟩, ll, ⟨pv, p1, p2⟩, cl, wl, nr, xt⟩ := h
  obtain ⟨n_r_kl, n_r_cd, n_r_fd, n_r_ll, n_r_pl, n_r_cl, n_r_wl, n_kl_cd, n_kl_fd, n_kl_ll, n_kl_pl, n_kl_cl, n_kl_wl, n_cd_fd, n_cd_ll, n_cd_pl, n_cd_cl, n_cd_wl, n_fd_ll, n_fd_pl, n_fd_cl, n_fd_wl, n_ll_pl, n_ll_cl, n_ll_wl, n_pl_cl, n_pl_wl, n_cl_wl⟩ := own_ne nd
  have c : Carry H (L2.upd H A.pl (HO.lst (vs ++ [v]))) (A.all r) (A.all r) := .upd (by simp [Adr.all, Adr.own])
  exact ⟨⟨dx, by rw [upd_ne n_r_pl]; exact ob⟩, nd, ⟨lv, c.fx _ _ l1, Pr.mono (fun _ _ => c.ln) l2⟩, ⟨kv, by rw [upd_ne n_kl_pl]; exact k1, Pr.mono (fun _ _ => c.kl) k2⟩, ⟨cv, by rw [upd_ne n_cd_pl]; exact c1, Pr.mono (fun _ _ => c.cd) c2⟩, ⟨fv, by rw [upd_ne n_fd_pl]; exact f1, Pr.mono (fun _ _ => c.fd) f2⟩, by rw [upd_ne n_ll_pl]; exact ll, ⟨_, upd_same, by rw [e] at p1; cases p1; rw [List.length_append, p2]; rfl⟩, by rw [upd_ne n_pl_cl.symm]; exact cl, by rw [upd_ne n_pl_wl.symm]; exact wl, c.fx _ _ nr, fun x hx => ⟨fun z => (xt x hx).1 (upd_none z), (xt x hx).2⟩⟩
theorem RdAt.addCell (h : RdAt C H r A S) (x : Str) : RdAt C (L2.upd H A.cl (.lst (wlist S.cells ++ [.str x]))) r A { S with cells := S.cells ++ [x] } := by
  obtain ⟨⟨dx, ob⟩, nd, ⟨lv, l1, l2⟩, ⟨kv, k1, k2⟩, ⟨cv, c1, c2⟩, ⟨fv, f1, f2⟩, ll, ⟨pv, p1, p2⟩, cl, wl, nr, xt⟩ := h
  obtain ⟨n_r_kl, n_r_cd, n_r_fd, n_r_ll, n_r_pl, n_r_cl, n_r_wl, n_kl_cd, n_kl_fd, n_kl_ll, n_kl_pl, n_kl_cl, n_kl_wl, n_cd_fd, n_cd_ll, n_cd_pl, n_cd_cl, n_cd_wl, n_fd_ll, n_fd_pl, n_fd_cl, n_fd_wl, n_ll_pl, n_ll_cl, n_ll_wl, n_pl_cl, n_pl_wl, n_cl_wl⟩ := own_ne nd
  have c : Carry H (L2.upd H A.cl (HO.lst (wlist S.cells ++ [.str x]))) (A.all r) (A.all r) := .upd (by simp [Adr.all, Adr.own])
  exact ⟨⟨dx, by rw [upd_ne n_r_cl]; exact ob⟩, nd, ⟨lv, c.fx _ _ l1, Pr.mono (fun _ _ => c.ln) l2⟩, ⟨kv, by rw [upd_ne n_kl_cl]; exact k1, Pr.mono (fun _ _ => c.kl) k2⟩, ⟨cv, by rw [upd_ne n_cd_cl]; exact c1, Pr.mono (fun _ _ => c.cd) c2⟩, ⟨fv, by rw [upd_ne n_fd_cl]; exact f1, Pr.mono (fun _ _ => c.fd) f2⟩, by rw [upd_ne n_ll_cl]; exact ll, ⟨pv, by rw [upd_ne n_pl_cl]; exact p1, p2⟩, by rw [upd_same]; simp [wlist], by rw [upd_ne n_cl_wl.symm]; exact wl, c.fx _ _ nr, fun x hx => ⟨fun z => (xt x hx).1 (upd_none z), (xt x hx).2⟩⟩
theorem RdAt.addWorth (h : RdAt C H r A S) (x : Int) : RdAt C (L2.upd H A.wl (.lst (ilist S.worths ++ [.int x]))) r A { S with worths := S.worths ++ [x] } := by
  obtain ⟨⟨dx, ob⟩, nd, ⟨lv, l1, l2⟩, ⟨kv, k1, k2⟩, ⟨cv, c1, c2⟩, ⟨fv, f1, f2⟩, ll, ⟨pv, p1, p2⟩, cl, wl, nr, xt⟩ := h
  obtain ⟨n_r_kl, n_r_cd, n_r_fd, n_r_ll, n_r_pl, n_r_cl, n_r_wl, n_kl_cd, n_kl_fd, n_kl_ll, n_kl_pl, n_kl_cl, n_kl_wl, n_cd_fd, n_cd_ll, n_cd_pl, n_cd_cl, n_cd_wl, n_fd_ll, n_fd_pl, n_fd_cl, n_fd_wl, n_ll_pl, n_ll_cl, n_ll_wl, n_pl_cl, n_pl_wl, n_cl_wl⟩ := own_ne nd
  have c : Carry H (L2.upd H A.wl (HO.lst (ilist S.worths ++ [.int x]))) (A.all r) (A.all r) := .upd (by simp [Adr.all, Adr.own])
  exact ⟨⟨dx, by rw [upd_ne n_r_wl]; exact ob⟩, nd, ⟨lv, c.fx _ _ l1, Pr.mono (fun _ _ => c.ln) l2⟩, ⟨kv, by rw [upd_ne n_kl_wl]; exact k1, Pr.mono (fun _ _ => c.kl) k2⟩, ⟨cv, by rw [upd_ne n_cd_wl]; exact c1, Pr.mono (fun _ _ => c.cd) c2⟩, ⟨fv, by rw [upd_ne n_fd_wl]; exact f1, Pr.mono (fun _ _ => c.fd) f2⟩, by rw [upd_ne n_ll_wl]; exact ll, ⟨pv, by rw [upd_ne n_pl_wl]; exact p1, p2⟩, by rw [upd_ne n_cl_wl]; exact cl, by rw [upd_same]; simp [ilist], c.fx _ _ nr, fun x hx => ⟨fun z => (xt x hx).1 (upd_none z), (xt x hx).2⟩⟩
/-- one more place that the data avoid -/
theorem RdAt.enter (h : RdAt C H r A S) {D : Addr} {o : HO} (nD : H D = none) : RdAt C (L2.upd H D o) r { A with xt := D :: A.xt } S := by
  obtain ⟨⟨dx, ob⟩, nd, ⟨lv, l1, l2⟩, ⟨kv, k1, k2⟩, ⟨cv, c1, c2⟩, ⟨fv, f1, f2⟩, ll, ⟨pv, p1, p2⟩, cl, wl, nr, xt⟩ := h
  have k : Same H (L2.upd H D o) := Same.new nD
  have c : Carry H (L2.upd H D o) (A.all r) (({ A with xt := D :: A.xt } : Adr).all r) := ⟨fun a u hf => ⟨k _ _ hf.1, fun z => by
    have z : a ∈ A.own r ++ D :: A.xt := z
    rcases List.mem_append.mp z with z | z
    · exact hf.2 (List.mem_append_left _ z)
    · rcases List.mem_cons.mp z with z | z
      · have w1 := hf.1
        rw [‹a = D›, nD] at w1
        cases w1
      · exact hf.2 (List.mem_append_right _ z)⟩⟩
  have tr : ∀ q ∈ A.own r, H q ≠ none := by
    intro q hq
    simp only [Adr.own, List.mem_cons, List.not_mem_nil, or_false] at hq
    rcases hq with rfl | rfl | rfl | rfl | rfl | rfl | rfl | rfl <;> simp_all
  refine ⟨⟨dx, k _ _ ob⟩, nd, ⟨lv, c.fx _ _ l1, Pr.mono (fun _ _ => c.ln) l2⟩, ⟨kv, k _ _ k1, Pr.mono (fun _ _ => c.kl) k2⟩, ⟨cv, k _ _ c1, Pr.mono (fun _ _ => c.cd) c2⟩, ⟨fv, k _ _ f1, Pr.mono (fun _ _ => c.fd) f2⟩, k _ _ ll, ⟨pv, k _ _ p1, p2⟩, k _ _ cl, k _ _ wl, c.fx _ _ nr, fun x hx => ?_⟩
  rcases List.mem_cons.mp hx with rfl | hx
  · exact ⟨by rw [upd_same]; simp, fun z => tr _ z nD⟩
  · exact ⟨fun z => (xt x hx).1 (upd_none z), (xt x hx).2⟩
theorem RdAt.leave {D : Addr} (h : RdAt C H r { A with xt := D :: A.xt } S) : RdAt C H r A S := by
  obtain ⟨⟨dx, ob⟩, nd, ⟨lv, l1, l2⟩, ⟨kv, k1, k2⟩, ⟨cv, c1, c2⟩, ⟨fv, f1, f2⟩, ll, ⟨pv, p1, p2⟩, cl, wl, nr, xt⟩ := h
  have c : Carry H H (({ A with xt := D :: A.xt } : Adr).all r) (A.all r) := ⟨fun a u hf => ⟨hf.1, fun z => hf.2 (by
    show a ∈ A.own r ++ D :: A.xt
    rcases List.mem_append.mp z with z | z
    · exact List.mem_append_left _ z
    · exact List.mem_append_right _ (List.mem_cons_of_mem _ z))⟩⟩
  exact ⟨⟨dx, ob⟩, nd, ⟨lv, c.fx _ _ l1, Pr.mono (fun _ _ => c.ln) l2⟩, ⟨kv, k1, Pr.mono (fun _ _ => c.kl) k2⟩, ⟨cv, c1, Pr.mono (fun _ _ => c.cd) c2⟩, ⟨fv, f1, Pr.mono (fun _ _ => c.fd) f2⟩, ll, ⟨pv, p1, p2⟩, cl, wl, c.fx _ _ nr, fun x hx => xt x (List.mem_cons_of_mem _ hx)⟩
/-- a place that the data avoid, stored to -/
theorem RdAt.store (h : RdAt C H r A S) {D : Addr} {o : HO} (hD : D ∈ A.xt) : RdAt C (L2.upd H D o) r A S := by
  obtain ⟨⟨dx, ob⟩, nd, ⟨lv, l1, l2⟩, ⟨kv, k1, k2⟩, ⟨cv, c1, c2⟩, ⟨fv, f1, f2⟩, ll, ⟨pv, p1, p2⟩, cl, wl, nr, xt⟩ := h
  have c : Carry H (L2.upd H D o) (A.all r) (A.all r) := .upd (List.mem_append_right _ hD)
  have ne : ∀ q ∈ A.own r, q ≠ D := fun q hq z => (xt D hD).2 (z ▸ hq)
  have m : ∀ q, q ∈ A.own r → L2.upd H D o q = H q := fun q hq => upd_ne (ne q hq)
  exact ⟨⟨dx, by rw [m _ (by simp [Adr.own])]; exact ob⟩, nd, ⟨lv, c.fx _ _ l1, Pr.mono (fun _ _ => c.ln) l2⟩, ⟨kv, by rw [m _ (by simp [Adr.own])]; exact k1, Pr.mono (fun _ _ => c.kl) k2⟩, ⟨cv, by rw [m _ (by simp [Adr.own])]; exact c1, Pr.mono (fun _ _ => c.cd) c2⟩,
    ⟨fv, by rw [m _ (by simp [Adr.own])]; exact f1, Pr.mono (fun _ _ => c.fd) f2⟩, by rw [m _ (by simp [Adr.own])]; exact ll, ⟨pv, by rw [m _ (by simp [Adr.own])]; exact p1, p2⟩, by rw [m _ (by simp [Adr.own])]; exact cl, by rw [m _ (by simp [Adr.own])]; exact wl, c.fx _ _ nr,
    fun x hx => ⟨fun z => (xt x hx).1 (upd_none z), (xt x hx).2⟩⟩
end
end Rdr

set_option Elab.async false
set_option linter.all false
set_option maxRecDepth 100000
namespace K7
open PySem L2 Rdr
theorem sign_ge (c d : Nat) : (!decide (([c] : List Nat) < [d])) = decide (d ≤ c) := by
  have e : (([c] : List Nat) < [d]) ↔ c < d := by simp [List.cons_lt_cons_iff]
  by_cases h : c < d
  · rw [decide_eq_false (p := d ≤ c) (by omega), decide_eq_true (e.mpr h)]
    rfl
  · rw [decide_eq_true (p := d ≤ c) (by omega), decide_eq_false (fun z => h (e.mp z))]
    rfl
theorem le_line {n : Nat} (h : n ≤ 20002) : n ≤ sizeLine := by
  rw [sizeLine_eq]
  omega
/-! ### a def or a method that keeps its promise, with how it is called -/
section
variable (P : Program) (w : World) (K : PySem.W.Frag) (mg : Str → Option Value) (base : Heap)
structure MOk (k : Nat) (C : Addr) (m : Str) (sp : Sp) : Prop where
  ex : ∃ f fd ps, Meth K C m f ∧ FnOk P w K mg base (L2.CX P w) k f fd ps sp ∧ Binds K fd ps []
structure DOk (k : Nat) (x : Str) (sp : Sp) : Prop where
  ex : ∃ f fd ps, mg x = some (.ref f) ∧ PySem.W.keepIn K (.ref f) = true ∧ FnOk P w K mg base (L2.CX P w) k f fd ps sp ∧ Binds K fd ps []
end
section
variable {X : Cx} {k : Nat} {C : Addr} {m x : Str} {sp : Sp} {E : XK} {o e : Expr} {es : List Expr} {ta : TE} {t : TA} {apos pos p : Pos}
theorem m_meth {pl : Sem Bool} (he : PE X o ta) (c : Cls X.K C) (G : MOk X.prog X.w X.K X.mg X.base k C m sp) (hr : Room k X.A) (hx : Passes (L2.CX X.prog X.w) X E) (ha : PA X (e :: es) t)
    (hst : starEach (e :: es) X.env = (false, eval e X.env) :: starEach es X.env := by rfl) (hpl : (backTo pos (starEach es X.env)).any (·.1) = false := by rfl)
    (ht : eval (.Call (.Attribute o m apos) (e :: es) [] pos) X.env = (do
      let ov ← eval o X.env
      standAt apos.atName
      let (f, first) ← holding [ov] (getMethod ov m pl)
      callWith pos f first (backTo pos (starEach (e :: es) X.env)) (backToKw pos (keywordEach [] X.env))) := by rfl) :
    PE X (.Call (.Attribute o m apos) (e :: es) [] pos) (tMeth C m sp [] E ta t) := by
  obtain ⟨f, fd, ps, hm, F, b⟩ := G.ex
  exact pe_meth he c hm F hr b .nil hx ha hst hpl ht
theorem m_meth0 {pl : Sem Bool} (he : PE X o ta) (c : Cls X.K C) (G : MOk X.prog X.w X.K X.mg X.base k C m sp) (hr : Room k X.A) (hx : Passes (L2.CX X.prog X.w) X E)
    (ht : eval (.Call (.Attribute o m apos) [] [] pos) X.env = (do
      let ov ← eval o X.env
      standAt apos.atName
      let (f, first) ← holding [ov] (getMethod ov m pl)
      callWith pos f first (backTo pos (starEach [] X.env)) (backToKw pos (keywordEach [] X.env))) := by rfl) :
    PE X (.Call (.Attribute o m apos) [] [] pos) (tMeth C m sp [] E ta tNil) := by
  obtain ⟨f, fd, ps, hm, F, b⟩ := G.ex
  exact pe_meth0 he c hm F hr b .nil hx ht
theorem f_call (G : DOk X.prog X.w X.K X.mg X.base k x sp) (hr : Room k X.A) (hx : Passes (L2.CX X.prog X.w) X E) (ha : PA X (e :: es) t) (hg : Gl X x := by rfl)
    (hdb : (x == ("__debug__" : Str)) = false := by decide) (he : starEach (e :: es) X.env = (false, eval e X.env) :: starEach es X.env := by rfl) (hpl : (backTo pos (starEach es X.env)).any (·.1) = false := by rfl) :
    PE X (.Call (.Name x p) (e :: es) [] pos) (tCall sp [] E t) := by
  obtain ⟨f, fd, ps, hm, kp, F, b⟩ := G.ex
  exact pe_call F hr hg hm kp b .nil hx ha hdb he hpl
end
/-! ### the text by places -/
abbrev sBadInit : Stmt := inClass (top 2) 0
abbrev sLnInit : Stmt := inClass (top 5) 0
abbrev sWordsAt : Stmt := inClass (top 5) 1
abbrev sBegins : Stmt := inClass (top 5) 2
abbrev sNeed : Stmt := inClass (top 5) 3
abbrev sParted : Stmt := top 6
abbrev sIsWord : Stmt := top 9
/-- facts of the module's names and of the reader's class C and the error's cB -/
structure RT (K : PySem.W.Frag) (mg : Str → Option Value) (C cB fB : Addr) (fdB : FuncData) : Prop where
  len : mg "len" = none
  tuple : mg "tuple" = none
  int : mg "int" = none
  str : mg "str" = none
  range : mg "range" = none
  all : mg "all" = none
  isinstance : mg "isinstance" = none
  BLANKS : ∃ t, mg "BLANKS" = some (.int 2 t)
  MOST_LETTERS : ∃ t, mg "MOST_LETTERS" = some (.int 8 t)
  cl : Cls K C
  lines : NoAttr K C "lines"
  at_ : NoAttr K C "at"
  kinds : NoAttr K C "kinds"
  chains : NoAttr K C "chains"
  fields : NoAttr K C "fields"
  labels : NoAttr K C "labels"
  parts : NoAttr K C "parts"
  cells : NoAttr K C "cells"
  worths : NoAttr K C "worths"
  near : NoAttr K C "near"
  mgB : mg "BadText" = some (.ref cB)
  oB : OexC K cB
  iB : PySem.W.findIn K (.ref cB) "__init__" = some (some (.ref fB))
  tB : PySem.W.typeIn K (.ref fB) = some (.type "function")
  nB : PySem.W.findIn K (.ref cB) "line" = some none
  FB : Fun K "__init__" "BadText.__init__" sBadInit fB fdB
  bB : Binds K fdB ["self", "line"] []
/-- an error that tells the line n, all else as it was -/
def Bad (cB : Addr) (E : XK) (M : List Addr) (H : Hp) (n : Int) : Prop := ∀ (d : Addr) (H' : Hp), H d = none → But M H H' → H' d = some (.xd [("line", .int n)]) → E (.ref cB) (some d) H'
def spBadInit (K : PySem.W.Frag) : Sp := fun vs H Q _ => ∃ (a C : Addr) (v : V), vs = [.ref a, v] ∧ OexC K C ∧ PySem.W.findIn K (.ref C) "line" = some none ∧ H a = some (exo a C none) ∧
  ∀ dx, H dx = none → dx ≠ a → Q .non (upd (upd H dx (exd dx [("line", v)])) a (exo a C (some dx)))
def spParted : Sp := fun vs H Q _ => ∃ (l : Str), vs = [.str l] ∧ l.length ≤ 20000 ∧ (Txt.lstripChars l " ").length ≤ 20000 ∧
  ∀ (t a : Addr) (H' : Hp), Same H H' → H t = none → H a = none → H' t = some (.tup [.int (parted l).1, .ref a]) → H' a = some (.lst (wlist (parted l).2)) → Q (.ref t) H'
/-- of a text: whether it is a word -/
def spWord : Sp := fun vs H Q _ => ∃ (l : Str), vs = [.str l] ∧ l.length ≤ 20000 ∧ ∀ H', Same H H' → Q (.bl (word l)) H'
def spWordsAt (C : Addr) : Sp := fun vs H Q _ => ∃ (r : Addr) (A : Adr) (S : Rd) (d : Int), vs = [.ref r, .int d] ∧ RdAt C H r A S ∧ S.pos ≤ S.ls.length ∧ 0 ≤ d ∧ d < 100 ∧
  ∀ (a : Addr) (H' : Hp), Same H H' → a ∉ A.own r → H' a = some (.lst (wlist (S.wordsAt d))) → Q (.ref a) H'
def spNeed (C cB : Addr) : Sp := fun vs H Q E => ∃ (r : Addr) (A : Adr) (S : Rd) (b : Bool), vs = [.ref r, .bl b] ∧ RdAt C H r A S ∧
  (b = true → Q .non H) ∧ (b = false → Bad cB E (A.own r) H ((S.pos : Int) + 1))
section
variable {P : Program} {w : World} {K : PySem.W.Frag} {mg : Str → Option Value} {base : Heap} {C cB fB : Addr} {fdB : FuncData}
theorem sc_badInit : FnScope ["self", "line"] ["self", "line"] (defScope sBadInit) := ⟨rfl, rfl, rfl, by decide +kernel, rfl, by decide +kernel, by decide +kernel⟩
theorem ok_badInit {f : Addr} {fd : FuncData} (F : Fun K "__init__" "BadText.__init__" sBadInit f fd) : FnOk P w K mg base (L2.CX P w) 1 f fd ["self", "line"] (spBadInit K) := by
  refine F.okX sc_badInit (fun vs H Q E h => ?_) (fun cdv A outer s H vs Q E hr h => ?_)
  · obtain ⟨a, C, v, rfl, _⟩ := h
    rfl
  · obtain ⟨a, C, v, rfl, o, n, ha, k⟩ := h
    refine ⟨_, pss_one (ps_ost (pv 0) (pv 1)), ?_⟩
    exact ⟨_, rfl, _, rfl, a, C, rfl, o, n, .inl ⟨ha, k⟩⟩
theorem sc_parted : FnScope ["line", "rest"] ["line"] (defScope sParted) := ⟨rfl, rfl, rfl, by decide +kernel, rfl, by decide +kernel, by decide +kernel⟩
theorem ok_parted {f : Addr} {fd : FuncData} (F : Fun K "_parted" "_parted" sParted f fd) (T : RT K mg C cB fB fdB) : FnOk P w K mg base (L2.CX P w) 1 f fd ["line"] spParted := by
  refine F.okX sc_parted (fun vs H Q E h => ?_) (fun cdv A outer s H vs Q E hr h => ?_)
  · obtain ⟨l, rfl, _⟩ := h
    rfl
  · obtain ⟨l, rfl, hl, hl2, k⟩ := h
    refine ⟨_, (pss_cons (ps_set (i := 1) sc_parted.nd rfl (Or.inl rfl) (pe_bm PySem.F.plainAttrs_str PySem.F.slot_str_lstrip PySem.F.type_str_lstrip mt_lstripChars (pv 0) (pa_cons pe_str pa_nil)))
      (pss_one (ps_ret (pe_tup (pa_cons (pe_op op_sub (pe_callB call_len_str (by rfl) T.len (PySem.boot_len) (pa_cons (pv 0) pa_nil)) (pe_callB call_len_str (by rfl) T.len (PySem.boot_len) (pa_cons (pv 1) pa_nil))) (pa_cons (pe_split (pv 1) pe_str) pa_nil)))))), ?_⟩
    refine ⟨_, rfl, rfl, _, _, rfl, rfl, le_line (by omega), ?_⟩
    refine ⟨_, rfl, _, rfl, le_line (by omega), _, rfl, _, rfl, le_line (by omega), _, _, rfl, rfl, _, rfl, ⟨_, rfl⟩, _, _, rfl, rfl, (by decide), ?_, fun a ha => ?_⟩
    · have := le_line (n := 20002) (by omega); omega
    refine ⟨(by show 2 ≤ sizeLine; decide), fun t ht => ?_⟩
    have s1 : Same H (upd H a (.lst (wlist (parted l).2))) := Same.new ha
    have nt : H t = none := s1.free ht
    have hat : a ≠ t := ne_of_none (upd_same (H := H) (a := a)) ht
    exact k t a _ (s1.trans (Same.new ht)) nt ha upd_same (by rw [upd_ne hat]; exact upd_same)
theorem sc_word : FnScope ["value", "letter"] ["value"] (defScope sIsWord) := ⟨rfl, rfl, rfl, by decide +kernel, rfl, by decide +kernel, by decide +kernel⟩
theorem ok_word {f : Addr} {fd : FuncData} (F : Fun K "is_word" "is_word" sIsWord f fd) (T : RT K mg C cB fB fdB) : FnOk P w K mg base (L2.CX P w) 1 f fd ["value"] spWord := by
  obtain ⟨tL, cL⟩ := T.MOST_LETTERS
  refine F.okX sc_word (fun vs H Q E h => ?_) (fun cdv A outer s H vs Q E hr h => ?_)
  · obtain ⟨l, rfl, _⟩ := h
    rfl
  · obtain ⟨l, rfl, hl, k⟩ := h
    refine ⟨_, (pss_cons (ps_if (PW.pt (pw_or (pt_not (pt_val (pe_callB call_isi (by rfl) T.isinstance (by decide +kernel) (pa_cons (pv 0) (pa_cons (pe_bltn (v := .ty "str") (by rfl) T.str (by decide +kernel) rfl) pa_nil)))))
        (pw_or1 (pt_not (pt_chain op_le op_le pe_int (pe_callB call_len_str (by rfl) T.len PySem.boot_len (pa_cons (pv 0) pa_nil)) (pe_glob (v := .int 8) rfl cL ⟨_, rfl⟩)))))) (pss_one (ps_ret pe_bl)) pss_nil)
      (pss_one (ps_ret (pe_callB (cr_all rfl) (by rfl) T.all (by decide +kernel) (pa_cons (pe_lc (own := [("letter", 1)]) (g := gName 1) (tt := tYes) rfl sc_word.nd (pi_str (pv 0)) (blkOk_by (N := ["value", "letter"]) (sc := defScope sIsWord) (by decide +kernel))
        (fun _ _ _ _ _ => pg_name (i := 1) sc_word.nd rfl (Or.inl rfl)) (fun _ _ _ _ _ => pts_nil) (fun _ _ _ _ _ => pe_chain op_le_str op_le_str pe_str (pv 1) pe_str)) pa_nil))))), ?_⟩
    refine ⟨_, rfl, _, .ty "str", .type "str", .type "str", true, rfl, .ty _, .base (.str _), kit_ty (by decide +kernel), _, rfl, ?_⟩
    refine iteF ?_
    refine ⟨_, rfl, _, rfl, le_line (by omega), _, _, rfl, rfl, _, rfl, ?_⟩
    refine ite2 (fun h1 => ?_) (fun h1 => ?_)
    · have h1 := of_decide_eq_true h1
      refine ⟨_, _, rfl, rfl, _, rfl, ?_⟩
      by_cases h2 : (l.length : Int) ≤ 8
      · refine iteNS h2 ?_
        have e : word l = l.cps.toList.all letter := by
          unfold word
          rw [decide_eq_true (by omega), decide_eq_true (by omega)]
          rfl
        refine ⟨_, rfl, l, rfl, fun D nD => lc_it (G := fun _ => True) walk_str (fun i H' => Same H H' ∧ H' D = some (.lst ((l.cps.toList.take i).map fun c => V.bl (letter c))))
          ⟨Same.new nD, upd_same⟩ (fun _ _ _ _ => trivial) ?_ ?_⟩
        · rintro i x H1 H2 hi ⟨s1, d1⟩ ⟨rfl, c, hc, rfl⟩
          have fin : ∀ b : Bool, b = letter c → ∃ acc, H2 D = some (.lst acc) ∧ acc.length < sizeLine ∧ (Same H (upd H2 D (.lst (acc ++ [V.bl b]))) ∧ upd H2 D (.lst (acc ++ [V.bl b])) D = some (.lst ((l.cps.toList.take (i + 1)).map fun c => V.bl (letter c)))) := fun b hb => by
            refine ⟨_, d1, ?_, fun q o z => ?_, ?_⟩
            · have := le_line (n := 20002) (by omega)
              have hl' : l.cps.size ≤ 20000 := hl
              simp only [List.length_map, List.length_take, Array.length_toList]
              omega
            · rw [upd_ne (ne_of_none z nD)]
              exact s1 q o z
            · rw [upd_same, hb]
              have hc' : l.cps.toList[i]? = some c := by simpa using hc
              rw [List.take_add_one, hc']
              simp
          refine ⟨rfl, _, rfl, _, _, rfl, rfl, _, rfl, ?_⟩
          have e1 : (!decide ((⟨#[c]⟩ : Str).cps.toList < (Str.ofString "a").cps.toList)) = decide (97 ≤ c) := sign_ge c 97
          have e2 : (!decide ((Str.ofString "z").cps.toList < (⟨#[c]⟩ : Str).cps.toList)) = decide (c ≤ 122) := sign_ge 122 c
          refine ite2 (fun h3 => ?_) (fun h3 => ?_)
          · refine ⟨_, _, rfl, rfl, ?_⟩
            refine fin _ ?_
            rw [e1] at h3
            show (!decide ((Str.ofString "z").cps.toList < (⟨#[c]⟩ : Str).cps.toList)) = (decide (97 ≤ c) && decide (c ≤ 122))
            rw [e2, h3]
            rfl
          · refine fin _ ?_
            rw [e1] at h3
            have h3 : decide (97 ≤ c) = false := by simpa using h3
            show false = (decide (97 ≤ c) && decide (c ≤ 122))
            rw [h3]
            rfl
        · rintro H1 ⟨s1, d1⟩
          have z : l.cps.toList.take l.cps.size = l.cps.toList := List.take_of_length_le (by simp)
          rw [z] at d1
          refine ⟨D, l.cps.toList.map letter, rfl, .inl (.inl ?_), ?_⟩
          · rw [d1, List.map_map]
            rfl
          · have := k H1 s1
            rw [e] at this
            rw [List.all_map]
            exact this
      · rw [decide_eq_false h2]
        refine iteT ?_
        have e : word l = false := by
          unfold word
          rw [decide_eq_false (p := l.length ≤ 8) (by omega)]
          simp
        have := k H (Same.refl H)
        rw [e] at this
        exact this
    · have h1 : ¬ ((1 : Int) ≤ (l.length : Int)) := fun z => h1 (decide_eq_true z)
      refine ⟨_, rfl, ?_⟩
      refine iteT ?_
      have e : word l = false := by
        unfold word
        rw [decide_eq_false (p := 1 ≤ l.length) (by omega)]
        rfl
      have := k H (Same.refl H)
      rw [e] at this
      exact this
end
end K7

set_option Elab.async false
set_option linter.all false
set_option maxRecDepth 100000
namespace K7
open PySem L2 Rdr
theorem RdAt.line {C r : Addr} {H : Hp} {A : Adr} {S : Rd} (h : RdAt C H r A S) {b : Int} {ws : List Str} (e : S.ls[S.pos]? = some (b, ws)) :
    ∃ vs t a, H A.ln = some (.lst vs) ∧ vs.length = S.ls.length ∧ atI vs (S.pos : Int) = some (.ref t) ∧ H t = some (.tup [.int b, .ref a]) ∧ H a = some (.lst (wlist ws)) ∧ a ∉ A.own r := by
  obtain ⟨vs, l1, l2⟩ := h.ln
  obtain ⟨v, hv, t, a, rfl, f, g⟩ := Pr.at l2 e
  exact ⟨vs, t, a, l1.1, l2.length, atI_nat hv, f.1, g.1, fun z => g.2 (List.mem_append_left _ z)⟩
theorem RdAt.tracked {C r : Addr} {H : Hp} {A : Adr} {S : Rd} (h : RdAt C H r A S) : ∀ q ∈ A.own r, H q ≠ none := by
  obtain ⟨⟨dx, ob⟩, nd, ⟨lv, l1, l2⟩, ⟨kv, k1, k2⟩, ⟨cv, c1, c2⟩, ⟨fv, f1, f2⟩, ll, ⟨pv, p1, p2⟩, cl, wl, nr, xt⟩ := h
  intro q hq
  simp only [Adr.own, List.mem_cons, List.not_mem_nil, or_false] at hq
  rcases hq with rfl | rfl | rfl | rfl | rfl | rfl | rfl | rfl <;> simp_all
theorem int_ne {a b : Nat} (h : a ≠ b) : ¬ (decide (V.int (a : Int) = V.int (b : Int)) = true) := fun z => h (by have := V.int.inj (of_decide_eq_true z); omega)
section
variable {P : Program} {w : World} {K : PySem.W.Frag} {mg : Str → Option Value} {base : Heap} {C cB fB : Addr} {fdB : FuncData}
theorem sc_words_at : FnScope ["self", "depth", "blanks", "words"] ["self", "depth"] (defScope sWordsAt) := ⟨rfl, rfl, rfl, by decide +kernel, rfl, by decide +kernel, by decide +kernel⟩
theorem ok_words_at {f : Addr} {fd : FuncData} (F : Fun K "words_at" "Lines.words_at" sWordsAt f fd) (T : RT K mg C cB fB fdB) : FnOk P w K mg base (L2.CX P w) 1 f fd ["self", "depth"] (spWordsAt C) := by
  obtain ⟨tB, cBLANKS⟩ := T.BLANKS
  refine F.okX sc_words_at (fun vs H Q E h => ?_) (fun cdv A outer s H vs Q E hr h => ?_)
  · obtain ⟨r, A, S, d, rfl, _⟩ := h
    rfl
  · obtain ⟨r, A, S, d, rfl, R, hp, d0, d1, k⟩ := h
    obtain ⟨dx, ob⟩ := R.ob
    obtain ⟨lv, l1, l2⟩ := R.ln
    refine ⟨_, (pss_cons (ps_if (pt_cmpR op_eq (pe_fld (pv 0) rfl) (pe_callB call_len_seq (by rfl) T.len (PySem.boot_len) (pa_cons (pe_fld (pv 0) rfl) pa_nil)) (nomark _))
      (pss_one (ps_ret (pe_lst pa_nil))) pss_nil)
      (pss_cons (ps_asg (pe_ix ix_list (pe_fld (pv 0) rfl) (pe_fld (pv 0) rfl) (fun _ _ => rfl)) (pg_tup rfl (pgs_cons (pg_name (i := 2) sc_words_at.nd rfl (Or.inl rfl)) (pgs_cons (pg_name (i := 3) sc_words_at.nd rfl (Or.inl rfl)) pgs_nil))))
      (pss_one (ps_ret (pe_ifExp (pt_cmpR op_eq (pv 2) (pe_op op_mul (pe_glob (v := .int 2) rfl cBLANKS ⟨_, rfl⟩) (pv 1)) (nomark _)) (pv 3) (pe_lst pa_nil)))))), ?_⟩
    have noWords : S.wordsAt d = [] → ∀ (p : Addr), H p = none → Q (.ref p) (upd H p (.lst [])) := fun e p np => by
      refine k p _ (Same.new np) (fun z => ?_) (by rw [upd_same, e]; rfl)
      have tr : ∀ q ∈ A.own r, H q ≠ none := RdAt.tracked R
      exact tr p z np
    refine ⟨_, rfl, r, C, dx, _, _, rfl, ob, T.cl, T.at_, rfl, _, rfl, r, C, dx, _, _, rfl, ob, T.cl, T.lines, rfl, _, _, rfl, .inl (SqL.of l1.1), rfl, _, rfl, ?_⟩
    cases e : S.ls[S.pos]? with
    | none =>
      have hq : S.pos = lv.length := by
        have := l2.length
        have := List.getElem?_eq_none_iff.mp e
        omega
      rw [hq]
      rw [decide_eq_true rfl]
      refine iteT ?_
      refine ⟨(by show 0 ≤ sizeLine; decide), fun p np => ?_⟩
      exact noWords (by unfold Rd.wordsAt; rw [e]) p np
    | some l =>
      obtain ⟨b, ws⟩ := l
      have hlt := (List.getElem?_eq_some_iff.mp e).1
      have hq : S.pos ≠ lv.length := by
        have := l2.length
        omega
      rw [decide_eq_false (fun z => hq (by have := V.int.inj z; omega))]
      refine iteF ?_
      obtain ⟨vs, t, a, v1, v2, v3, v4, v5, v6⟩ := RdAt.line R e
      refine ⟨_, rfl, r, C, dx, _, _, rfl, ob, T.cl, T.lines, rfl, _, rfl, r, C, dx, _, _, rfl, ob, T.cl, T.at_, rfl, _, _, _, _, rfl, rfl, SqL.of v1, v3, t, _, rfl, SqT.of v4, rfl, _, _, rfl, _, _, rfl, rfl, ?_⟩
      refine ⟨_, rfl, _, rfl, _, _, rfl, rfl, .inl ⟨by decide, by decide⟩, rfl, _, rfl, ?_⟩
      have ew : S.wordsAt d = if b = 2 * d then ws else [] := by unfold Rd.wordsAt; rw [e]
      by_cases hb : b = 2 * d
      · rw [hb, decide_eq_true rfl]
        refine iteT ?_
        refine ⟨_, rfl, ?_⟩
        exact k a H (Same.refl H) v6 (by rw [ew, if_pos hb]; exact v5)
      · rw [decide_eq_false (fun z => hb (V.int.inj z))]
        refine iteF ?_
        refine ⟨(by show 0 ≤ sizeLine; decide), fun p np => ?_⟩
        exact noWords (by rw [ew, if_neg hb]) p np
end
end K7

set_option Elab.async false
set_option linter.all false
set_option maxRecDepth 100000
namespace Rdr
open PySem L2
def okw (x : Str) : Bool := decide (x.length ≤ 20000) && PyData.strOk x
structure Fine (S : Rd) : Prop where
  p : S.pos ≤ S.ls.length
  n : S.ls.length ≤ 20000
  ws : ∀ l ∈ S.ls, l.2.length ≤ 20000 ∧ ∀ x ∈ l.2, okw x = true
  k : S.kinds.length ≤ 4
  c : S.chains.length = S.kinds.length
  f : S.fields.length = S.kinds.length
  cf : ∀ c ∈ S.chains, c.2.length ≤ 3 ∧ ∀ x ∈ c.2, (S.fields.lookup x).isSome = true
  ff : ∀ x ∈ S.fields, x.2.length ≤ 3
  nf : S.near.length ≤ 3 ∧ ∀ x ∈ S.near, (S.fields.lookup x).isSome = true
  l : S.labels.length ≤ S.pos
  w : S.worths.length = S.cells.length ∧ S.cells.length ≤ 2 ∧ ∀ x ∈ S.worths, x = 2 ∨ x = 3
  q : S.parts ≤ 2
  ck : S.fields.map (·.1) = S.chains.map (·.1)
  kw : ∀ c ∈ S.chains, word c.1 = true
  kn : ∀ c ∈ S.kinds, word c.1 = true
theorem Fine.words {S : Rd} (h : Fine S) (d : Int) : (S.wordsAt d).length ≤ 20000 ∧ ∀ x ∈ S.wordsAt d, okw x = true := by
  unfold Rd.wordsAt
  cases e : S.ls[S.pos]? with
  | none => exact ⟨by simp, by simp⟩
  | some l =>
    have := h.ws l (List.mem_of_getElem? e)
    dsimp only
    split
    · exact this
    · exact ⟨by simp, by simp⟩
/-- words to go on by: a line is left -/
theorem Rd.more {S : Rd} {d : Int} (h : S.wordsAt d ≠ []) : S.pos < S.ls.length := by
  cases e : S.ls[S.pos]? with
  | none => exact absurd (by unfold Rd.wordsAt; rw [e]) h
  | some l => exact (List.getElem?_eq_some_iff.mp e).1
abbrev pstrs (ws : List Str) : PyData := .list (ws.map PyData.str)
theorem canAll : ∀ {ws : List Str}, (∀ x ∈ ws, okw x = true) → PyData.canLayAll0 (ws.map PyData.str) = true
  | [], _ => rfl
  | x :: r, h => by
    have h1 := h x List.mem_cons_self
    have h2 := canAll fun y hy => h y (List.mem_cons_of_mem _ hy)
    unfold okw at h1
    have h3 := (Bool.and_eq_true_iff.mp h1).2
    show (PyData.strOk x && PyData.canLayAll0 (r.map PyData.str)) = true
    rw [h3, h2]
    rfl
theorem depAll : ∀ {ws : List Str}, PyData.depthAll (ws.map PyData.str) = 0
  | [] => rfl
  | x :: r => by
    show max 0 (PyData.depthAll (r.map PyData.str)) = 0
    rw [depAll]
    rfl
theorem shaped_strs {ws : List Str} (h : ∀ x ∈ ws, okw x = true) : SeqAt.shaped (pstrs ws) = true := by
  unfold SeqAt.shaped
  have e1 : (pstrs ws).canLay0 = true := canAll h
  have e2 : (pstrs ws).depth = 1 := by
    show PyData.depthAll (ws.map PyData.str) + 1 = 1
    rw [depAll]
  rw [e1, e2]
  rfl
theorem eqvAll_strs : ∀ {a b : List Str}, PyData.eqvAll (a.map PyData.str) (b.map PyData.str) = decide (a = b)
  | [], [] => by simp [PyData.eqvAll]
  | [], _ :: _ => by simp [PyData.eqvAll]
  | _ :: _, [] => by simp [PyData.eqvAll]
  | x :: a, y :: b => by
    have ih := eqvAll_strs (a := a) (b := b)
    show (x == y && PyData.eqvAll (a.map PyData.str) (b.map PyData.str)) = decide (x :: a = y :: b)
    rw [ih]
    by_cases h : x = y
    · subst h; simp
    · simp [h]
theorem eqv_strs {a b : List Str} : PyData.eqv (pstrs a) (pstrs b) = decide (a = b) := eqvAll_strs
theorem dpAll {K : PySem.W.Frag} {H : Hp} : ∀ {ws : List Str}, DpAll K H (wlist ws) (ws.map PyData.str)
  | [] => .nil
  | x :: _ => .cons (.str x) dpAll
theorem dp_strs {K : PySem.W.Frag} {H : Hp} {a : Addr} {ws : List Str} (h : H a = some (.lst (wlist ws))) : Dp K H (.ref a) (pstrs ws) := .lst (SqL.of h) dpAll
theorem cut_to {xs : List V} (k : Nat) : cutV xs none (some (k : Int)) = xs.take k := by
  unfold cutV
  rw [HT.sIx_none, HT.sIx_nat, List.drop_zero, Nat.sub_zero]
  by_cases h : k ≤ xs.length
  · rw [Nat.min_eq_left h]
  · rw [Nat.min_eq_right (by omega), List.take_of_length_le (Nat.le_refl _), List.take_of_length_le (by omega)]
theorem cut_from {xs : List V} (k : Nat) : cutV xs (some (k : Int)) none = xs.drop k := by
  unfold cutV
  rw [HT.sIx_none, HT.sIx_nat]
  by_cases h : k ≤ xs.length
  · rw [Nat.min_eq_left h, List.take_of_length_le (by simp)]
  · rw [Nat.min_eq_right (by omega), List.drop_of_length_le (Nat.le_refl _), List.drop_of_length_le (by omega)]
    simp
end Rdr
namespace K7
open PySem L2 Rdr
def spBegins (C : Addr) : Sp := fun vs H Q _ => ∃ (r : Addr) (A : Adr) (S : Rd) (d : Int) (x : Str), vs = [.ref r, .int d, .str x] ∧ RdAt C H r A S ∧ Fine S ∧ 0 ≤ d ∧ d < 100 ∧ okw x = true ∧
  ∀ H', Same H H' → Q (.bl (decide ((S.wordsAt d).take 1 = [x]))) H'
/-- the names of methods are no attributes -/
theorem noMeth {A : Adr} {n : Nat} {m : Str} (h : (rdF .non .non .non .non .non .non .non .non .non .non).lookup m = none) : (A.flds n).lookup m = none := by
  unfold Adr.flds rdF at *
  simp only [List.lookup] at *
  repeat' split at h <;> simp_all
section
variable {P : Program} {w : World} {K : PySem.W.Frag} {mg : Str → Option Value} {base : Heap} {C cB fB : Addr} {fdB : FuncData}
theorem sc_begins : FnScope ["self", "depth", "word"] ["self", "depth", "word"] (defScope sBegins) := ⟨rfl, rfl, rfl, by decide +kernel, rfl, by decide +kernel, by decide +kernel⟩
theorem ok_begins {f : Addr} {fd : FuncData} (F : Fun K "begins" "Lines.begins" sBegins f fd) (T : RT K mg C cB fB fdB) (G : MOk P w K mg base 1 C "words_at" (spWordsAt C)) : FnOk P w K mg base (L2.CX P w) 2 f fd ["self", "depth", "word"] (spBegins C) := by
  refine F.okX sc_begins (fun vs H Q E h => ?_) (fun cdv A outer s H vs Q E hr h => ?_)
  · obtain ⟨r, A, S, d, x, rfl, _⟩ := h
    rfl
  · obtain ⟨r, A, S, d, x, rfl, R, S1, d0, d1, hx, k⟩ := h
    obtain ⟨dx, ob⟩ := R.ob
    refine ⟨_, pss_one (ps_ret (pe_cmpR (op_eqD hr.units) (pe_slice sl_list (m_meth (pv 0) T.cl G hr passL (pa_cons (pv 1) pa_nil)) po_none (po_some pe_int)) (pe_lst (pa_cons (pv 2) pa_nil)) (nomark _))), ?_⟩
    refine ⟨_, rfl, r, dx, _, rfl, ob, noMeth (by decide +kernel), _, rfl, r, A, S, d, rfl, R, S1.p, d0, d1, fun a H1 s1 na ha => ?_⟩
    refine ⟨_, rfl, a, _, rfl, SqL.of ha, fun p np => ?_⟩
    have hap : a ≠ p := ne_of_none ha np
    refine ⟨_, rfl, (by show 1 ≤ sizeLine; decide), fun q nq => ?_⟩
    have e1 : cutV (wlist (S.wordsAt d)) none (some 1) = wlist ((S.wordsAt d).take 1) := by rw [show ((1 : Int)) = ((1 : Nat) : Int) from rfl, cut_to]; exact (List.map_take ..).symm
    rw [e1] at nq ⊢
    have hpq : p ≠ q := ne_of_none (upd_same (H := H1) (a := p)) nq
    have w1 := (S1.words d).2
    refine ⟨pstrs ((S.wordsAt d).take 1), pstrs [x], dp_strs (by rw [upd_ne hpq]; exact upd_same), dp_strs upd_same, shaped_strs (fun y hy => w1 y (List.mem_of_mem_take hy)), shaped_strs (fun y hy => by simp at hy; rw [hy]; exact hx), ?_⟩
    rw [eqv_strs]
    exact k _ ((s1.trans (Same.new np)).trans (Same.new nq))
end
end K7

set_option Elab.async false
set_option linter.all false
set_option maxRecDepth 100000
namespace K7
open PySem L2 Rdr
section
variable {P : Program} {w : World} {K : PySem.W.Frag} {mg : Str → Option Value} {base : Heap} {C cB fB : Addr} {fdB : FuncData}
theorem sc_need : FnScope ["self", "holds"] ["self", "holds"] (defScope sNeed) := ⟨rfl, rfl, rfl, by decide +kernel, rfl, by decide +kernel, by decide +kernel⟩
theorem ok_need {f : Addr} {fd : FuncData} (F : Fun K "need" "Lines.need" sNeed f fd) (T : RT K mg C cB fB fdB) : FnOk P w K mg base (L2.CX P w) 3 f fd ["self", "holds"] (spNeed C cB) := by
  have GB : FnOk P w K mg base (L2.CX P w) 1 fB fdB ["self", "line"] (spBadInit K) := ok_badInit T.FB
  refine F.okX sc_need (fun vs H Q E h => ?_) (fun cdv A outer s H vs Q E hr h => ?_)
  · obtain ⟨r, A, S, b, rfl, _⟩ := h
    rfl
  · obtain ⟨r, A, S, b, rfl, R, k1, k2⟩ := h
    obtain ⟨dx, ob⟩ := R.ob
    refine ⟨_, pss_one (ps_if (pt_not (pt_val (pv 1)))
      (pss_one (ps_raise rfl (takes_of rfl rfl rfl rfl) (pmk_oex T.oB T.iB T.tB GB hr T.bB .nil passL rfl T.mgB (pa_cons (pe_op op_add (pe_fld (pv 0) rfl) pe_int) pa_nil)))) pss_nil), ?_⟩
    refine ⟨_, rfl, _, rfl, ?_⟩
    cases b with
    | true =>
      refine iteF ?_
      exact k1 rfl
    | false =>
      refine iteT ?_
      refine ⟨_, rfl, r, C, dx, _, _, rfl, ob, T.cl, T.at_, rfl, _, _, rfl, rfl, (by show 1 ≤ 1000; decide), fun a na => ?_⟩
      refine ⟨a, cB, _, rfl, T.oB, T.nB, upd_same, fun d nd hd => ⟨rfl, d, _, upd_same, by rw [upd_ne hd]; exact upd_same, ?_, ?_⟩⟩
      · rwa [upd_ne hd] at nd
      · have nd' : H d = none := by rwa [upd_ne hd] at nd
        refine k2 rfl d _ nd' ⟨fun b o hb _ => ?_, fun b hb => ?_⟩ upd_same
        · have ba : b ≠ a := ne_of_none hb na
          have bd : b ≠ d := ne_of_none hb nd'
          rw [upd_ne bd, del_ne ba, upd_ne ba, upd_ne bd, upd_ne ba]
          exact hb
        · by_cases ba : b = a
          · rw [ba]; exact na
          · by_cases bd : b = d
            · rw [bd]; exact nd'
            · rwa [upd_ne bd, del_ne ba, upd_ne ba, upd_ne bd, upd_ne ba] at hb
end
end K7

set_option Elab.async false
set_option linter.all false
set_option maxRecDepth 100000
namespace Rdr
open PySem L2
/-- what the sizes must be -/
def fits (t : Str) : Bool := decide (t.length ≤ 20000) && decide ((Txt.split t "\n").length ≤ 20000) &&
  (Txt.split t "\n").all fun l => decide (l.length ≤ 20000) && decide ((Txt.lstripChars l " ").length ≤ 20000) && decide ((parted l).2.length ≤ 20000) && (parted l).2.all okw
structure Fits (t : Str) : Prop where
  z : t.length ≤ 20000
  n : (Txt.split t "\n").length ≤ 20000
  l : ∀ l ∈ Txt.split t "\n", l.length ≤ 20000 ∧ (Txt.lstripChars l " ").length ≤ 20000 ∧ (parted l).2.length ≤ 20000 ∧ ∀ x ∈ (parted l).2, okw x = true
theorem fits_of {t : Str} (h : fits t = true) : Fits t := by
  unfold fits at h
  simp only [Bool.and_eq_true, decide_eq_true_eq, List.all_eq_true] at h
  obtain ⟨⟨h1, h2⟩, h3⟩ := h
  exact ⟨h1, h2, fun l hl => ⟨(h3 l hl).1.1.1, (h3 l hl).1.1.2, (h3 l hl).1.2, (h3 l hl).2⟩⟩
theorem start_fine {t : Str} (h : Fits t) : Fine (start t) := by
  refine ⟨Nat.zero_le _, ?_, ?_, by simp [start], by simp [start], by simp [start], by simp [start], by simp [start], by simp [start], by simp [start], by simp [start], by simp [start], by simp [start], by simp [start], by simp [start]⟩
  · show ((Txt.split t "\n").map parted).length ≤ 20000
    rw [List.length_map]
    exact h.n
  · intro l hl
    obtain ⟨x, hx, rfl⟩ := List.mem_map.mp (show l ∈ (Txt.split t "\n").map parted from hl)
    exact (h.l x hx).2.2
end Rdr
namespace K7
open PySem L2 Rdr
/-- self.lines, self.at of a new instance -/
def spLnInit (C : Addr) : Sp := fun vs H Q _ => ∃ (r dx p : Addr) (t : Str), vs = [.ref r, .ref p] ∧ H r = some (.ins C dx []) ∧ H p = some (.lst ((Txt.split t "\n").map V.str)) ∧ Fits t ∧
  ∀ (ln : Addr) (vs : List V) (H' : Hp), But [r] H H' → H ln = none → H' r = some (.ins C dx [("lines", .ref ln), ("at", .int 0)]) → Fix H' [r] ln (.lst vs) → Paired (LineAt H' [r]) vs (start t).ls → Q .non H'
section
variable {P : Program} {w : World} {K : PySem.W.Frag} {mg : Str → Option Value} {base : Heap} {C cB fB : Addr} {fdB : FuncData}
theorem sc_lnInit : FnScope ["self", "lines", "line"] ["self", "lines"] (defScope sLnInit) := ⟨rfl, rfl, rfl, by decide +kernel, rfl, by decide +kernel, by decide +kernel⟩
theorem ok_lnInit {f : Addr} {fd : FuncData} (F : Fun K "__init__" "Lines.__init__" sLnInit f fd) (T : RT K mg C cB fB fdB) (G : DOk P w K mg base 1 "_parted" spParted) : FnOk P w K mg base (L2.CX P w) 2 f fd ["self", "lines"] (spLnInit C) := by
  refine F.okX sc_lnInit (fun vs H Q E h => ?_) (fun cdv A outer s H vs Q E hr h => ?_)
  · obtain ⟨r, dx, p, t, rfl, _⟩ := h
    rfl
  · obtain ⟨r, dx, p, t, rfl, hR, hp, ft, k⟩ := h
    refine ⟨_, pss_cons (ps_fld (pv 0) (pe_lc (own := [("line", 2)]) (g := gName 2) (tt := tYes) rfl sc_lnInit.nd (pi_list (pv 1)) (blkOk_by (N := ["self", "lines", "line"]) (sc := defScope sLnInit) (by decide +kernel))
        (fun _ _ _ _ _ => pg_name (i := 2) sc_lnInit.nd rfl (Or.inl rfl)) (fun _ _ _ _ _ => pts_nil) (fun _ _ _ _ _ => f_call G hr passL (pa_cons (pv 2) pa_nil))) rfl)
      (pss_one (ps_fld (pv 0) pe_int rfl)), ?_⟩
    have ht := ft.z
    generalize hH1 : H = H1
    have s01 : Same H H1 := by rw [← hH1]; exact Same.refl _
    have hp1 : H1 p = some (.lst ((Txt.split t "\n").map V.str)) := by rw [← hH1]; exact hp
    have hr1 : H1 r = some (.ins C dx []) := s01 _ _ hR
    refine ⟨_, rfl, p, rfl, ⟨_, SqL.of hp1⟩, fun D nD => lc_list (K := K) (a := p) (xs := (Txt.split t "\n").map V.str)
      (fun i H' => Same H1 H' ∧ ∃ acc, H' D = some (.lst acc) ∧ Paired (LineAt H' [r, D]) acc (((Txt.split t "\n").take i).map parted)) ⟨Same.new nD, [], upd_same, .nil⟩ (fun i H' _ ⟨s1, _⟩ => SqL.of (s1 _ _ hp1)) ?_ ?_⟩
    · rintro i y H2 hi ⟨s1, acc, hD, pr⟩
      obtain ⟨x, hx, rfl⟩ : ∃ x, (Txt.split t "\n")[i]? = some x ∧ y = V.str x := by
        rw [List.getElem?_map] at hi
        cases e : (Txt.split t "\n")[i]? with
        | none => rw [e] at hi; cases hi
        | some x => rw [e] at hi; exact ⟨x, rfl, (Option.some.inj hi).symm⟩
      obtain ⟨f1, f2, f3, f4⟩ := ft.l x (List.mem_of_getElem? hx)
      refine ⟨rfl, _, rfl, x, rfl, f1, f2, fun t2 a H3 s2 nt na ht2 ha => ?_⟩
      have c : Carry H2 H3 [r, D] [r, D] := .same s2
      refine ⟨acc, s2 _ _ hD, ?_, fun b o hb => ?_, acc ++ [.ref t2], upd_same, ?_⟩
      · have := le_line (n := 20002) (by omega)
        have l1 := pr.length
        have l2 := ft.n
        rw [List.length_map, List.length_take] at l1
        omega
      · rw [upd_ne (ne_of_none hb nD)]
        exact s2 _ _ (s1 _ _ hb)
      · have e : ((Txt.split t "\n").take (i + 1)).map parted = ((Txt.split t "\n").take i).map parted ++ [parted x] := by
          rw [List.take_add_one, hx]
          simp
        rw [e]
        have cu : Carry H3 (upd H3 D (.lst (acc ++ [V.ref t2]))) [r, D] [r, D] := .upd (by simp)
        have nr2 : H2 r ≠ none := by rw [s1 _ _ hr1]; simp
        have nD2 : H2 D ≠ none := by rw [hD]; simp
        have fr : ∀ b, H2 b = none → b ∉ [r, D] := fun b hb hm => by
          simp only [List.mem_cons, List.not_mem_nil, or_false] at hm
          rcases hm with rfl | rfl
          · exact nr2 hb
          · exact nD2 hb
        exact Pr.snoc (cu.ln ⟨t2, a, rfl, ⟨ht2, fr _ nt⟩, ⟨ha, fr _ na⟩⟩) (Pr.mono (fun _ _ z => cu.ln (c.ln z)) pr)
    · rintro H2 ⟨s1, acc, hD, pr⟩
      have el : (Txt.split t "\n").take ((Txt.split t "\n").map V.str).length = Txt.split t "\n" := List.take_of_length_le (by simp)
      rw [el] at pr
      have hr2 : H2 r = some (.ins C dx []) := s1 _ _ hr1
      have rD : D ≠ r := fun z => by rw [z, s1 r _ hr1] at hD; cases hD
      refine ⟨_, rfl, r, C, dx, [], rfl, hr2, T.cl, T.lines, (by show 0 < 1000; decide), _, rfl, r, C, dx, _, rfl, upd_same, T.cl, T.at_, (by show 1 < 1000; decide), ?_⟩
      have nD0 : H D = none := s01.free nD
      have cb : ∀ b o, H2 b = some o → b ∉ [r] → upd (upd H2 r (.ins C dx (putF "lines" (V.ref D) []))) r (.ins C dx (putF "at" (.int 0) (putF "lines" (V.ref D) []))) b = some o := fun b o hb hn => by
        have br : b ≠ r := by simpa using hn
        rw [upd_ne br, upd_ne br]
        exact hb
      have cr : Carry H2 (upd (upd H2 r (.ins C dx (putF "lines" (V.ref D) []))) r (.ins C dx (putF "at" (.int 0) (putF "lines" (V.ref D) [])))) [r, D] [r] := ⟨fun a o h => by
        have hn : a ∉ [r] := fun z => h.2 (by simp at z; simp [z])
        exact ⟨cb a o h.1 hn, hn⟩⟩
      refine k D acc _ ⟨fun b o hb hn => cb b o (s1 _ _ (s01 _ _ hb)) hn, fun b hb => ?_⟩ nD0 ?_ ⟨cb D _ hD (by simpa using rD), by simpa using rD⟩ (Pr.mono (fun _ _ z => cr.ln z) pr)
      · by_cases br : b = r
        · rw [br, upd_same] at hb; cases hb
        · rw [upd_ne br, upd_ne br] at hb
          exact s01.free (s1.free hb)
      · rw [upd_same]
        rfl
end
end K7

set_option Elab.async false
set_option linter.all false
set_option maxRecDepth 100000
/-! A list comprehension whose element may raise. -/
namespace LcX
open PySem L2 PySem.Spec PyProof.Rows
section
variable {M : Model} {A : Around} {E : Value → Shared → Prop} {s : Shared} {env : Env}
/-- what stands behind the block: an error is handed on, in the frame of the def -/
def Behind (M : Model) (A : Around) (E : Value → Shared → Prop) (use : Option (Value → Sem Unit)) (Q : Value → Shared → Prop) (fr : Option Addr) (acc : Value) (C : Addr) : Result → Shared → Prop
  | .ok r, s1 => compPost M A E use Q acc C (.ok r) s1
  | .error x, s1 => ∃ m, s1.heap.Ns C m ∧ ∀ h1, Heap.SameBut C s1.heap h1 → ∀ ce : Env, ce.frame = fr → wpAny M A (passOn "comprehension.variables-let-go" x ce : Sem Value) (fun _ _ => False) E { s1 with heap := h1 }
theorem behind_free {e : Expr} {scope : Scope} {pos : Pos} {newAcc first : Sem Value} {g : Comprehension} {gs : List Comprehension} {cl : List (Str × Addr)} {use : Option (Value → Sem Unit)} {Q : Value → Shared → Prop}
    (k1 : clausesOf e = g :: gs) (k2 : ∀ x, foldedSetIterable g.iter env x = pure x) (k3 : closureFor scope env = pure cl) (k4 : scope.kind = .function) (k5 : ∀ x ∈ scope.names, x.2 = .local → scope.names.lookup x.1 = some .local)
    (h : wpAny M A first (fun x s1 => wpAny M A (pyIter x) (fun it s2 => wpAny M A newAcc (fun acc s3 => wpAny M A (newFunctionEnv scope env.globals cl [] env.qual none .none (some env)) (fun ce s4 => ce.frame = env.frame ∧
      codeAny M A (.compStart e 0 it acc { ce with scope := relabel scope env }) (Behind M A E use Q env.frame acc ce.locals) s4) E s3) E s2) E s1) E s) : wpAny M A (comprehension e scope env pos newAcc false first use) Q E s := by
  unfold comprehension
  rw [k3, k1]
  refine wpAny_bind (wpAny_mono h (fun x s1 a1 => ?_) fun _ _ z => z)
  refine wpAny_bind (wpAny_standAt (wpAny_bind (wpAny_of_eq (k2 x) (wpAny_bind (wpAny_holding (wpAny_mono a1 (fun it s2 a2 => ?_) fun _ _ z => z))))))
  refine wpAny_standIf (wpAny_bind (wpAny_mono a2 (fun acc s3 a3 => ?_) fun _ _ z => z))
  refine wpAny_bind (wpAny_pure (wpAny_bind (wpAny_mono a3 (fun ce s4 a4 => ?_) fun _ _ z => z)))
  dsimp only
  obtain ⟨fr, a4⟩ := a4
  have v1 : ∀ x ∈ (scope.names.filter fun x => (x.2 == .local || x.2 == .cell) && x.1 != (".0" : Str)).reverse, x.2 = .local → Env.kindOf { ce with scope := relabel scope env } x.1 = some .local :=
    fun x hx hl => lookup_relabel_local (k5 x (List.mem_filter.mp (List.mem_reverse.mp hx)).1 hl)
  have v2 : ∀ x ∈ (scope.names.filter fun x => (x.2 == .local || x.2 == .cell) && x.1 != (".0" : Str)).reverse.drop 1 ++ (scope.names.filter fun x => (x.2 == .local || x.2 == .cell) && x.1 != (".0" : Str)).reverse.take 1, x.2 = .local →
      Env.kindOf { ce with scope := relabel scope env } x.1 = some .local := fun x hx hl => (List.mem_append.mp hx).elim (fun z => v1 x (List.mem_of_mem_drop z) hl) fun z => v1 x (List.mem_of_mem_take z) hl
  refine wpAny_holding (wpAny_bind (wpAny_attempt (wpAny_holding (wpAny_run (codeAny_mono a4 fun r s5 hr => ?_)))))
  cases r with
  | error x =>
    obtain ⟨m, hn, hr⟩ := (show ∃ m, s5.heap.Ns ce.locals m ∧ ∀ h1, Heap.SameBut ce.locals s5.heap h1 → ∀ ce' : Env, ce'.frame = env.frame → wpAny M A (passOn "comprehension.variables-let-go" x ce' : Sem Value) (fun _ _ => False) E { s5 with heap := h1 } from hr)
    exact wpAny_bind (wpAny_holding (wpAny_comp_letGo (cenv := { ce with scope := relabel scope env }) k4 _ s5 m v1 hn fun h1 m1 _ sb => wpAny_mono (hr h1 sb _ fr) (fun _ _ z => z.elim) fun _ _ z => z))
  | ok f =>
    cases use with
    | none =>
      obtain ⟨m, hn, hr⟩ := hr
      exact wpAny_bind (wpAny_holding (wpAny_comp_letGo (cenv := { ce with scope := relabel scope env }) k4 _ s5 m v1 hn fun h1 m1 _ sb => wpAny_pure (hr h1 sb)))
    | some u =>
      refine wpAny_bind (wpAny_rule (wpAny_bind (wpAny_holding (wpAny_mono hr (fun _ s6 hr1 => ?_) fun _ _ z => z))))
      obtain ⟨m, hn, hr2⟩ := hr1
      exact wpAny_bind (wpAny_comp_letGo (cenv := { ce with scope := relabel scope env }) k4 _ s6 m v2 hn fun h1 m1 _ sb => wpAny_pure (hr2 h1 sb))
theorem note_frame {x : Value} {e1 e2 : Env} (h : e1.frame = e2.frame) : noteFrame x e1 = noteFrame x e2 := by
  unfold noteFrame PySem.frameOf
  rw [h]
end
end LcX

set_option Elab.async false
set_option linter.all false
set_option maxRecDepth 100000
set_option maxHeartbeats 2000000
namespace LcX
open PySem L2 PySem.Spec PyProof.Rows HandSPX
section
variable {M : Model} {A : Around} {E : Value → Shared → Prop} {s : Shared} {Z : Obj → Prop} {base : Heap} {env : Env} {outer l : List Env} {L e : Addr}
/-- noted by a frame that did not note it yet, wherever it was seen last -/
theorem note_any {fl : Value} {Q : Unit → Shared → Prop} (hZ : Steady Z) (hfr : A.frames = some (env :: outer)) (hf : env.frame = some L) (kb : base.StaysIn s.heap) (en : base.get? e = none) (hl : s.heap.FunFrames base (env :: outer))
    (tr : TracedZ s.heap base e Z fl) (ne : (fl == rawInt L) = false) (hQ : ∀ h1, HeldZ base (env :: outer) e Z L h1 → s.heap.UpToSlots h1 → Q () { s with heap := h1 }) : wpAny M A (noteFrame (.ref e) env) Q E s := by
  obtain ⟨oe, vs, T, oT, ts, he, hz, hd, h1, nT, Te, hT, dT, h3⟩ := tr
  unfold noteFrame
  simp only [hf]
  refine wpAny_bind (wpAny_field he hd h1 ?_)
  rw [if_pos (show (Value.ref T != Value.none) = true from by simp)]
  refine wpAny_bind (wpAny_field hT dT h3 ?_)
  rw [if_neg (by rw [ne]; simp)]
  refine wpAny_bind (wpAny_setField hT dT (Array.getElem?_eq_some_iff.mp h3).1 ?_)
  have off : ∀ b, b ≠ T → (s.heap.update T (Obj.mapFields (·.setIfInBounds 3 Value.none))).get? b = s.heap.get? b := fun b hb => Heap.get?_update_other _ _ (Ne.symm hb)
  have no : ∀ b o, s.heap.get? b = some o → (∀ vs, o.data ≠ .fields vs) → b ≠ T := fun b o hb hn q => by
    rw [q, hT] at hb
    cases hb
    exact hn ts dT
  refine wpAny_entryZ hZ hfr (hl.of_keeps fun b o hb hn => ⟨o, (off b (no b o hb hn)).trans hb, rfl⟩) hf ((off e (Ne.symm Te)).trans he) (fun b o hb => (off b fun q => by rw [q, nT] at hb; cases hb).trans (kb b o hb)) en hd
    (Array.getElem?_eq_some_iff.mp h1).1 hz fun h2 hN => ?_
  obtain ⟨x1, x2, x3, x4⟩ := hN
  exact hQ h2 ⟨x1, en, x2, x3⟩ fun b o hb hn => x4 b o ((off b (no b o hb hn)).trans hb) hn
end
/-- frames over less ground, in a heap that has them -/
theorem frames_to {h h2 B B2 : Heap} : ∀ {l : List Env}, h.FunFrames B l → (∀ b ∈ frs l, h2.get? b = h.get? b) → (∀ b, B.get? b = none → B2.get? b = none) → h2.FunFrames B2 l
  | [], _, _, _ => trivial
  | ev :: l, x, k, g => by
    obtain ⟨hk, ⟨L, o, hf, hn, ho, hd⟩, hr⟩ := x
    refine ⟨hk, ⟨L, o, hf, g _ hn, ?_, hd⟩, frames_to hr (fun b hb => k b ?_) g⟩
    · rw [k L (List.mem_filterMap.mpr ⟨ev, List.mem_cons_self, hf⟩)]
      exact ho
    · obtain ⟨e', he, q⟩ := List.mem_filterMap.mp hb
      exact List.mem_filterMap.mpr ⟨e', List.mem_cons_of_mem _ he, q⟩
/-- held, and the place C given up -/
theorem held_but {B h1 h2 : Heap} {l : List Env} {a L C : Addr} {Z : Obj → Prop} {oC : Obj} (hC : B.get? C = some oC) (nC : C ∉ frs l) (x : HeldZ B l a Z L h1) (sb : ∀ b, b ≠ C → h2.get? b = h1.get? b) : HeldZ (PySem.W.hideAll B [C]) l a Z L h2 := by
  obtain ⟨x1, x2, x3, oe, vs, T, oT, ts, he, hz, hd, g1, nT, Te, hT, dT, g3⟩ := x
  have less : ∀ b, B.get? b = none → (PySem.W.hideAll B [C]).get? b = none := fun b hb => by
    cases q : (PySem.W.hideAll B [C]).get? b with
    | none => rfl
    | some o =>
      have z := PySem.W.of_hideAll [C] q
      rw [hb] at z
      cases z
  have ne : ∀ b, B.get? b = none → b ≠ C := fun b hb q => by rw [q, hC] at hb; cases hb
  refine ⟨fun b o hb => ?_, less _ x2, frames_to x3 (fun b hb => sb b fun q => nC (q ▸ hb)) less, oe, vs, T, oT, ts, ?_, hz, hd, g1, less _ nT, Te, ?_, dT, g3⟩
  · have bC : b ≠ C := fun q => by
      rw [PySem.W.hideAll_none [C] (by rw [q]; exact List.mem_cons_self)] at hb
      cases hb
    rw [sb b bC]
    exact x1 b o (PySem.W.of_hideAll [C] hb)
  · rw [sb a (ne _ x2)]; exact he
  · rw [sb T (ne _ nT)]; exact hT
section
variable {X : Cx} {W : WX} {pins : List (Addr × Obj)} {σ : L2.St} {H3 : Hp} {s3 : Shared} {ce : Env} {scope : Scope} {fp : List Addr} {use : Option (Value → Sem Unit)} {Qf : Value → Shared → Prop} {D : Addr}
/-- what the block wants of an error -/
abbrev inner (X : Cx) (ce : Env) (use : Option (Value → Sem Unit)) (Qf : Value → Shared → Prop) (D C : Addr) : Value → Shared → Prop :=
  notedBy (model X.prog X.w) X.A ce fun e s' => Behind (model X.prog X.w) X.A X.xe use Qf X.env.frame (.ref D) C (.error e) s'
/-- an error of a call within the block reaches what the def wants of errors -/
theorem pass_in (hs : X.stack = X.env :: X.outer) (hf : X.env.frame = some X.env.locals) (tk : Takes X fun c d _ H => W c d [] H) (I3 : Inv X pins σ H3 s3) (cf : ce.frame = X.env.frame) (cl : ce.locals = s3.heap.objs.size)
    (f3 : ∀ b ∈ fp, FpOk X pins H3 b ∧ b < s3.heap.objs.size) {E0 : XK} (hE : ∀ c d H, E0 c d H → W c d [] H) :
    Passes (L2.CX X.prog X.w) ((X.blk s3 H3 scope ce fp).wish (inner X ce use Qf D s3.heap.objs.size)) E0 := by
  intro p2 σ2 H s e s' I c
  obtain ⟨a, B, sI, p3, σ3, H', cls, d, rfl, J, nb, up, sky, na, os, ag, w⟩ := XE.of_call (W := fun cls d _ H => E0 cls d H) I (fun _ _ _ z => z) c
  have hfr : X.A.frames = some (X.env :: X.outer) := by rw [I3.ok.frames, hs]
  have nC : s3.heap.objs.size ∉ frs X.stack := fun hm => by
    obtain ⟨_, o, e, _⟩ := I3.stack.mem hm
    exact absurd (Heap.lt_size e) (Nat.lt_irrefl _)
  have neL : X.env.locals ≠ s3.heap.objs.size := fun z => by
    refine nC ?_
    rw [← z, hs]
    exact List.mem_filterMap.mpr ⟨X.env, List.mem_cons_self, hf⟩
  show wpAny _ _ (noteFrame (.ref a) ce) _ _ s'
  rw [note_frame cf]
  -- noted in the def's frame
  have fin : ∀ h1, HeldZ B (X.env :: X.outer) a (Zc cls d) X.env.locals h1 → s'.heap.UpToSlots h1 → Behind (model X.prog X.w) X.A X.xe use Qf X.env.frame (.ref D) s3.heap.objs.size (.error (.ref a)) { s' with heap := h1 } := fun h1 held up1 => by
    have J1 := Inv.landed (s' := { s' with heap := h1 }) J nb held.1 (up.trans up1) os ag
    obtain ⟨m, hn, _⟩ := J1.loc
    have hn : h1.Ns ce.locals m := hn
    rw [cl] at hn
    refine ⟨m, hn, fun h2 sb ce2 hfr2 => ?_⟩
    obtain ⟨mI, hnI, _⟩ := J.loc
    have hnI : sI.heap.Ns ce.locals mI := hnI
    rw [cl] at hnI
    obtain ⟨oC, eC⟩ : ∃ o, sI.heap.get? s3.heap.objs.size = some o := by
      obtain ⟨o, _, _, q, _⟩ := hnI
      exact ⟨o, q⟩
    have hB := nb _ _ eC nC
    have held2 := held_but hB (by rw [← hs]; exact nC) held fun b hb => sb.2 b hb
    have IX : L2.Inv X pins σ H' sI := I3.call' (ch := fp) J.os J.base J.hok J.bare fun b hb => ⟨(f3 b hb).1.2.2.2.1, (f3 b hb).1.2.1, (f3 b hb).1.2.2.2.2.1, (f3 b hb).1.2.2.2.2.2⟩
    have fC : H' s3.heap.objs.size = none := by
      have z : H' ce.locals = none := J.free
      rwa [cl] at z
    obtain ⟨q0, q1, _, q3, q4, q5⟩ := I3.fpOk (Nat.le_refl _) fC
    have IX2 : L2.Inv X pins σ H' { sI with heap := PySem.W.hideAll sI.heap [s3.heap.objs.size] } := IX.turned (t' := sI.toks) (it := s3.heap.objs.size) (fun b o hb e => PySem.W.hideAll_get _ e (by simpa using hb)) q0 (Ne.symm neL) q3 q4 q5
    obtain ⟨x1, x2, x3, oe, vs, T, oT, ts, he, hz, hd, g1, nT, Te, hT, dT, g3⟩ := id held2
    unfold PySem.passOn
    refine wpAny_bind (wpAny_field he hd g1 ?_)
    rw [if_neg (show ¬ ((Value.ref T == Value.none) = true) from by simp)]
    rw [hfr2, hf]
    refine wpAny_bind (setFlight_onZ held2 fun h4 held4 up4 => ?_)
    refine wpAny_throw (tk _ _ ⟨a, PySem.W.hideAll B [s3.heap.objs.size], { sI with heap := PySem.W.hideAll sI.heap [s3.heap.objs.size] }, pins, σ, H', cls, d, rfl, IX2, fun b o hb hn => ?_, fun b o hb hd => ?_, .inr (.inr (by rw [hs]; exact held4)), na, os, ag, hE _ _ _ w⟩)
    · have bC : b ≠ s3.heap.objs.size := fun q => by
        have hb : (PySem.W.hideAll sI.heap [s3.heap.objs.size]).get? b = some o := hb
        rw [PySem.W.hideAll_none _ (by rw [q]; exact List.mem_cons_self)] at hb
        cases hb
      exact PySem.W.hideAll_get _ (nb b o (PySem.W.of_hideAll _ hb) hn) (by simpa using bC)
    · have hb : (PySem.W.hideAll sI.heap [s3.heap.objs.size]).get? b = some o := hb
      have bC : b ≠ s3.heap.objs.size := fun q => by
        rw [PySem.W.hideAll_none _ (by rw [q]; exact List.mem_cons_self)] at hb
        cases hb
      obtain ⟨sl, e1⟩ := (up.trans up1) b o (PySem.W.of_hideAll _ hb) hd
      have e2 : h2.get? b = some { o with slots := sl } := (sb.2 b bC).trans e1
      obtain ⟨sl2, e3⟩ := up4 b _ e2 hd
      exact ⟨sl2, e3⟩
  rcases sky with ⟨k1, k2, k3, oe, vs, he, hz, hd, g1⟩ | fl | hh
  · exact look_newZ Zc.steady hfr (by rw [← hs]; exact k3) hf he k1 k2 hd g1 hz fin
  · obtain ⟨k1, k2, k3, k4⟩ := fl
    exact note_any Zc.steady hfr hf k1 k2 (by rw [← hs]; exact k3) k4 rfl fin
  · obtain ⟨k1, k2, k3, k4⟩ := hh
    refine note_any Zc.steady hfr hf k1 k2 (by rw [← hs]; exact k3) k4 ?_ fin
    show (rawInt (ce.locals : Int) == rawInt (X.env.locals : Int)) = false
    rw [cl]
    have z : ¬ ((s3.heap.objs.size : Int) = (X.env.locals : Int)) := fun q => neL (Int.ofNat.inj q).symm
    simp [rawInt, z]
end
end LcX

set_option Elab.async false
set_option linter.all false
set_option maxRecDepth 100000
set_option maxHeartbeats 2000000
namespace LcX
open PySem L2 PySem.Spec PyProof.Rows
section
variable {X : Cx} {W : WX}
theorem lc_raise {pins : List (Addr × Obj)} {s : Shared} {σ : L2.St} {H : Hp} {Q : VK} {elt tg iter : Expr} {ifs : List Expr} {scope : Scope} {own : List (Str × Nat)} {pos pos' : Pos} {wi : TI} {g : TG} {tt : TT} {te : TE} {use : Option (Value → Sem Unit)} {Qf : Value → Shared → Prop}
    (hc : X.calm = true) (hN : X.N.Nodup) (hst : X.stack = X.env :: X.outer) (hf : X.env.frame = some X.env.locals) (tk : Takes X fun c d _ H => W c d [] H) (I : L2.Inv X pins σ H s) (hi : PI X tg iter wi) (ok : BlkOk X.N X.env.scope scope own)
    (hg : ∀ (s : Shared) (H : Hp) (C : Addr) (cl : List (Str × Addr)) (fp : List Addr), PG (X.blk s H scope (compEnvC scope cl C X.env) fp) tg g)
    (ht : ∀ (s : Shared) (H : Hp) (C : Addr) (cl : List (Str × Addr)) (fp : List Addr), PTs (X.blk s H scope (compEnvC scope cl C X.env) fp) ifs tt)
    (he : ∀ (s : Shared) (H : Hp) (C : Addr) (cl : List (Str × Addr)) (fp : List Addr) (xe : Value → Shared → Prop), (∀ E0 : XK, (∀ c d H, E0 c d H → W c d [] H) → Passes (L2.CX X.prog X.w) ((X.blk s H scope (compEnvC scope cl C X.env) fp).wish xe) E0) →
      PE ((X.blk s H scope (compEnvC scope cl C X.env) fp).wish xe) elt te)
    (hs : ∀ x, foldedSetIterable iter X.env x = pure x) (h : tLc wi g tt te (own.map (·.2)) σ H Q)
    (hRR : ∀ D C s' m H', L2.Inv X pins σ H' s' → Q (.ref D) H' → s'.heap.Ns C m → FpOk X pins H' C → compPost (model X.prog X.w) X.A X.xe use Qf (.ref D) C (.ok .next) s') :
    wpAny (model X.prog X.w) X.A (comprehension (.ListComp elt [⟨tg, iter, ifs, 0⟩] scope pos) scope X.env pos' (newList []) false (eval iter X.env) use) Qf X.xe s := by
  have free : ∀ y ∈ scope.names, y.2 = .free → ∃ c, X.env.cells.lookup y.1 = some c := fun y hy e => (ok.free y hy e).elim (fun k => I.ok.has _ (.inl k)) fun k => I.ok.has _ (.inr k)
  refine behind_free (use := use) rfl hs (closure_ok free) ok.kind (fun y hy e => by rw [ok.uniq y hy, e]) (thn (hi.run pins s σ H _ I h) fun xv s1 hx => thn hx fun itv s2 h2 => ?_)
  obtain ⟨it, fp, tn, J, H2, e, I2, T, st2, f2, q⟩ := h2
  subst e
  refine wpAny_newObj_type (newEnv_comp ⟨rfl, ?_⟩) (by show 0 ≤ sizeLine; decide)
  generalize hD : s2.heap.objs.size = D
  obtain ⟨W0, ⟨m0, w0⟩, turn⟩ := q D (I2.hok.fresh (Nat.le_of_eq hD))
  generalize hs3 : ({ s2 with heap := s2.heap.push { cls := .type "list", data := .seq ([] : List Value).toArray } } : Shared) = s3
  have I3 : L2.Inv X pins σ (upd H2 D (.lst [])) s3 := by
    rw [← hs3]
    refine I2.laid (t' := s2.toks) (fun b o e => Heap.get?_push_of_some _ e) (Nat.le_of_eq hD) ⟨Nat.zero_le _, [], 0, .nil, ?_⟩
    rw [← hD]
    exact Heap.get?_push_size _ rfl
  have h3 : s3.heap = s2.heap.push { cls := .type "list", data := .seq ([] : List Value).toArray } := by rw [← hs3]
  have f3 : ∀ b ∈ fp, FpOk X pins (upd H2 D (.lst [])) b ∧ b < s3.heap.objs.size := fun b hb => by
    obtain ⟨o, e, _⟩ := T.obj _ _ st2 b hb
    have lt := Heap.lt_size e
    refine ⟨⟨?_, (f2 b hb).2⟩, by rw [h3, Heap.size_push]; exact Nat.lt_succ_of_lt lt⟩
    rw [upd_ne (by rw [← hD]; exact Nat.ne_of_lt lt)]
    exact (f2 b hb).1
  have st3 : tn 0 s3.heap := T.keep _ _ _ st2 fun b _ o e => by rw [h3]; exact Heap.get?_push_of_some _ e
  have I4 := block_start I3 ok hN f3
  have pg := hg s3 (upd H2 D (.lst [])) s3.heap.objs.size (cellsFrom (s3.heap.objs.size + 1) scope.names (cloFrom X.env.cells scope.names [])) fp
  have pt := ht s3 (upd H2 D (.lst [])) s3.heap.objs.size (cellsFrom (s3.heap.objs.size + 1) scope.names (cloFrom X.env.cells scope.names [])) fp
  have pe := he s3 (upd H2 D (.lst [])) s3.heap.objs.size (cellsFrom (s3.heap.objs.size + 1) scope.names (cloFrom X.env.cells scope.names [])) fp
  show codeAny _ _ (.compStart (.ListComp elt [⟨tg, iter, ifs, 0⟩] scope pos) 0 (.ref it) (.ref D) (compEnvC scope (cellsFrom (s3.heap.objs.size + 1) scope.names (cloFrom X.env.cells scope.names [])) s3.heap.objs.size X.env))
    (Behind (model X.prog X.w) X.A X.xe use Qf X.env.frame (.ref D) s3.heap.objs.size) { s3 with heap := pushCells (s3.heap.push { cls := .type "dict", data := .dict #[] }) scope.names }
  have nfp : ∀ b ∈ fp, (upd H2 D (.lst [])) b = none := fun b hb => (f3 b hb).1.1
  have cF : (compEnvC scope (cellsFrom (s3.heap.objs.size + 1) scope.names (cloFrom X.env.cells scope.names [])) s3.heap.objs.size X.env).frame = X.env.frame := rfl
  have cL : (compEnvC scope (cellsFrom (s3.heap.objs.size + 1) scope.names (cloFrom X.env.cells scope.names [])) s3.heap.objs.size X.env).locals = s3.heap.objs.size := rfl
  generalize compEnvC scope (cellsFrom (s3.heap.objs.size + 1) scope.names (cloFrom X.env.cells scope.names [])) s3.heap.objs.size X.env = ce at I4 pg pt pe cF cL ⊢
  generalize upd H2 D (.lst []) = H3 at I3 I4 pg pt pe w0 nfp f3
  have pe := pe (inner X ce use Qf D s3.heap.objs.size) fun E0 hE => pass_in hst hf tk I3 cF cL f3 hE
  generalize hs4 : ({ s3 with heap := pushCells (s3.heap.push { cls := .type "dict", data := .dict #[] }) scope.names } : Shared) = s4 at I4 ⊢
  have st4 : tn 0 s4.heap := T.keep _ _ _ st3 fun b _ o e => by rw [← hs4]; exact pushCells_keeps _ _ _ _ (Heap.get?_push_of_some _ e)
  have stat : ∀ {σ' : L2.St} {H' : Hp} {s' : Shared}, L2.Inv (X.blk s3 H3 scope ce fp) [] σ' H' s' → (∀ b ∈ fp, H' b = none) → ∀ b ∈ fp, FpOk (X.blk s3 H3 scope ce fp) [] H' b := fun {σ' H' s'} I' hn b hb =>
    ⟨hn b hb, (I'.ok.exf b hb).1, I'.ok.exfs b hb, .inl hb, fun x c e => (I'.ok.exf b hb).2 x c e, fun p hp => absurd (show p ∈ ([] : List (Addr × Obj)) ++ [] from hp) (by simp)⟩
  have loop : codeAny (model X.prog X.w) X.A (.compLoop (.ListComp elt [⟨tg, iter, ifs, 0⟩] scope pos) 0 (.ref it) (.ref D) ce) (Behind (model X.prog X.w) X.A X.xe use Qf X.env.frame (.ref D) s3.heap.objs.size) s4 := by
    refine compLoop_any (fun n s' => ∃ i H', L2.Inv (X.blk s3 H3 scope ce fp) [] (wipe σ (own.map (·.2))) H' s' ∧ tn i s'.heap ∧ (∀ b ∈ fp, H' b = none) ∧ W0 i n H') ?_ m0 ⟨0, H3, I4, st4, nfp, w0⟩
    rintro n s5 ⟨i, H5, I5, st5, n5, w5⟩
    rcases turn i n H5 w5 with ⟨stop, qq⟩ | ⟨go, Nx, hNx, step⟩
    · refine thnF (T.done (X.blk s3 H3 scope ce fp) rfl rfl rfl hc i [] s5 _ H5 (fun _ _ => False) I5 (stat I5 n5) st5 stop) fun r s6 ⟨hr, I6⟩ => ?_
      subst hr
      have I7 : L2.Inv X pins σ H5 s6 := I3.call' (ch := fp) I6.os I6.base I6.hok I6.bare fun b hb => ⟨(f3 b hb).1.2.2.2.1, (f3 b hb).1.2.1, (f3 b hb).1.2.2.2.2.1, (f3 b hb).1.2.2.2.2.2⟩
      have nC : H5 s3.heap.objs.size = none := by
        have z : H5 ce.locals = none := I6.free
        rwa [cL] at z
      obtain ⟨m, hn, _⟩ := I6.loc
      have hn : s6.heap.Ns ce.locals m := hn
      rw [cL] at hn
      exact hRR D s3.heap.objs.size s6 m H5 I7 qq hn (I3.fpOk (Nat.le_refl _) nC)
    · refine thnF (T.item (X.blk s3 H3 scope ce fp) rfl rfl rfl hc i [] s5 _ H5 (fun _ _ => False) I5 (stat I5 n5) st5 go) fun r s6 ⟨u, hr, h6⟩ => ?_
      subst hr
      refine thnF h6 fun _ s7 ⟨x, H7, I7, r7, y7, st7, n7⟩ => ?_
      refine thnF (pg.run _ s7 _ H7 x u _ (I7.pinned (stat I7 n7) (T.obj _ _ st7)) r7 (step x H7 y7)) fun _ s8 ⟨σ8, H8, I8, hw8, q8⟩ => ?_
      refine thnF (pt.run _ s8 σ8 H8 _ I8 q8) fun b s9 ⟨H9, I9, q9⟩ => ?_
      have fin : ∀ {s' : Shared} {H' : Hp}, L2.Inv (X.blk s3 H3 scope ce fp) ([] ++ pinsAt fp s7.heap) σ8 H' s' → Nx H' → ∃ m, m < n ∧ ∃ i H', L2.Inv (X.blk s3 H3 scope ce fp) [] (wipe σ (own.map (·.2))) H' s' ∧ tn i s'.heap ∧ (∀ b ∈ fp, H' b = none) ∧ W0 i m H' := fun {s' H'} I' nx => by
        obtain ⟨m', hm, w'⟩ := hNx H' nx
        have pin' : ∀ b ∈ fp, ∀ o, s7.heap.get? b = some o → s'.heap.get? b = some o ∧ H' b = none := fun b hb o e =>
          have z := I'.pin (b, o) (List.mem_append_right _ (List.mem_append_right _ (mem_pinsAt hb e)))
          ⟨z.1, z.2.1⟩
        refine ⟨m', hm, i + 1, H', (I'.unpinned (pins := [])).weak (by rw [← hw8, wipe_length]) (fun j v e => ?_), T.keep _ _ _ st7 fun b hb o e => (pin' b hb o e).1, fun b hb => ?_, w'⟩
        · rw [← hw8] at e
          exact (wipe_some e).1
        · obtain ⟨o, e, _⟩ := T.obj _ _ st7 b hb
          exact (pin' b hb o e).2
      cases b with
      | false =>
        simp only [Bool.false_eq_true, if_false] at q9 ⊢
        exact fin I9 q9
      | true =>
        simp only [if_true] at q9 ⊢
        refine thn (pe.run _ s9 σ8 H9 _ (I9.wish _) q9) fun z s10 ⟨yv, H10, I10, r10, acc, hD10, hz10, nx⟩ => ?_
        exact app_ok (X := X.blk s3 H3 scope ce fp) I10.unwish hD10 hz10 r10 fun s11 I11 => fin I11 nx
  exact codeAny_compStart_list loop (T.self X.A 0 _ _ _ st4 loop)
/-- name = [..], the name a local, the element may raise -/
theorem ps_setLcX {i : Nat} {y : Str} {py : Pos} {elt tg iter : Expr} {ifs : List Expr} {scope : Scope} {own : List (Str × Nat)} {pos spos : Pos} {wi : TI} {g : TG} {tt : TT} {te : TE} (hc : X.calm = true) (hN : X.N.Nodup) (hst : X.stack = X.env :: X.outer) (hf : X.env.frame = some X.env.locals)
    (tk : Takes X fun c d _ H => W c d [] H) (hy : X.N[i]? = some y) (hyl : X.env.scope.names.lookup y = some .local) (hsw : swapsWith (.ListComp elt [⟨tg, iter, ifs, 0⟩] scope pos) (some (.Name y py)) spos.line X.env = pure true) (hi : PI X tg iter wi) (ok : BlkOk X.N X.env.scope scope own)
    (hg : ∀ (s : Shared) (H : Hp) (C : Addr) (cl : List (Str × Addr)) (fp : List Addr), PG (X.blk s H scope (compEnvC scope cl C X.env) fp) tg g)
    (ht : ∀ (s : Shared) (H : Hp) (C : Addr) (cl : List (Str × Addr)) (fp : List Addr), PTs (X.blk s H scope (compEnvC scope cl C X.env) fp) ifs tt)
    (he : ∀ (s : Shared) (H : Hp) (C : Addr) (cl : List (Str × Addr)) (fp : List Addr) (xe : Value → Shared → Prop), (∀ E0 : XK, (∀ c d H, E0 c d H → W c d [] H) → Passes (L2.CX X.prog X.w) ((X.blk s H scope (compEnvC scope cl C X.env) fp).wish xe) E0) →
      PE ((X.blk s H scope (compEnvC scope cl C X.env) fp).wish xe) elt te)
    (hs : ∀ x, foldedSetIterable iter X.env x = pure x := by intro _; rfl) : PS X (.Assign [.Name y py] (.ListComp elt [⟨tg, iter, ifs, 0⟩] scope pos) spos) (tAsg (tLc wi g tt te (own.map (·.2))) (gName i)) := by
  refine ⟨fun pins s σ H D I h => ?_⟩
  rw [exec_Assign_Name_used _ _ _ _ hsw]
  refine wpAny_bind (wpAny_standAt (wpAny_bind ?_))
  show wpAny _ X.A (do let _ ← comprehension (.ListComp elt [⟨tg, iter, ifs, 0⟩] scope pos) scope X.env (firstIterPos [⟨tg, iter, ifs, 0⟩] pos) (newList []) false (eval iter X.env) (some (assign (.Name y py) X.env))) _ _ s
  have h : tLc wi g tt te (own.map (·.2)) σ H (fun x H1 => gName i x σ H1 D.nx) := h
  refine wpAny_bind (thn (lc_raise (Qf := fun _ s' => SP X pins D .next s') hc hN hst hf tk I hi ok hg ht he hs h fun L C s' m H' I' q hn f => ?_) fun _ s' hq => wpAny_pure (wpAny_pure hq))
  show wpAny _ _ (assign (.Name y py) X.env (.ref L)) _ _ _
  refine wpAny_assign_Name (store_ok2 (v := V.ref L) I' hN hy (.inl hyl) rfl (fun s2 I2 ⟨a, sb, ha⟩ => ?_) (.inr hyl))
  obtain ⟨f0, f1, f2, f3, f4, f5⟩ := f
  have nCa : C ≠ a := ha.elim (fun z => by rw [z]; exact f1) fun z e => f4 y a z e.symm
  refine ⟨m, hn.sameBut sb nCa, fun h3 sb3 => ?_⟩
  exact ⟨_, H', I2.turned (t' := s2.toks) (fun b o hb e => (sb3.2 b hb).trans e) f0 f1 f3 f4 f5, q⟩
end
end LcX

set_option Elab.async false
set_option linter.all false
set_option maxRecDepth 100000
namespace Rdr
open PySem L2
theorem eqV_str (a b : Str) : eqV (.str a) (.str b) = decide (a = b) := by
  show (a == b) = decide (a = b)
  by_cases h : a = b
  · subst h; simp
  · simp [h]
theorem in_wlist {x : Str} : ∀ {ws : List Str}, inV (.str x) (wlist ws) = ws.contains x
  | [] => rfl
  | y :: r => by
    have ih := in_wlist (x := x) (ws := r)
    show (eqV (.str y) (.str x) || inV (.str x) (wlist r)) = (y :: r).contains x
    rw [ih, eqV_str, List.contains_cons]
    by_cases h : y = x
    · subst h; simp
    · simp [h, Ne.symm h]
theorem flat_wlist : ∀ {ws : List Str}, (wlist ws).all flatV = true
  | [] => rfl
  | _ :: r => by
    show (true && (wlist r).all flatV) = true
    rw [flat_wlist]
    rfl
theorem first_at {x : Str} : ∀ {ws : List Str}, ws.contains x = true → ∃ j, ws[j]? = some x ∧ ws.findIdx (· = x) = j ∧ ∀ (m : Nat) (z : Str), m < j → ws[m]? = some z → z ≠ x
  | [], h => by simp at h
  | y :: r, h => by
    by_cases e : y = x
    · refine ⟨0, by rw [e]; rfl, by simp [List.findIdx_cons, e], fun m z hm _ => by omega⟩
    · have h' : r.contains x = true := by
        rw [List.contains_cons] at h
        simpa [Ne.symm e] using h
      obtain ⟨j, h1, h2, h3⟩ := first_at h'
      refine ⟨j + 1, by simpa using h1, by simp [List.findIdx_cons, e, h2], fun m z hm hz => ?_⟩
      cases m with
      | zero => simp at hz; rw [← hz]; exact e
      | succ m => exact h3 m z (by omega) (by simpa using hz)
theorem idx_wlist {x : Str} {ws : List Str} (h : ws.contains x = true) : ∃ (j : Nat) (z : V), (wlist ws)[j]? = some z ∧ eqV z (.str x) = true ∧ ws.findIdx (· = x) = j ∧ j < ws.length ∧ (∀ (m : Nat) (z' : V), m < j → (wlist ws)[m]? = some z' → eqV z' (.str x) = false) := by
  obtain ⟨j, h1, h2, h3⟩ := first_at h
  refine ⟨j, .str x, by rw [List.getElem?_map, h1]; rfl, by rw [eqV_str]; simp, h2, (List.getElem?_eq_some_iff.mp h1).1, fun m z' hm hz => ?_⟩
  rw [List.getElem?_map] at hz
  cases e : ws[m]? with
  | none => rw [e] at hz; cases hz
  | some z =>
    rw [e] at hz
    cases hz
    rw [eqV_str]
    simp [h3 m z hm e]
theorem val_cons {k : Key} {v : V} {r : List (Key × V)} {x : Key} : valV ((k, v) :: r) x = if k = x then some v else valV r x := by
  unfold valV
  rw [List.find?_cons]
  by_cases h : k = x
  · simp [h]
  · simp [h]
theorem look_cons {β : Type} {k : Str} {v : β} {r : List (Str × β)} {x : Str} : List.lookup x ((k, v) :: r) = if k = x then some v else List.lookup x r := by
  rw [List.lookup_cons]
  by_cases h : k = x
  · subst h; simp
  · have : (x == k) = false := by simpa using Ne.symm h
    rw [this]
    simp [h]
theorem fd_get {H : Hp} {M : List Addr} {x : Str} : ∀ {kvs : List (Key × V)} {cs : List (Str × List Str)}, Paired (FdAt H M) kvs cs →
    (∀ ws, cs.lookup x = some ws → ∃ t, valV kvs (.inr x : Key) = some (.ref t) ∧ Fix H M t (.lst (wlist ws))) ∧ (cs.lookup x = none → valV kvs (.inr x : Key) = none)
  | _, _, .nil => ⟨fun ws h => (by cases h), fun _ => rfl⟩
  | (k, v) :: _, (n, ws) :: _, .cons ⟨e, t, ev, f⟩ r => by
    obtain ⟨i1, i2⟩ := fd_get (x := x) r
    have e : k = .inr n := e
    have ev : v = .ref t := ev
    subst e ev
    refine ⟨fun ws' h => ?_, fun h => ?_⟩
    · rw [look_cons] at h
      rw [val_cons]
      by_cases hn : n = x
      · rw [if_pos hn] at h
        cases h
        rw [if_pos (by rw [hn])]
        exact ⟨t, rfl, f⟩
      · rw [if_neg hn] at h
        rw [if_neg (fun z => hn (Sum.inr.inj z))]
        exact i1 ws' h
    · rw [look_cons] at h
      rw [val_cons]
      by_cases hn : n = x
      · rw [if_pos hn] at h; cases h
      · rw [if_neg hn] at h
        rw [if_neg (fun z => hn (Sum.inr.inj z))]
        exact i2 h
theorem ch_get {H : Hp} {M : List Addr} {x : Str} : ∀ {kvs : List (Key × V)} {cs : List (Str × List Str)}, Paired (ChAt H M) kvs cs →
    (∀ ws, cs.lookup x = some ws → ∃ t, valV kvs (.inr x : Key) = some (.ref t) ∧ Fix H M t (.tup (wlist ws))) ∧ (cs.lookup x = none → valV kvs (.inr x : Key) = none)
  | _, _, .nil => ⟨fun ws h => (by cases h), fun _ => rfl⟩
  | (k, v) :: _, (n, ws) :: _, .cons ⟨e, t, ev, f⟩ r => by
    obtain ⟨i1, i2⟩ := ch_get (x := x) r
    have e : k = .inr n := e
    have ev : v = .ref t := ev
    subst e ev
    refine ⟨fun ws' h => ?_, fun h => ?_⟩
    · rw [look_cons] at h
      rw [val_cons]
      by_cases hn : n = x
      · rw [if_pos hn] at h
        cases h
        rw [if_pos (by rw [hn])]
        exact ⟨t, rfl, f⟩
      · rw [if_neg hn] at h
        rw [if_neg (fun z => hn (Sum.inr.inj z))]
        exact i1 ws' h
    · rw [look_cons] at h
      rw [val_cons]
      by_cases hn : n = x
      · rw [if_pos hn] at h; cases h
      · rw [if_neg hn] at h
        rw [if_neg (fun z => hn (Sum.inr.inj z))]
        exact i2 h
def refOk (S : Rd) (t : Str) : Bool := S.near.contains (Txt.partition t ".").1 && ((S.fields.lookup (Txt.partition t ".").1).getD []).contains (Txt.partition t ".").2.2
end Rdr
namespace K7
open PySem L2 Rdr
abbrev sRefOf : Stmt := inClass (top 21) 14
/-- a REF: a pair, the heap grown; or the line is wrong -/
def spRefOf (C cB : Addr) : Sp := fun vs H Q E => ∃ (r : Addr) (A : Adr) (S : Rd) (t : Str), vs = [.ref r, .str t] ∧ RdAt C H r A S ∧ Fine S ∧ okw t = true ∧
  (refOk S t = true → ∀ (p : Addr) (H' : Hp) (a b : V), Same H H' → H' p = some (.tup [a, b]) → Q (.ref p) H') ∧ (refOk S t = false → Bad cB E (A.own r) H ((S.pos : Int) + 1))
theorem Bad.before {cB : Addr} {E : XK} {M : List Addr} {H H1 : Hp} {n : Int} (b : Bad cB E M H n) (k : But M H H1) : Bad cB E M H1 n := fun d H' hd hb hx => b d H' (k.free d hd) (k.trans hb) hx
theorem okw_le {x : Str} (h : okw x = true) : x.length ≤ 20000 := by
  unfold okw at h
  exact of_decide_eq_true (Bool.and_eq_true_iff.mp h).1
section
variable {P : Program} {w : World} {K : PySem.W.Frag} {mg : Str → Option Value} {base : Heap} {C cB fB : Addr} {fdB : FuncData}
theorem sc_refOf : FnScope ["self", "text", "kind", "_", "field"] ["self", "text"] (defScope sRefOf) := ⟨rfl, rfl, rfl, by decide +kernel, rfl, by decide +kernel, by decide +kernel⟩
theorem ok_refOf {f : Addr} {fd : FuncData} (F : Fun K "ref_of" "ProgramReader.ref_of" sRefOf f fd) (T : RT K mg C cB fB fdB) (Gn : MOk P w K mg base 3 C "need" (spNeed C cB)) : FnOk P w K mg base (L2.CX P w) 4 f fd ["self", "text"] (spRefOf C cB) := by
  refine F.okX sc_refOf (fun vs H Q E h => ?_) (fun cdv A outer s H vs Q E hr h => ?_)
  · obtain ⟨r, A, S, t, rfl, _⟩ := h
    rfl
  · obtain ⟨r, A, S, t, rfl, R, S1, ht, k1, k2⟩ := h
    have hu := hu_of hr
    have tl := okw_le ht
    refine ⟨_, pss_cons (ps_asg (pe_partition (pv 1) pe_str) (pg_tup rfl (pgs_cons (pg_name (i := 2) sc_refOf.nd rfl (Or.inl rfl)) (pgs_cons (pg_name (i := 3) sc_refOf.nd rfl (Or.inl rfl)) (pgs_cons (pg_name (i := 4) sc_refOf.nd rfl (Or.inl rfl)) pgs_nil)))))
      (pss_cons (ps_expr (m_meth (pv 0) T.cl Gn hr (passes_call (takes_of rfl rfl rfl rfl) (fun _ _ _ _ z => z)) (pa_cons (pe_and (pe_cmpR op_in_seq (pv 2) (pe_fld (pv 0) rfl) rfl) (pe_one (pe_cmpR op_in_seq (pv 4) (pe_dget hu (pe_fld (pv 0) rfl) (pv 2) (fun _ _ => rfl)) rfl))) pa_nil)))
      (pss_one (ps_ret (pe_tup (pa_cons (pv 2) (pa_cons (pe_bm PySem.F.plainAttrs_list PySem.F.slot_list_index PySem.F.type_list_index mt_index (pe_dget hu (pe_fld (pv 0) rfl) (pv 2) (fun _ _ => rfl)) (pa_cons (pv 4) pa_nil)) pa_nil)))))), ?_⟩
    refine ⟨_, rfl, ⟨_, rfl⟩, _, _, rfl, rfl, (by decide), le_line (by omega), fun q nq => ?_⟩
    refine ⟨q, _, rfl, SqT.of upd_same, rfl, _, _, rfl, _, _, rfl, _, _, rfl, rfl, ?_⟩
    generalize hH1 : upd H q _ = H1
    have s1 : Same H H1 := by rw [← hH1]; exact Same.new nq
    have R1 := R.same s1
    obtain ⟨dx, ob⟩ := R1.ob
    obtain ⟨kvs, f1, f2⟩ := R1.fd
    refine ⟨_, rfl, r, dx, _, rfl, ob, noMeth (by decide +kernel), _, rfl, _, rfl, r, C, dx, _, _, rfl, ob, T.cl, T.near, rfl, _, _, rfl, .inr (SqT.of R1.nr.1), rfl, flat_wlist, _, rfl, ?_⟩
    have e1 : (if false = true then !inV (V.str (Txt.partition t ".").1) (wlist S.near) else inV (V.str (Txt.partition t ".").1) (wlist S.near)) = S.near.contains (Txt.partition t ".").1 := in_wlist
    refine ite2 (fun h1 => ?_) (fun h1 => ?_)
    · rw [e1] at h1
      have hk := S1.nf.2 _ (List.contains_iff_mem.mp h1)
      obtain ⟨ws, hws⟩ := Option.isSome_iff_exists.mp hk
      obtain ⟨fa, hv, hf⟩ := (fd_get f2).1 ws hws
      have dg : DGet H1 A.fd (.str (Txt.partition t ".").1) (some (.ref fa)) := by
        rw [← hv]
        exact DGet.k (k := Sum.inr (Txt.partition t ".").1) f1
      refine ⟨_, rfl, _, rfl, r, C, dx, _, _, rfl, ob, T.cl, T.fields, rfl, _, rfl, A.fd, _, rfl, dg, _, _, rfl, .inl (SqL.of hf.1), rfl, flat_wlist, ?_⟩
      have e2 : (if false = true then !inV (V.str (Txt.partition t ".").2.2) (wlist ws) else inV (V.str (Txt.partition t ".").2.2) (wlist ws)) = ws.contains (Txt.partition t ".").2.2 := in_wlist
      rw [e2]
      have e3 : refOk S t = ws.contains (Txt.partition t ".").2.2 := by
        unfold refOk
        rw [h1, hws]
        rfl
      refine ⟨r, A, S, _, rfl, R1, fun hb => ?_, fun hb => (k2 (by rw [e3]; exact hb)).before (.of s1)⟩
      obtain ⟨j, z, g1, g2, _, _, g3⟩ := idx_wlist hb
      refine ⟨_, rfl, _, rfl, r, C, dx, _, _, rfl, ob, T.cl, T.fields, rfl, _, rfl, A.fd, _, rfl, dg, .inl ⟨rfl, _, SqL.of hf.1⟩, _, rfl, fa, _, _, j, z, rfl, rfl, SqL.of hf.1, rfl, flat_wlist, g1, g2, g3, (by show 2 ≤ sizeLine; decide), fun p np => ?_⟩
      exact k1 (by rw [e3]; exact hb) p _ _ _ (s1.trans (Same.new np)) upd_same
    · rw [e1] at h1
      have h1 : S.near.contains (Txt.partition t ".").1 = false := by simpa using h1
      have e3 : refOk S t = false := by
        unfold refOk
        rw [h1]
        rfl
      exact ⟨r, A, S, false, rfl, R1, fun hb => Bool.noConfusion hb, fun _ => (k2 e3).before (.of s1)⟩
end
end K7

set_option Elab.async false
set_option linter.all false
set_option maxRecDepth 100000
namespace Rdr
open PySem L2
def cellOk (S : Rd) (c d : Str) : Bool := S.cells.contains c && (digits (S.worths.getD (S.cells.findIdx (· = c)) 0)).contains d
end Rdr
namespace K7
open PySem L2 Rdr
abbrev sCellWorth : Stmt := inClass (top 21) 13
def spCellWorth (C cB : Addr) : Sp := fun vs H Q E => ∃ (r : Addr) (A : Adr) (S : Rd) (c d : Str), vs = [.ref r, .str c, .str d] ∧ RdAt C H r A S ∧ Fine S ∧
  (cellOk S c d = true → ∀ (p : Addr) (H' : Hp) (a b : V), Same H H' → H' p = some (.tup [a, b]) → Q (.ref p) H') ∧ (cellOk S c d = false → Bad cB E (A.own r) H ((S.pos : Int) + 1))
def dgt (k : Nat) : Str := toString ((0 : Int) + (k : Int))
section
variable {P : Program} {w : World} {K : PySem.W.Frag} {mg : Str → Option Value} {base : Heap} {C cB fB : Addr} {fdB : FuncData}
theorem sc_cellWorth : FnScope ["self", "cell", "digit", "number", "worth"] ["self", "cell", "digit"] (defScope sCellWorth) := ⟨rfl, rfl, rfl, by decide +kernel, rfl, by decide +kernel, by decide +kernel⟩
theorem ok_cellWorth {f : Addr} {fd : FuncData} (F : Fun K "cell_worth" "ProgramReader.cell_worth" sCellWorth f fd) (T : RT K mg C cB fB fdB) (Gn : MOk P w K mg base 3 C "need" (spNeed C cB)) : FnOk P w K mg base (L2.CX P w) 4 f fd ["self", "cell", "digit"] (spCellWorth C cB) := by
  refine F.okX sc_cellWorth (fun vs H Q E h => ?_) (fun cdv A outer s H vs Q E hr h => ?_)
  · obtain ⟨r, A, S, c, d, rfl, _⟩ := h
    rfl
  · obtain ⟨r, A, S, c, d, rfl, R, S1, k1, k2⟩ := h
    refine ⟨_, pss_cons (ps_expr (m_meth (pv 0) T.cl Gn hr (passes_call (takes_of rfl rfl rfl rfl) (fun _ _ _ _ z => z)) (pa_cons (pe_cmpR op_in_seq (pv 1) (pe_fld (pv 0) rfl) rfl) pa_nil)))
      (pss_cons (ps_set (i := 3) sc_cellWorth.nd rfl (Or.inl rfl) (pe_bm PySem.F.plainAttrs_list PySem.F.slot_list_index PySem.F.type_list_index mt_index (pe_fld (pv 0) rfl) (pa_cons (pv 1) pa_nil)))
      (pss_cons (ps_expr (m_meth (pv 0) T.cl Gn hr (passes_call (takes_of rfl rfl rfl rfl) (fun _ _ _ _ z => z)) (pa_cons (pe_cmpR op_in_seq (pv 2)
        (pe_lc (own := [("worth", 4)]) (g := gName 4) (tt := tYes) rfl sc_cellWorth.nd (pi_range1 rfl T.range (pa_cons (pe_ix ix_list (pe_fld (pv 0) rfl) (pv 3) (fun _ _ => rfl)) pa_nil)) (blkOk_by (N := ["self", "cell", "digit", "number", "worth"]) (sc := defScope sCellWorth) (by decide +kernel))
          (fun _ _ _ _ _ => pg_name (i := 4) sc_cellWorth.nd rfl (Or.inl rfl)) (fun _ _ _ _ _ => pts_nil) (fun _ _ _ _ _ => pe_callTy call_str_int (by rfl) T.str (by decide +kernel) (pa_cons (pv 4) pa_nil))) rfl) pa_nil)))
      (pss_one (ps_ret (pe_tup (pa_cons (pv 3) (pa_cons (pe_callTy call_int_str (by rfl) T.int (by decide +kernel) (pa_cons (pv 2) pa_nil)) pa_nil))))))), ?_⟩
    obtain ⟨dx, ob⟩ := R.ob
    refine ⟨_, rfl, r, dx, _, rfl, ob, noMeth (by decide +kernel), _, rfl, _, rfl, r, C, dx, _, _, rfl, ob, T.cl, T.cells, rfl, _, _, rfl, .inl (SqL.of R.cl), rfl, flat_wlist, r, A, S, _, rfl, R, fun hb => ?_, fun hb => k2 ?_⟩
    · have e1 : (if false = true then !inV (V.str c) (wlist S.cells) else inV (V.str c) (wlist S.cells)) = S.cells.contains c := in_wlist
      rw [e1] at hb
      obtain ⟨j, z, g1, g2, g0, gl, g3⟩ := idx_wlist hb
      refine ⟨_, rfl, r, C, dx, _, _, rfl, ob, T.cl, T.cells, rfl, .inl ⟨rfl, _, SqL.of R.cl⟩, _, rfl, A.cl, _, _, j, z, rfl, rfl, SqL.of R.cl, rfl, flat_wlist, g1, g2, g3, ?_⟩
      obtain ⟨w1, w2, w3⟩ := S1.w
      have hj : j < S.worths.length := by omega
      obtain ⟨wo, hwo⟩ : ∃ wo, S.worths[j]? = some wo := ⟨_, List.getElem?_eq_getElem hj⟩
      have hwv : wo = 2 ∨ wo = 3 := w3 _ (List.mem_of_getElem? hwo)
      have hix : (ilist S.worths)[j]? = some (V.int wo) := by rw [List.getElem?_map, hwo]; rfl
      have ec : cellOk S c d = (digits wo).contains d := by
        unfold cellOk
        rw [hb, g0, List.getD_eq_getElem?_getD, hwo]
        rfl
      obtain ⟨n, hn, hn3, hd⟩ : ∃ n : Nat, wo = (n : Int) ∧ n ≤ 3 ∧ (List.range n).map dgt = digits wo := by
        rcases hwv with rfl | rfl
        · exact ⟨2, rfl, by decide, by decide +kernel⟩
        · exact ⟨3, rfl, by decide, by decide +kernel⟩
      refine ⟨_, rfl, r, dx, _, rfl, ob, noMeth (by decide +kernel), _, rfl, _, rfl, r, C, dx, _, _, rfl, ob, T.cl, T.worths, rfl, _, rfl, A.wl, _, _, _, rfl, rfl, SqL.of R.wl, atI_nat hix, wo, rfl, by omega, by omega, fun D nD => ?_⟩
      rw [show wo.toNat = n by omega]
      refine lc_range (lo := 0) (n := n) (fun i H' => Same H H' ∧ H' D = some (.lst (wlist ((List.range i).map dgt)))) ⟨Same.new nD, upd_same⟩ (fun i H1 hi ⟨s1, d1⟩ => ?_) (fun H1 ⟨s1, d1⟩ => ?_)
      · refine ⟨rfl, _, rfl, _, rfl, ?_, _, d1, ?_, fun b o hb => ?_, ?_⟩
        · have : ((0 : Int) + (i : Int)).natAbs < 2 ^ 3 := by omega
          have z := PySem.Flt.log2_lt_of (by decide) this
          omega
        · have := le_line (n := 20002) (by omega)
          simp only [List.length_map, List.length_range]
          omega
        · rw [upd_ne (ne_of_none hb nD)]
          exact s1 _ _ hb
        · rw [upd_same, List.range_succ, List.map_append]
          simp only [wlist, List.map_append]
          rfl
      · rw [hd] at d1
        refine ⟨_, _, rfl, .inl (SqL.of d1), rfl, flat_wlist, r, A, S, _, rfl, R.same s1, fun hb2 => ?_, fun hb2 => ?_⟩
        · have e2 : (if false = true then !inV (V.str d) (wlist (digits wo)) else inV (V.str d) (wlist (digits wo))) = (digits wo).contains d := in_wlist
          rw [e2] at hb2
          obtain ⟨m, hm, hml⟩ : ∃ m, PySem.intText? d = some m ∧ d.length ≤ 640 := by
            have hmem := List.contains_iff_mem.mp hb2
            rcases hwv with rfl | rfl
            · have : d = "0" ∨ d = "1" := by simpa [digits] using hmem
              rcases this with rfl | rfl
              · exact ⟨0, by decide +kernel, by decide⟩
              · exact ⟨1, by decide +kernel, by decide⟩
            · have : d = "0" ∨ d = "1" ∨ d = "2" := by simpa [digits] using hmem
              rcases this with rfl | rfl | rfl
              · exact ⟨0, by decide +kernel, by decide⟩
              · exact ⟨1, by decide +kernel, by decide⟩
              · exact ⟨2, by decide +kernel, by decide⟩
          refine ⟨_, rfl, _, rfl, d, m, rfl, hm, hml, (by show 2 ≤ sizeLine; decide), fun p np => ?_⟩
          exact k1 (by rw [ec]; exact hb2) p _ _ _ (s1.trans (Same.new np)) upd_same
        · have e2 : (if false = true then !inV (V.str d) (wlist (digits wo)) else inV (V.str d) (wlist (digits wo))) = (digits wo).contains d := in_wlist
          rw [e2] at hb2
          exact (k2 (by rw [ec]; exact hb2)).before (.of s1)
    · have e1 : (if false = true then !inV (V.str c) (wlist S.cells) else inV (V.str c) (wlist S.cells)) = S.cells.contains c := in_wlist
      rw [e1] at hb
      unfold cellOk
      rw [hb]
      rfl
end
end K7

set_option Elab.async false
set_option linter.all false
set_option maxRecDepth 100000
namespace Rdr
open PySem L2
def tokOk (S : Rd) (t : Str) : Bool := word t || refOk S t
theorem need_eq {A : Type} {S : Rd} {b : Bool} {r : Res A} : S.need b r = if b = true then r else .bad ((S.pos : Int) + 1) := by
  unfold Rd.need
  cases b <;> rfl
theorem need_need {A : Type} {S : Rd} {a b : Bool} {r : Res A} : S.need a (S.need b r) = S.need (a && b) r := by
  unfold Rd.need
  cases a <;> cases b <;> rfl
theorem tokensM_eq {A : Type} {S : Rd} {r : Res A} : ∀ {ts : List Str}, tokensM S ts r = S.need (ts.all (tokOk S)) r
  | [] => rfl
  | t :: ts => by
    have ih := tokensM_eq (S := S) (r := r) (ts := ts)
    show (if word t = true then tokensM S ts r else refM S t (tokensM S ts r)) = S.need (tokOk S t && ts.all (tokOk S)) r
    rw [ih]
    have e : tokOk S t = (word t || refOk S t) := rfl
    rw [e]
    cases h : word t with
    | true => simp
    | false =>
      simp only [Bool.false_eq_true, if_false, Bool.false_or]
      show S.need (refOk S t) (S.need (ts.all (tokOk S)) r) = S.need (refOk S t && ts.all (tokOk S)) r
      rw [need_need]
def wOk (S : Rd) (l : Str) (ts : List Str) : Bool := word l && (!S.labels.contains l && (decide (ts.length ≤ 6) && ts.all (tokOk S)))
theorem writeM_eq {S : Rd} {l : Str} {ts : List Str} : writeM S l ts = S.need (wOk S l ts) (.ok { S with labels := S.labels ++ [l] }) := by
  unfold writeM wOk
  rw [tokensM_eq, need_need]
  simp only [Bool.and_assoc]
end Rdr
namespace K7
open PySem L2 Rdr LcX
abbrev sWrite : Stmt := inClass (top 21) 12
structure RC (mg : Str → Option Value) : Prop where
  MOST_KINDS : ∃ t, mg "MOST_KINDS" = some (.int 4 t)
  MOST_KINDS_IN_ONE_ANOTHER : ∃ t, mg "MOST_KINDS_IN_ONE_ANOTHER" = some (.int 3 t)
  MOST_FIELDS : ∃ t, mg "MOST_FIELDS" = some (.int 2 t)
  MOST_PASSES : ∃ t, mg "MOST_PASSES" = some (.int 2 t)
  MOST_CELLS : ∃ t, mg "MOST_CELLS" = some (.int 2 t)
  MOST_STATEMENTS : ∃ t, mg "MOST_STATEMENTS" = some (.int 6 t)
  MOST_IFS_IN_ONE_ANOTHER : ∃ t, mg "MOST_IFS_IN_ONE_ANOTHER" = some (.int 2 t)
  MOST_TOKENS : ∃ t, mg "MOST_TOKENS" = some (.int 6 t)
def spWrite (C cB : Addr) : Sp := fun vs H Q E => ∃ (r tk : Addr) (A : Adr) (S : Rd) (l kd : Str) (ts : List Str), vs = [.ref r, .str l, .str kd, .ref tk] ∧ RdAt C H r A S ∧ Fine S ∧ H tk = some (.lst (wlist ts)) ∧ okw l = true ∧ ts.length ≤ 20000 ∧ (∀ x ∈ ts, okw x = true) ∧
  (wOk S l ts = true → ∀ (p : Addr) (xs : List V) (H' : Hp), But (A.own r) H H' → RdAt C H' r A { S with labels := S.labels ++ [l] } → H' p = some (.tup xs) → Q (.ref p) H') ∧ (wOk S l ts = false → Bad cB E (A.own r) H ((S.pos : Int) + 1))
section
variable {P : Program} {w : World} {K : PySem.W.Frag} {mg : Str → Option Value} {base : Heap} {C cB fB : Addr} {fdB : FuncData}
theorem sc_write : FnScope ["self", "label", "kind", "tokens", "read", "token"] ["self", "label", "kind", "tokens"] (defScope sWrite) := ⟨rfl, rfl, rfl, by decide +kernel, rfl, by decide +kernel, by decide +kernel⟩
theorem ok_write {f : Addr} {fd : FuncData} (F : Fun K "write_statement" "ProgramReader.write_statement" sWrite f fd) (T : RT K mg C cB fB fdB) (TC : RC mg) (Gn : MOk P w K mg base 3 C "need" (spNeed C cB)) (Gr : MOk P w K mg base 4 C "ref_of" (spRefOf C cB)) (Gw : DOk P w K mg base 1 "is_word" spWord) :
    FnOk P w K mg base (L2.CX P w) 5 f fd ["self", "label", "kind", "tokens"] (spWrite C cB) := by
  obtain ⟨tT, cT⟩ := TC.MOST_TOKENS
  refine F.okX sc_write (fun vs H Q E h => ?_) (fun cdv A outer s H vs Q E hr h => ?_)
  · obtain ⟨r, tk, A, S, l, kd, ts, rfl, _⟩ := h
    rfl
  · obtain ⟨r, tk, A, S, l, kd, ts, rfl, R, S1, htk, hl, hts, hall, k1, k2⟩ := h
    have hr4 : Room 4 _ := hr
    have hr3 : Room 3 _ := hr.mono (by decide)
    have hr1 : Room 1 _ := hr.mono (by decide)
    refine ⟨_, pss_cons (ps_expr (m_meth (pv 0) T.cl Gn hr3 (passes_call (takes_of rfl rfl rfl rfl) (fun _ _ _ _ z => z)) (pa_cons (pe_and (f_call Gw hr1 passL (pa_cons (pv 1) pa_nil)) (pe_and (pe_cmpR op_notIn_seq (pv 1) (pe_fld (pv 0) rfl) (by rfl)) (pe_one (pe_cmpR op_le (pe_callB call_len_seq (by rfl) T.len PySem.boot_len (pa_cons (pv 3) pa_nil)) (pe_glob (v := .int 6) rfl cT ⟨_, rfl⟩) (nomark _))))) pa_nil)))
      (pss_cons (ps_setLcX (i := 4) (own := [("token", 5)]) (g := gName 5) (tt := tYes) (W := fun c d _ H => E c d H) rfl sc_write.nd rfl rfl (takes_of rfl rfl rfl rfl) rfl rfl (sw_true rfl rfl rfl (by decide +kernel)) (pi_list (pv 3)) (blkOk_by (N := ["self", "label", "kind", "tokens", "read", "token"]) (sc := defScope sWrite) (by decide +kernel))
          (fun _ _ _ _ _ => pg_name (i := 5) sc_write.nd rfl (Or.inl rfl)) (fun _ _ _ _ _ => pts_nil)
          (fun _ _ _ _ _ _ hp => pe_ifExp (pt_val (f_call Gw hr1 passL (pa_cons (pv 5) pa_nil))) (pe_tup (pa_cons pe_str (pa_cons (pv 5) pa_nil))) (m_meth (pv 0) T.cl Gr hr4 (hp E fun _ _ _ z => z) (pa_cons (pv 5) pa_nil))))
      (pss_cons (ps_expr (pe_bm PySem.F.plainAttrs_list PySem.F.slot_list_append PySem.F.type_list_append mt_append (pe_fld (pv 0) rfl) (pa_cons (pv 1) pa_nil)))
      (pss_one (ps_ret (pe_tup (pa_cons pe_str (pa_cons (pv 1) (pa_cons (pv 2) (pa_cons (pe_callTy call_tuple_of (by rfl) T.tuple (by decide +kernel) (pa_cons (pv 4) pa_nil)) pa_nil))))))))), ?_⟩
    obtain ⟨dx, ob⟩ := R.ob
    refine ⟨_, rfl, r, dx, _, rfl, ob, noMeth (by decide +kernel), _, rfl, l, rfl, okw_le hl, fun H1 s1 => ⟨_, rfl, ?_⟩⟩
    have R1 := R.same s1
    obtain ⟨dx1, ob1⟩ := R1.ob
    have htk1 := s1 _ _ htk
    refine ite2 (fun h1 => ?_) (fun h1 => ?_)
    · refine ⟨_, rfl, _, rfl, r, C, dx1, _, _, rfl, ob1, T.cl, T.labels, rfl, _, _, rfl, .inl (SqL.of R1.ll), rfl, flat_wlist, _, rfl, ?_⟩
      have e1 : (if true = true then !inV (V.str l) (wlist S.labels) else inV (V.str l) (wlist S.labels)) = !S.labels.contains l := by
        rw [if_pos rfl, in_wlist]
      rw [e1]
      refine ite2 (fun h2 => ?_) (fun h2 => ?_)
      · refine ⟨_, rfl, tk, _, rfl, .inl (SqL.of htk1), _, _, rfl, rfl, r, A, S, _, rfl, R1, fun hb => ?_, fun hb => ?_⟩
        · have hb6 : ts.length ≤ 6 := by
            have := of_decide_eq_true hb
            rw [List.length_map] at this
            omega
          have hw : wOk S l ts = ts.all (tokOk S) := by
            unfold wOk
            rw [h1, h2, decide_eq_true hb6]
            rfl
          refine ⟨_, rfl, tk, rfl, ⟨_, SqL.of htk1⟩, fun D nD => lc_list (K := K) (a := tk) (xs := wlist ts) (fun i H' => Same H1 H' ∧ (∀ x ∈ ts.take i, tokOk S x = true) ∧ ∃ acc, H' D = some (.lst acc) ∧ acc.length = i)
            ⟨Same.new nD, by simp, [], upd_same, rfl⟩ (fun i H' _ ⟨s2, _⟩ => SqL.of (s2 _ _ htk1)) ?_ ?_⟩
          · rintro i y H2 hi ⟨s2, ok, acc, hD, hacc⟩
            obtain ⟨x, hx, rfl⟩ : ∃ x, ts[i]? = some x ∧ y = V.str x := by
              rw [List.getElem?_map] at hi
              cases e : ts[i]? with
              | none => rw [e] at hi; cases hi
              | some x => rw [e] at hi; exact ⟨x, rfl, (Option.some.inj hi).symm⟩
            have okx := hall x (List.mem_of_getElem? hx)
            have hi20 : i < ts.length := (List.getElem?_eq_some_iff.mp hx).1
            have more : tokOk S x = true → ∀ x' ∈ ts.take (i + 1), tokOk S x' = true := fun ht x' hx' => by
              rw [List.take_add_one, hx] at hx'
              rcases List.mem_append.mp hx' with z | z
              · exact ok x' z
              · have : x' = x := by simpa using z
                rw [this]; exact ht
            have fin : ∀ (H4 : Hp) (v : V), Same H2 H4 → tokOk S x = true → ∃ acc, H4 D = some (.lst acc) ∧ acc.length < sizeLine ∧ (Same H1 (upd H4 D (.lst (acc ++ [v]))) ∧ (∀ x ∈ ts.take (i + 1), tokOk S x = true) ∧ ∃ acc', upd H4 D (.lst (acc ++ [v])) D = some (.lst acc') ∧ acc'.length = i + 1) := fun H4 v s4 ht => by
              refine ⟨acc, s4 _ _ hD, ?_, fun b o hb => ?_, more ht, _, upd_same, by simp [hacc]⟩
              · have := le_line (n := 20002) (by omega)
                omega
              · rw [upd_ne (ne_of_none hb nD)]
                exact s4 _ _ (s2 _ _ hb)
            refine ⟨rfl, _, rfl, x, rfl, okw_le okx, fun H3 s3 => ⟨_, rfl, ?_⟩⟩
            refine ite2 (fun h3 => ?_) (fun h3 => ?_)
            · refine ⟨_, rfl, (by show 2 ≤ sizeLine; decide), fun p np => ?_⟩
              exact fin _ _ (s3.trans (Same.new np)) (by unfold tokOk; rw [h3]; rfl)
            · have s13 : Same H H3 := (s1.trans s2).trans s3
              have R3 := R.same s13
              obtain ⟨dx3, ob3⟩ := R3.ob
              have h3 : word x = false := by simpa using h3
              have et : tokOk S x = refOk S x := by unfold tokOk; rw [h3]; rfl
              refine ⟨_, rfl, r, dx3, _, rfl, ob3, noMeth (by decide +kernel), _, rfl, r, A, S, x, rfl, R3, S1, okx, fun hb p H4 a b s4 hp => ?_, fun hb => ?_⟩
              · exact fin _ _ (s3.trans s4) (by rw [et]; exact hb)
              · refine (k2 ?_).before (.of s13)
                rw [hw]
                refine List.all_eq_false.mpr ⟨x, List.mem_of_getElem? hx, ?_⟩
                rw [et, hb]
                simp
          · rintro H2 ⟨s2, ok, acc, hD, hacc⟩
            have s12 : Same H H2 := s1.trans s2
            have R2 := R.same s12
            obtain ⟨dx2, ob2⟩ := R2.ob
            have hlen : (wlist S.labels).length < sizeLine := by
              have := le_line (n := 20002) (by omega)
              have := S1.l
              have := S1.p
              have := S1.n
              rw [List.length_map]
              omega
            refine ⟨_, rfl, r, C, dx2, _, _, rfl, ob2, T.cl, T.labels, rfl, .inl ⟨rfl, _, SqL.of R2.ll⟩, _, rfl, A.ll, _, _, rfl, rfl, R2.ll, hlen, ?_⟩
            have nDl : D ≠ A.ll := fun z => by
              have : H1 A.ll ≠ none := by rw [R1.ll]; simp
              exact this (z ▸ nD)
            have R4 := R2.addLabel l
            have b4 : But (A.own r) H (upd H2 A.ll (.lst (wlist S.labels ++ [.str l]))) := (But.of s12).trans (.upd (by simp [Adr.own]))
            refine ⟨_, rfl, _, rfl, _, rfl, D, acc, rfl, .inl ⟨SqL.of (by rw [upd_ne nDl]; exact hD), fun p np => ?_⟩⟩
            refine ⟨(by show 4 ≤ sizeLine; decide), fun q nq => ?_⟩
            refine k1 ?_ q _ _ (b4.trans (.of ((Same.new np).trans (Same.new nq)))) (R4.same ((Same.new np).trans (Same.new nq))) upd_same
            rw [hw]
            refine List.all_eq_true.mpr fun x hx => ok x ?_
            rw [List.take_of_length_le (by simp)]
            exact hx
        · have hb6 : ¬ ts.length ≤ 6 := fun z => by
            have := of_decide_eq_false hb
            rw [List.length_map] at this
            omega
          have hw : wOk S l ts = false := by
            unfold wOk
            rw [h1, h2, decide_eq_false hb6]
            rfl
          exact (k2 hw).before (.of s1)
      · have hw : wOk S l ts = false := by
          unfold wOk
          rw [h1, show (!S.labels.contains l) = false by simpa using h2]
          rfl
        exact ⟨r, A, S, false, rfl, R1, fun hb => Bool.noConfusion hb, fun _ => (k2 hw).before (.of s1)⟩
    · have hw : wOk S l ts = false := by
        unfold wOk
        rw [show word l = false by simpa using h1]
        rfl
      exact ⟨r, A, S, false, rfl, R1, fun hb => Bool.noConfusion hb, fun _ => (k2 hw).before (.of s1)⟩
end
end K7

set_option Elab.async false
set_option linter.all false
set_option maxRecDepth 100000
namespace Rdr
open PySem L2
def lineOk (S : Rd) (ws : List Str) : Bool := decide (2 < ws.length) && wOk S (item ws 1) (ws.drop 2)
def headOk (S : Rd) (ws : List Str) : Bool := decide (3 < ws.length) && ((decide (item ws 2 = "-") || S.near.contains (item ws 2)) && wOk S (item ws 1) (ws.drop 3))
theorem at_item {ws : List Str} {i : Nat} (h : i < ws.length) : atI (wlist ws) (i : Int) = some (.str (item ws i)) := by
  refine atI_nat ?_
  rw [List.getElem?_map, List.getElem?_eq_getElem h]
  unfold item
  rw [List.getD_eq_getElem?_getD, List.getElem?_eq_getElem h]
  rfl
theorem item_mem {ws : List Str} {i : Nat} (h : i < ws.length) : item ws i ∈ ws := by
  unfold item
  rw [List.getD_eq_getElem?_getD, List.getElem?_eq_getElem h]
  exact List.getElem_mem h
end Rdr
namespace K7
open PySem L2 Rdr LcX
abbrev sLine : Stmt := inClass (top 21) 10
abbrev sHead : Stmt := inClass (top 21) 11
/-- a tuple and the reader as it is then, or the line is wrong -/
def Done (C cB : Addr) (Q : VK) (E : XK) (r : Addr) (A : Adr) (H : Hp) (ok : Bool) (S S' : Rd) : Prop :=
  (ok = true → ∀ (p : Addr) (xs : List V) (H' : Hp), But (A.own r) H H' → RdAt C H' r A S' → H' p = some (.tup xs) → Q (.ref p) H') ∧ (ok = false → Bad cB E (A.own r) H ((S.pos : Int) + 1))
structure Words (H : Hp) (a : Addr) (ws : List Str) : Prop where
  at_ : H a = some (.lst (wlist ws))
  n : ws.length ≤ 20000
  ok : ∀ x ∈ ws, okw x = true
def spLine (C cB : Addr) (okF : Rd → List Str → Bool) : Sp := fun vs H Q E => ∃ (r wa : Addr) (A : Adr) (S : Rd) (ws : List Str), vs = [.ref r, .ref wa] ∧ RdAt C H r A S ∧ Fine S ∧ Words H wa ws ∧
  Done C cB Q E r A H (okF S ws) S { S with labels := S.labels ++ [item ws 1] }
section
variable {P : Program} {w : World} {K : PySem.W.Frag} {mg : Str → Option Value} {base : Heap} {C cB fB : Addr} {fdB : FuncData}
theorem sc_line : FnScope ["self", "words", "own"] ["self", "words"] (defScope sLine) := ⟨rfl, rfl, rfl, by decide +kernel, rfl, by decide +kernel, by decide +kernel⟩
theorem ok_line {f : Addr} {fd : FuncData} (F : Fun K "line_statement" "ProgramReader.line_statement" sLine f fd) (T : RT K mg C cB fB fdB) (Gn : MOk P w K mg base 3 C "need" (spNeed C cB)) (Gw : MOk P w K mg base 5 C "write_statement" (spWrite C cB)) :
    FnOk P w K mg base (L2.CX P w) 6 f fd ["self", "words"] (spLine C cB lineOk) := by
  refine F.okX sc_line (fun vs H Q E h => ?_) (fun cdv A outer s H vs Q E hr h => ?_)
  · obtain ⟨r, wa, A, S, ws, rfl, _⟩ := h
    rfl
  · obtain ⟨r, wa, A, S, ws, rfl, R, S1, W, k1, k2⟩ := h
    have hr5 : Room 5 _ := hr
    have hr3 : Room 3 _ := hr.mono (by decide)
    obtain ⟨dx, ob⟩ := R.ob
    refine ⟨_, pss_cons (ps_expr (m_meth (pv 0) T.cl Gn hr3 (passes_call (takes_of rfl rfl rfl rfl) (fun _ _ _ _ z => z)) (pa_cons (pe_cmpR op_gt (pe_callB call_len_seq (by rfl) T.len PySem.boot_len (pa_cons (pv 1) pa_nil)) pe_int (nomark _)) pa_nil)))
      (pss_cons (ps_set (i := 2) sc_line.nd rfl (Or.inl rfl) (pe_ifExp (pt_truth (pe_fld (pv 0) rfl) (by intro _; rfl)) (pe_ix ix_tup (pe_fld (pv 0) rfl) (pe_un un_neg pe_int) (fun _ _ => rfl)) pe_str))
      (pss_one (ps_ret (m_meth (pv 0) T.cl Gw hr5 (passes_call (takes_of rfl rfl rfl rfl) (fun _ _ _ _ z => z)) (pa_cons (pe_ix ix_list (pv 1) pe_int (fun _ _ => rfl)) (pa_cons (pv 2) (pa_cons (pe_slice sl_list (pv 1) (po_some pe_int) po_none) pa_nil))))))), ?_⟩
    refine ⟨_, rfl, r, dx, _, rfl, ob, noMeth (by decide +kernel), _, rfl, wa, _, rfl, .inl (SqL.of W.at_), _, _, rfl, rfl, r, A, S, _, rfl, R, fun hb => ?_, fun hb => k2 ?_⟩
    · have h2 : 2 < ws.length := by
        have := of_decide_eq_true hb
        rw [List.length_map] at this
        omega
      have e0 : lineOk S ws = wOk S (item ws 1) (ws.drop 2) := by
        unfold lineOk
        rw [decide_eq_true h2]
        rfl
      have fin : ∀ (kd : Str) (p : Addr), H p = none → spWrite C cB [.ref r, .str (item ws 1), .str kd, .ref p] (upd H p (.lst (wlist (ws.drop 2)))) Q E := fun kd p np => by
        have sp := Same.new (o := .lst (wlist (ws.drop 2))) np
        refine ⟨r, p, A, S, _, kd, ws.drop 2, rfl, R.same sp, S1, upd_same, W.ok _ (item_mem (by omega)), ?_, fun x hx => W.ok x (List.mem_of_mem_drop hx), fun hw q xs H' b' R' hq => ?_, fun hw => (k2 (by rw [e0]; exact hw)).before (.of sp)⟩
        · have := W.n
          rw [List.length_drop]
          omega
        · exact k1 (by rw [e0]; exact hw) q xs H' ((But.of sp).trans b') R' hq
      refine ⟨_, rfl, r, C, dx, _, _, rfl, ob, T.cl, T.near, rfl, _, .inr (.inl ⟨_, SqT.of R.nr.1, rfl⟩), ?_⟩
      refine ite2 (fun h3 => ?_) (fun h3 => ?_)
      · obtain ⟨z, hz⟩ : ∃ z, S.near.getLast? = some z := by
          cases e : S.near.getLast? with
          | some z => exact ⟨z, rfl⟩
          | none =>
            rw [List.getLast?_eq_none_iff.mp e] at h3
            simp at h3
        have hl : atI (wlist S.near) (-1) = some (V.str z) := by
          obtain ⟨ys, hy⟩ := List.getLast?_eq_some_iff.mp hz
          have hw : wlist S.near = wlist ys ++ [V.str z] := by rw [hy]; simp [wlist]
          rw [hw]
          exact atI_last _ _
        refine ⟨_, rfl, r, C, dx, _, _, rfl, ob, T.cl, T.near, rfl, _, rfl, A.nr, _, _, _, rfl, rfl, SqT.of R.nr.1, hl, ?_⟩
        refine ⟨_, rfl, r, dx, _, rfl, ob, noMeth (by decide +kernel), _, rfl, wa, _, _, _, rfl, rfl, SqL.of W.at_, at_item (i := 1) (by omega), _, rfl, _, rfl, 2, rfl, wa, _, rfl, SqL.of W.at_, fun p np => ?_⟩
        have ec : cutV (wlist ws) (some 2) none = wlist (ws.drop 2) := by rw [show ((2 : Int)) = ((2 : Nat) : Int) from rfl, cut_from]; exact (List.map_drop ..).symm
        rw [ec]
        exact fin z p np
      · refine ⟨_, rfl, r, dx, _, rfl, ob, noMeth (by decide +kernel), _, rfl, wa, _, _, _, rfl, rfl, SqL.of W.at_, at_item (i := 1) (by omega), _, rfl, _, rfl, 2, rfl, wa, _, rfl, SqL.of W.at_, fun p np => ?_⟩
        have ec : cutV (wlist ws) (some 2) none = wlist (ws.drop 2) := by rw [show ((2 : Int)) = ((2 : Nat) : Int) from rfl, cut_from]; exact (List.map_drop ..).symm
        rw [ec]
        exact fin _ p np
    · have h2 : ¬ 2 < ws.length := fun z => by
        have := of_decide_eq_false hb
        rw [List.length_map] at this
        omega
      unfold lineOk
      rw [decide_eq_false h2]
      rfl
theorem sc_head : FnScope ["self", "words", "kind"] ["self", "words"] (defScope sHead) := ⟨rfl, rfl, rfl, by decide +kernel, rfl, by decide +kernel, by decide +kernel⟩
theorem ok_head {f : Addr} {fd : FuncData} (F : Fun K "head_statement" "ProgramReader.head_statement" sHead f fd) (T : RT K mg C cB fB fdB) (Gn : MOk P w K mg base 3 C "need" (spNeed C cB)) (Gw : MOk P w K mg base 5 C "write_statement" (spWrite C cB)) :
    FnOk P w K mg base (L2.CX P w) 6 f fd ["self", "words"] (spLine C cB headOk) := by
  refine F.okX sc_head (fun vs H Q E h => ?_) (fun cdv A outer s H vs Q E hr h => ?_)
  · obtain ⟨r, wa, A, S, ws, rfl, _⟩ := h
    rfl
  · obtain ⟨r, wa, A, S, ws, rfl, R, S1, W, k1, k2⟩ := h
    have hr5 : Room 5 _ := hr
    have hr3 : Room 3 _ := hr.mono (by decide)
    obtain ⟨dx, ob⟩ := R.ob
    refine ⟨_, pss_cons (ps_expr (m_meth (pv 0) T.cl Gn hr3 (passes_call (takes_of rfl rfl rfl rfl) (fun _ _ _ _ z => z)) (pa_cons (pe_cmpR op_gt (pe_callB call_len_seq (by rfl) T.len PySem.boot_len (pa_cons (pv 1) pa_nil)) pe_int (nomark _)) pa_nil)))
      (pss_cons (ps_expr (m_meth (pv 0) T.cl Gn hr3 (passes_call (takes_of rfl rfl rfl rfl) (fun _ _ _ _ z => z)) (pa_cons (pe_or (pe_cmpR op_eq (pe_ix ix_list (pv 1) pe_int (fun _ _ => rfl)) pe_str (nomark _)) (pe_one (pe_cmpR op_in_seq (pe_ix ix_list (pv 1) pe_int (fun _ _ => rfl)) (pe_fld (pv 0) rfl) (by rfl)))) pa_nil)))
      (pss_cons (ps_set (i := 2) sc_head.nd rfl (Or.inl rfl) (pe_ifExp (pt_cmpR op_eq (pe_ix ix_list (pv 1) pe_int (fun _ _ => rfl)) pe_str (nomark _)) pe_str (pe_ix ix_list (pv 1) pe_int (fun _ _ => rfl))))
      (pss_one (ps_ret (m_meth (pv 0) T.cl Gw hr5 (passes_call (takes_of rfl rfl rfl rfl) (fun _ _ _ _ z => z)) (pa_cons (pe_ix ix_list (pv 1) pe_int (fun _ _ => rfl)) (pa_cons (pv 2) (pa_cons (pe_slice sl_list (pv 1) (po_some pe_int) po_none) pa_nil)))))))), ?_⟩
    refine ⟨_, rfl, r, dx, _, rfl, ob, noMeth (by decide +kernel), _, rfl, wa, _, rfl, .inl (SqL.of W.at_), _, _, rfl, rfl, r, A, S, _, rfl, R, fun hb => ?_, fun hb => k2 ?_⟩
    · have h2 : 3 < ws.length := by
        have := of_decide_eq_true hb
        rw [List.length_map] at this
        omega
      have at2 : atI (wlist ws) 2 = some (.str (item ws 2)) := at_item (i := 2) (by omega)
      have fin : wOk S (item ws 1) (ws.drop 3) = headOk S ws → ∀ (kd : Str) (p : Addr), H p = none → spWrite C cB [.ref r, .str (item ws 1), .str kd, .ref p] (upd H p (.lst (wlist (ws.drop 3)))) Q E := fun e0 kd p np => by
        have sp := Same.new (o := .lst (wlist (ws.drop 3))) np
        refine ⟨r, p, A, S, _, kd, ws.drop 3, rfl, R.same sp, S1, upd_same, W.ok _ (item_mem (by omega)), ?_, fun x hx => W.ok x (List.mem_of_mem_drop hx), fun hw q xs H' b' R' hq => ?_, fun hw => (k2 (by rw [← e0]; exact hw)).before (.of sp)⟩
        · have := W.n
          rw [List.length_drop]
          omega
        · exact k1 (by rw [← e0]; exact hw) q xs H' ((But.of sp).trans b') R' hq
      have ec : cutV (wlist ws) (some 3) none = wlist (ws.drop 3) := by rw [show ((3 : Int)) = ((3 : Nat) : Int) from rfl, cut_from]; exact (List.map_drop ..).symm
      have en : (if false = true then !inV (V.str (item ws 2)) (wlist S.near) else inV (V.str (item ws 2)) (wlist S.near)) = S.near.contains (item ws 2) := in_wlist
      refine ⟨_, rfl, r, dx, _, rfl, ob, noMeth (by decide +kernel), _, rfl, wa, _, _, _, rfl, rfl, SqL.of W.at_, at2, rfl, _, rfl, ?_⟩
      by_cases h4 : item ws 2 = "-"
      · rw [decide_eq_true (congrArg V.str h4)]
        refine iteT ?_
        have e0 : wOk S (item ws 1) (ws.drop 3) = headOk S ws := by
          unfold headOk
          rw [decide_eq_true h2, decide_eq_true h4]
          simp
        refine ⟨r, A, S, true, rfl, R, fun _ => ?_, fun hb => Bool.noConfusion hb⟩
        refine ⟨_, rfl, wa, _, _, _, rfl, rfl, SqL.of W.at_, at2, rfl, _, rfl, ?_⟩
        rw [decide_eq_true (congrArg V.str h4)]
        refine iteT ?_
        refine ⟨_, rfl, r, dx, _, rfl, ob, noMeth (by decide +kernel), _, rfl, wa, _, _, _, rfl, rfl, SqL.of W.at_, at_item (i := 1) (by omega), _, rfl, _, rfl, 3, rfl, wa, _, rfl, SqL.of W.at_, fun p np => ?_⟩
        rw [ec]
        exact fin e0 _ p np
      · have h4' : ¬ (V.str (item ws 2) = V.str "-") := fun z => h4 (V.str.inj z)
        rw [decide_eq_false h4']
        refine iteF ?_
        refine ⟨_, rfl, wa, _, _, _, rfl, rfl, SqL.of W.at_, at2, _, rfl, r, C, dx, _, _, rfl, ob, T.cl, T.near, rfl, _, _, rfl, .inr (SqT.of R.nr.1), rfl, flat_wlist, ?_⟩
        rw [en]
        refine ⟨r, A, S, _, rfl, R, fun hb3 => ?_, fun hb3 => k2 ?_⟩
        · have e0 : wOk S (item ws 1) (ws.drop 3) = headOk S ws := by
            unfold headOk
            rw [decide_eq_true h2, hb3]
            simp
          refine ⟨_, rfl, wa, _, _, _, rfl, rfl, SqL.of W.at_, at2, rfl, _, rfl, ?_⟩
          rw [decide_eq_false h4']
          refine iteF ?_
          refine ⟨_, rfl, wa, _, _, _, rfl, rfl, SqL.of W.at_, at2, ?_⟩
          refine ⟨_, rfl, r, dx, _, rfl, ob, noMeth (by decide +kernel), _, rfl, wa, _, _, _, rfl, rfl, SqL.of W.at_, at_item (i := 1) (by omega), _, rfl, _, rfl, 3, rfl, wa, _, rfl, SqL.of W.at_, fun p np => ?_⟩
          rw [ec]
          exact fin e0 _ p np
        · unfold headOk
          rw [hb3, decide_eq_false h4]
          simp
    · have h2 : ¬ 3 < ws.length := fun z => by
        have := of_decide_eq_false hb
        rw [List.length_map] at this
        omega
      unfold headOk
      rw [decide_eq_false h2]
      rfl
end
end K7

set_option Elab.async false
set_option linter.all false
set_option maxRecDepth 100000
namespace Rdr
open PySem L2
/-- further on in the lines, perhaps with more labels, all else as it was -/
structure Adv (S S' : Rd) : Prop where
  eq : S' = { S with pos := S'.pos, labels := S'.labels }
  le : S.pos ≤ S'.pos
  in_ : S'.pos ≤ S.ls.length
  lb : S'.labels.length ≤ S'.pos
theorem Adv.refl {S : Rd} (h : Fine S) : Adv S S := ⟨rfl, Nat.le_refl _, h.p, h.l⟩
theorem Adv.trans {S S1 S2 : Rd} (a : Adv S S1) (b : Adv S1 S2) : Adv S S2 := by
  have e : S2 = { S with pos := S2.pos, labels := S2.labels } := by
    have h1 := b.eq
    rw [a.eq] at h1
    exact h1
  have l : S1.ls.length = S.ls.length := by rw [a.eq]
  exact ⟨e, Nat.le_trans a.le b.le, by have := b.in_; omega, b.lb⟩
theorem Adv.fine {S S' : Rd} (a : Adv S S') (h : Fine S) : Fine S' := by
  rw [a.eq]
  exact ⟨a.in_, h.n, h.ws, h.k, h.c, h.f, h.cf, h.ff, h.nf, a.lb, h.w, h.q, h.ck, h.kw, h.kn⟩
theorem Adv.step {S : Rd} (h : Fine S) (hp : S.pos < S.ls.length) : Adv S S.on := ⟨rfl, Nat.le_succ _, hp, Nat.le_succ_of_le h.l⟩
def ifR : Nat → Int → Rd → List Str → Res Rd
  | 0, _, S, _ => .bad ((S.pos : Int) + 1)
  | j + 1, depth, S, ws => ifM (fun S => blockM (stmM j (depth + 1)) (depth + 1) (S.ls.length - S.pos + 1) 0 S) S ws depth
theorem stmM_eq {j : Nat} {d : Int} {S : Rd} {ws : List Str} : stmM j d S ws = if item ws 0 = "if" then ifR j d S ws else simpleM S ws := by
  cases j <;> rfl
def simpleOk (S : Rd) (ws : List Str) : Bool := if item ws 0 = "line" then lineOk S ws else if item ws 0 = "head" then headOk S ws else decide (item ws 0 = "set") && (decide (ws.length = 3) && cellOk S (item ws 1) (item ws 2))
def simpleTo (S : Rd) (ws : List Str) : Rd := if item ws 0 = "line" ∨ item ws 0 = "head" then { S with labels := S.labels ++ [item ws 1], pos := S.pos + 1 } else S.on
theorem simpleM_eq {S : Rd} {ws : List Str} : simpleM S ws = if simpleOk S ws = true then .ok (simpleTo S ws) else .bad ((S.pos : Int) + 1) := by
  unfold simpleM simpleOk simpleTo
  by_cases h1 : item ws 0 = "line"
  · simp only [if_pos h1, if_pos (Or.inl h1 : item ws 0 = "line" ∨ item ws 0 = "head")]
    rw [writeM_eq, need_need]
    show (S.need (lineOk S ws) _).bind _ = _
    rw [need_eq]
    cases lineOk S ws <;> rfl
  · by_cases h2 : item ws 0 = "head"
    · simp only [if_neg h1, if_pos h2, if_pos (Or.inr h2 : item ws 0 = "line" ∨ item ws 0 = "head")]
      rw [writeM_eq, need_need, need_need, Bool.and_assoc]
      show (S.need (headOk S ws) _).bind _ = _
      rw [need_eq]
      cases headOk S ws <;> rfl
    · have h3 : ¬ (item ws 0 = "line" ∨ item ws 0 = "head") := fun z => z.elim h1 h2
      simp only [if_neg h1, if_neg h2, if_neg h3]
      unfold worthM
      rw [need_need, need_need, need_eq]
      unfold cellOk
      simp only [Bool.and_assoc]
      generalize (decide (item ws 0 = "set") && (decide (ws.length = 3) && (S.cells.contains (item ws 1) && (digits (S.worths.getD (S.cells.findIdx (· = item ws 1)) 0)).contains (item ws 2)))) = b
      cases b <;> rfl
end Rdr
namespace K7
open PySem L2 Rdr LcX
abbrev sStm : Stmt := inClass (top 21) 8
/-- a tuple and the reader further on, or an error -/
def Comes (C cB : Addr) (Q : VK) (E : XK) (r : Addr) (A : Adr) (H : Hp) (S : Rd) (more : Nat) (m : Res Rd) : Prop := match m with
  | .ok S' => ∀ (p : Addr) (xs : List V) (H' : Hp), But (A.own r) H H' → RdAt C H' r A S' → Adv S S' → S.pos + more ≤ S'.pos → H' p = some (.tup xs) → Q (.ref p) H'
  | .bad n => Bad cB E (A.own r) H n
def spStm (C cB : Addr) (more : Nat) (j : Nat) (m : Nat → Int → Rd → List Str → Res Rd) : Sp := fun vs H Q E => ∃ (r wa : Addr) (A : Adr) (S : Rd) (ws : List Str) (d ifs : Int), vs = [.ref r, .ref wa, .int d, .int ifs] ∧ ifs = 2 - (j : Int) ∧ 0 ≤ d ∧ d + (j : Int) ≤ 50 ∧ j ≤ 2 ∧
  RdAt C H r A S ∧ Fine S ∧ Words H wa ws ∧ wa ∉ A.own r ∧ S.pos < S.ls.length ∧ ws ≠ [] ∧ Comes C cB Q E r A H S more (m j d S ws)
section
variable {P : Program} {w : World} {K : PySem.W.Frag} {mg : Str → Option Value} {base : Heap} {C cB fB : Addr} {fdB : FuncData}
theorem sc_stm : FnScope ["self", "words", "depth", "ifs", "statement"] ["self", "words", "depth", "ifs"] (defScope sStm) := ⟨rfl, rfl, rfl, by decide +kernel, rfl, by decide +kernel, by decide +kernel⟩
theorem ok_stm {f : Addr} {fd : FuncData} {k j : Nat} (hk : 6 ≤ k) (F : Fun K "read_statement" "ProgramReader.read_statement" sStm f fd) (T : RT K mg C cB fB fdB) (Gn : MOk P w K mg base 3 C "need" (spNeed C cB)) (Gl : MOk P w K mg base 6 C "line_statement" (spLine C cB lineOk)) (Gh : MOk P w K mg base 6 C "head_statement" (spLine C cB headOk))
    (Gc : MOk P w K mg base 4 C "cell_worth" (spCellWorth C cB)) (Gi : MOk P w K mg base k C "read_if" (spStm C cB 1 j ifR)) : FnOk P w K mg base (L2.CX P w) (k + 1) f fd ["self", "words", "depth", "ifs"] (spStm C cB 1 j stmM) := by
  refine F.okX sc_stm (fun vs H Q E h => ?_) (fun cdv A outer s H vs Q E hr h => ?_)
  · obtain ⟨r, wa, A, S, ws, d, ifs, rfl, _⟩ := h
    rfl
  · obtain ⟨r, wa, A, S, ws, d, ifs, rfl, hifs, d0, d1, hj, R, S1, W, hwa, hpos, hne, kk⟩ := h
    have hr3 : Room 3 _ := hr.mono (by omega)
    have hr4 : Room 4 _ := hr.mono (by omega)
    have hr6 : Room 6 _ := hr.mono (by omega)
    obtain ⟨dx, ob⟩ := R.ob
    refine ⟨_, pss_cons (ps_if (pt_cmpR op_eq (pe_ix ix_list (pv 1) pe_int (fun _ _ => rfl)) pe_str (nomark _)) (pss_one (ps_ret (m_meth (pv 0) T.cl Gi hr (passes_call (takes_of rfl rfl rfl rfl) (fun _ _ _ _ z => z)) (pa_cons (pv 1) (pa_cons (pv 2) (pa_cons (pv 3) pa_nil)))))) pss_nil)
      (pss_cons (ps_if (pt_cmpR op_eq (pe_ix ix_list (pv 1) pe_int (fun _ _ => rfl)) pe_str (nomark _))
          (pss_one (ps_set (i := 4) sc_stm.nd rfl (Or.inl rfl) (m_meth (pv 0) T.cl Gl hr6 (passes_call (takes_of rfl rfl rfl rfl) (fun _ _ _ _ z => z)) (pa_cons (pv 1) pa_nil))))
          (pss_one (ps_if (pt_cmpR op_eq (pe_ix ix_list (pv 1) pe_int (fun _ _ => rfl)) pe_str (nomark _))
            (pss_one (ps_set (i := 4) sc_stm.nd rfl (Or.inl rfl) (m_meth (pv 0) T.cl Gh hr6 (passes_call (takes_of rfl rfl rfl rfl) (fun _ _ _ _ z => z)) (pa_cons (pv 1) pa_nil))))
            (pss_cons (ps_expr (m_meth (pv 0) T.cl Gn hr3 (passes_call (takes_of rfl rfl rfl rfl) (fun _ _ _ _ z => z)) (pa_cons (pe_and (pe_cmpR op_eq (pe_ix ix_list (pv 1) pe_int (fun _ _ => rfl)) pe_str (nomark _)) (pe_one (pe_cmpR op_eq (pe_callB call_len_seq (by rfl) T.len PySem.boot_len (pa_cons (pv 1) pa_nil)) pe_int (nomark _)))) pa_nil)))
            (pss_one (ps_set (i := 4) sc_stm.nd rfl (Or.inl rfl) (pe_tup (pa_cons pe_str (StX.pa_star (m_meth (pv 0) T.cl Gc hr4 (passes_call (takes_of rfl rfl rfl rfl) (fun _ _ _ _ z => z)) (pa_cons (pe_ix ix_list (pv 1) pe_int (fun _ _ => rfl)) (pa_cons (pe_ix ix_list (pv 1) pe_int (fun _ _ => rfl)) pa_nil))) pa_nil)))))))))
      (pss_cons (ps_fldaug (pv 0) pe_int in_add)
      (pss_one (ps_ret (pv 4))))), ?_⟩
    have h0 : 0 < ws.length := List.length_pos_iff.mpr hne
    have at0 : atI (wlist ws) 0 = some (.str (item ws 0)) := at_item (i := 0) h0
    have deq : ∀ x : Str, decide (V.str (item ws 0) = V.str x) = decide (item ws 0 = x) := fun x => by
      by_cases h : item ws 0 = x
      · rw [decide_eq_true h, decide_eq_true (congrArg V.str h)]
      · rw [decide_eq_false h, decide_eq_false (fun z => h (V.str.inj z))]
    refine ⟨_, rfl, wa, _, _, _, rfl, rfl, SqL.of W.at_, at0, rfl, _, rfl, ?_⟩
    rw [stmM_eq] at kk
    rw [deq]
    by_cases hif : item ws 0 = "if"
    · rw [decide_eq_true hif]
      rw [if_pos hif] at kk
      refine iteT ?_
      exact ⟨_, rfl, r, dx, _, rfl, ob, noMeth (by decide +kernel), _, rfl, _, rfl, _, rfl, r, wa, A, S, ws, d, ifs, rfl, hifs, d0, d1, hj, R, S1, W, hwa, hpos, hne, kk⟩
    · rw [decide_eq_false hif]
      rw [if_neg hif, simpleM_eq] at kk
      have kok : simpleOk S ws = true → ∀ (p : Addr) (xs : List V) (H' : Hp), But (A.own r) H H' → RdAt C H' r A (simpleTo S ws) → H' p = some (.tup xs) → Q (.ref p) H' := fun hb p xs H' b' R' hp' => by
        rw [if_pos hb] at kk
        refine kk p xs H' b' R' ?_ ?_ hp'
        · unfold simpleTo
          split
          · exact ⟨rfl, Nat.le_succ _, hpos, by have := S1.l; show (S.labels ++ [item ws 1]).length ≤ S.pos + 1; rw [List.length_append]; show S.labels.length + 1 ≤ S.pos + 1; omega⟩
          · exact Adv.step S1 hpos
        · unfold simpleTo
          split
          · exact Nat.le_refl _
          · exact Nat.le_refl _
      have kbad : simpleOk S ws = false → Bad cB E (A.own r) H ((S.pos : Int) + 1) := fun hb => by
        rw [if_neg (by rw [hb]; simp)] at kk
        exact kk
      refine iteF ?_
      refine ⟨_, rfl, wa, _, _, _, rfl, rfl, SqL.of W.at_, at0, rfl, _, rfl, ?_⟩
      rw [deq]
      by_cases hl : item ws 0 = "line"
      · rw [decide_eq_true hl]
        refine iteT ?_
        have eo : simpleOk S ws = lineOk S ws := by unfold simpleOk; rw [if_pos hl]
        refine ⟨_, rfl, r, dx, _, rfl, ob, noMeth (by decide +kernel), _, rfl, r, wa, A, S, ws, rfl, R, S1, W, fun hb p xs H1 b1 R1 hp1 => ?_, fun hb => kbad (by rw [eo]; exact hb)⟩
        obtain ⟨dx1, ob1⟩ := R1.ob
        refine ⟨_, rfl, r, C, dx1, _, _, rfl, ob1, T.cl, T.at_, rfl, _, _, rfl, rfl, dx1, _, ob1, (by show 10 < 1000; decide), _, rfl, ?_⟩
        refine kok (by rw [eo]; exact hb) p xs _ (b1.trans (.upd (by simp [Adr.own]))) ?_ (by rw [upd_ne (ne_of hp1 ob1 (by intro z; cases z))]; exact hp1)
        have g := R1.goTo (dx := dx1) (S.pos + 1)
        have es : simpleTo S ws = { S with labels := S.labels ++ [item ws 1], pos := S.pos + 1 } := by unfold simpleTo; rw [if_pos (Or.inl hl)]
        rw [es]
        exact g
      · rw [decide_eq_false hl]
        refine iteF ?_
        refine ⟨_, rfl, wa, _, _, _, rfl, rfl, SqL.of W.at_, at0, rfl, _, rfl, ?_⟩
        rw [deq]
        by_cases hh : item ws 0 = "head"
        · rw [decide_eq_true hh]
          refine iteT ?_
          have eo : simpleOk S ws = headOk S ws := by unfold simpleOk; rw [if_neg hl, if_pos hh]
          refine ⟨_, rfl, r, dx, _, rfl, ob, noMeth (by decide +kernel), _, rfl, r, wa, A, S, ws, rfl, R, S1, W, fun hb p xs H1 b1 R1 hp1 => ?_, fun hb => kbad (by rw [eo]; exact hb)⟩
          obtain ⟨dx1, ob1⟩ := R1.ob
          refine ⟨_, rfl, r, C, dx1, _, _, rfl, ob1, T.cl, T.at_, rfl, _, _, rfl, rfl, dx1, _, ob1, (by show 10 < 1000; decide), _, rfl, ?_⟩
          refine kok (by rw [eo]; exact hb) p xs _ (b1.trans (.upd (by simp [Adr.own]))) ?_ (by rw [upd_ne (ne_of hp1 ob1 (by intro z; cases z))]; exact hp1)
          have g := R1.goTo (dx := dx1) (S.pos + 1)
          have es : simpleTo S ws = { S with labels := S.labels ++ [item ws 1], pos := S.pos + 1 } := by unfold simpleTo; rw [if_pos (Or.inr hh)]
          rw [es]
          exact g
        · rw [decide_eq_false hh]
          refine iteF ?_
          have eo : simpleOk S ws = (decide (item ws 0 = "set") && (decide (ws.length = 3) && cellOk S (item ws 1) (item ws 2))) := by unfold simpleOk; rw [if_neg hl, if_neg hh]
          have es : simpleTo S ws = S.on := by unfold simpleTo; rw [if_neg (fun z => z.elim hl hh)]
          refine ⟨_, rfl, r, dx, _, rfl, ob, noMeth (by decide +kernel), _, rfl, wa, _, _, _, rfl, rfl, SqL.of W.at_, at0, rfl, _, rfl, ?_⟩
          rw [deq]
          by_cases hs : item ws 0 = "set"
          · rw [decide_eq_true hs]
            refine iteT ?_
            refine ⟨_, rfl, wa, _, rfl, .inl (SqL.of W.at_), rfl, r, A, S, _, rfl, R, fun hb => ?_, fun hb => kbad ?_⟩
            · have h3 : ws.length = 3 := by
                have := V.int.inj (of_decide_eq_true hb)
                rw [List.length_map] at this
                omega
              have eo2 : simpleOk S ws = cellOk S (item ws 1) (item ws 2) := by
                rw [eo, decide_eq_true hs, decide_eq_true h3]
                rfl
              refine ⟨_, rfl, r, dx, _, rfl, ob, noMeth (by decide +kernel), _, rfl, wa, _, _, _, rfl, rfl, SqL.of W.at_, at_item (i := 1) (by omega), _, rfl, wa, _, _, _, rfl, rfl, SqL.of W.at_, at_item (i := 2) (by omega), r, A, S, _, _, rfl, R, S1, fun hb2 p H1 a b s1 hp => ?_, fun hb2 => kbad (by rw [eo2]; exact hb2)⟩
              refine ⟨p, _, rfl, .inl (SqT.of hp), (by show 3 ≤ sizeLine; decide), fun q nq => ?_⟩
              have R1 := R.same (s1.trans (Same.new (o := .tup ([V.str "set"] ++ ([a, b] ++ []))) nq))
              obtain ⟨dx1, ob1⟩ := R1.ob
              refine ⟨_, rfl, r, C, dx1, _, _, rfl, ob1, T.cl, T.at_, rfl, _, _, rfl, rfl, dx1, _, ob1, (by show 10 < 1000; decide), _, rfl, ?_⟩
              have hq1 : (upd H1 q (.tup ([V.str "set"] ++ ([a, b] ++ [])))) q = some (.tup ([V.str "set"] ++ ([a, b] ++ []))) := upd_same
              refine kok (by rw [eo2]; exact hb2) q _ _ ((But.of (s1.trans (Same.new nq))).trans (.upd (by simp [Adr.own]))) ?_ (by rw [upd_ne (ne_of hq1 ob1 (by intro z; cases z))]; exact hq1)
              rw [es]
              exact R1.goTo (dx := dx1) (S.pos + 1)
            · have h3 : ¬ ws.length = 3 := fun z => by
                have := of_decide_eq_false hb
                exact this (by rw [List.length_map, z]; rfl)
              rw [eo, decide_eq_false h3]
              simp
          · rw [decide_eq_false hs]
            refine iteF ?_
            exact ⟨r, A, S, false, rfl, R, fun hb => Bool.noConfusion hb, fun _ => kbad (by rw [eo, decide_eq_false hs]; rfl)⟩
end
end K7

set_option Elab.async false
set_option linter.all false
set_option maxRecDepth 100000
namespace Rdr
open PySem L2
def testOk (S : Rd) (ws : List Str) : Bool := decide (ws.length = 4) && (if item ws 2 = "=" then cellOk S (item ws 1) (item ws 3) else (decide (item ws 2 = "is") && word (item ws 3)) && refOk S (item ws 1))
def ifRest (block : Rd → Res Rd) (S : Rd) (d : Int) : Res Rd := (block S.on).bind fun S1 => if S1.wordsAt d = [("else" : Str)] then block S1.on else .ok S1
theorem ifM_eq {block : Rd → Res Rd} {S : Rd} {ws : List Str} {d : Int} : ifM block S ws d = if testOk S ws = true then ifRest block S d else .bad ((S.pos : Int) + 1) := by
  unfold ifM testOk
  by_cases h4 : ws.length = 4
  · rw [decide_eq_true h4, need_eq, if_pos rfl, Bool.true_and]
    by_cases he : item ws 2 = "="
    · rw [if_pos he, if_pos he]
      unfold worthM
      rw [need_need, need_eq]
      show (if cellOk S (item ws 1) (item ws 3) = true then Res.ok () else Res.bad ((S.pos : Int) + 1)).bind _ = _
      cases cellOk S (item ws 1) (item ws 3) <;> rfl
    · rw [if_neg he, if_neg he]
      show (S.need _ (S.need (refOk S (item ws 1)) (Res.ok ()))).bind _ = _
      rw [need_need, need_eq]
      cases (decide (item ws 2 = "is") && word (item ws 3)) && refOk S (item ws 1) <;> rfl
  · rw [decide_eq_false h4]
    rfl
end Rdr
namespace K7
open PySem L2 Rdr LcX
abbrev sIf : Stmt := inClass (top 21) 9
def spBlock (C cB : Addr) (j : Nat) : Sp := fun vs H Q E => ∃ (r : Addr) (A : Adr) (S : Rd) (d ifs : Int), vs = [.ref r, .int d, .int ifs] ∧ ifs = 2 - (j : Int) ∧ 0 ≤ d ∧ d + (j : Int) ≤ 50 ∧ j ≤ 2 ∧ RdAt C H r A S ∧ Fine S ∧ Comes C cB Q E r A H S 0 (blockOf j d S)
def spBelow (C cB : Addr) : Nat → Sp
  | 0 => fun _ _ _ _ => False
  | j + 1 => spBlock C cB j
theorem Comes.before {C cB : Addr} {Q : VK} {E : XK} {r : Addr} {A : Adr} {H H1 : Hp} {S S1 : Rd} {a b : Nat} {m : Res Rd} (c : Comes C cB Q E r A H S a m) (k : But (A.own r) H H1) (v : Adv S S1) (hb : S.pos + a ≤ S1.pos + b) : Comes C cB Q E r A H1 S1 b m := by
  cases m with
  | bad n => exact Bad.before c k
  | ok S' => exact fun p xs H' b' R' v' h' hp => c p xs H' (k.trans b') R' (v.trans v') (by omega) hp
section
variable {P : Program} {w : World} {K : PySem.W.Frag} {mg : Str → Option Value} {base : Heap} {C cB fB : Addr} {fdB : FuncData}
theorem sc_if : FnScope ["self", "words", "depth", "ifs", "test", "then", "other"] ["self", "words", "depth", "ifs"] (defScope sIf) := ⟨rfl, rfl, rfl, by decide +kernel, rfl, by decide +kernel, by decide +kernel⟩
theorem ok_if {f : Addr} {fd : FuncData} {k j : Nat} (hk : 4 ≤ k) (F : Fun K "read_if" "ProgramReader.read_if" sIf f fd) (T : RT K mg C cB fB fdB) (TC : RC mg) (Gn : MOk P w K mg base 3 C "need" (spNeed C cB)) (Ga : MOk P w K mg base 1 C "words_at" (spWordsAt C)) (Gw : DOk P w K mg base 1 "is_word" spWord)
    (Gc : MOk P w K mg base 4 C "cell_worth" (spCellWorth C cB)) (Gr : MOk P w K mg base 4 C "ref_of" (spRefOf C cB)) (Gb : MOk P w K mg base k C "read_block" (spBelow C cB j)) : FnOk P w K mg base (L2.CX P w) (k + 1) f fd ["self", "words", "depth", "ifs"] (spStm C cB 1 j ifR) := by
  obtain ⟨tI, cI⟩ := TC.MOST_IFS_IN_ONE_ANOTHER
  refine F.okX sc_if (fun vs H Q E h => ?_) (fun cdv A outer s H vs Q E hr h => ?_)
  · obtain ⟨r, wa, A, S, ws, d, ifs, rfl, _⟩ := h
    rfl
  · obtain ⟨r, wa, A, S, ws, d, ifs, rfl, hifs, d0, d1, hj, R, S1, W, hwa, hpos, hne, kk⟩ := h
    have hr1 : Room 1 _ := hr.mono (by omega)
    have hr3 : Room 3 _ := hr.mono (by omega)
    have hr4 : Room 4 _ := hr.mono (by omega)
    obtain ⟨dx, ob⟩ := R.ob
    refine ⟨_, pss_cons (ps_expr (m_meth (pv 0) T.cl Gn hr3 (passes_call (takes_of rfl rfl rfl rfl) (fun _ _ _ _ z => z)) (pa_cons (pe_and (pe_cmpR op_lt (pv 3) (pe_glob (v := .int 2) rfl cI ⟨_, rfl⟩) (nomark _)) (pe_one (pe_cmpR op_eq (pe_callB call_len_seq (by rfl) T.len PySem.boot_len (pa_cons (pv 1) pa_nil)) pe_int (nomark _)))) pa_nil)))
      (pss_cons (ps_if (pt_cmpR op_eq (pe_ix ix_list (pv 1) pe_int (fun _ _ => rfl)) pe_str (nomark _))
          (pss_one (ps_set (i := 4) sc_if.nd rfl (Or.inl rfl) (pe_tup (pa_cons pe_str (StX.pa_star (m_meth (pv 0) T.cl Gc hr4 (passes_call (takes_of rfl rfl rfl rfl) (fun _ _ _ _ z => z)) (pa_cons (pe_ix ix_list (pv 1) pe_int (fun _ _ => rfl)) (pa_cons (pe_ix ix_list (pv 1) pe_int (fun _ _ => rfl)) pa_nil))) pa_nil)))))
          (pss_cons (ps_expr (m_meth (pv 0) T.cl Gn hr3 (passes_call (takes_of rfl rfl rfl rfl) (fun _ _ _ _ z => z)) (pa_cons (pe_and (pe_cmpR op_eq (pe_ix ix_list (pv 1) pe_int (fun _ _ => rfl)) pe_str (nomark _)) (pe_one (f_call Gw hr1 passL (pa_cons (pe_ix ix_list (pv 1) pe_int (fun _ _ => rfl)) pa_nil)))) pa_nil)))
          (pss_one (ps_set (i := 4) sc_if.nd rfl (Or.inl rfl) (pe_tup (pa_cons pe_str (pa_cons (m_meth (pv 0) T.cl Gr hr4 (passes_call (takes_of rfl rfl rfl rfl) (fun _ _ _ _ z => z)) (pa_cons (pe_ix ix_list (pv 1) pe_int (fun _ _ => rfl)) pa_nil)) (pa_cons (pe_ix ix_list (pv 1) pe_int (fun _ _ => rfl)) pa_nil))))))))
      (pss_cons (ps_fldaug (pv 0) pe_int in_add)
      (pss_cons (ps_set (i := 5) sc_if.nd rfl (Or.inl rfl) (m_meth (pv 0) T.cl Gb hr (passes_call (takes_of rfl rfl rfl rfl) (fun _ _ _ _ z => z)) (pa_cons (pe_op op_add (pv 2) pe_int) (pa_cons (pe_op op_add (pv 3) pe_int) pa_nil))))
      (pss_cons (ps_set (i := 6) sc_if.nd rfl (Or.inl rfl) (pe_tup pa_nil))
      (pss_cons (ps_if (pt_cmpR (op_eqD hr.units) (m_meth (pv 0) T.cl Ga hr1 passL (pa_cons (pv 2) pa_nil)) (pe_lst (pa_cons pe_str pa_nil)) (nomark _))
          (pss_cons (ps_fldaug (pv 0) pe_int in_add)
          (pss_one (ps_set (i := 6) sc_if.nd rfl (Or.inl rfl) (m_meth (pv 0) T.cl Gb hr (passes_call (takes_of rfl rfl rfl rfl) (fun _ _ _ _ z => z)) (pa_cons (pe_op op_add (pv 2) pe_int) (pa_cons (pe_op op_add (pv 3) pe_int) pa_nil)))))) pss_nil)
      (pss_one (ps_ret (pe_tup (StX.pa_star (pv 4) (pa_cons (pv 5) (pa_cons (pv 6) pa_nil))))))))))), ?_⟩
    refine ⟨_, rfl, r, dx, _, rfl, ob, noMeth (by decide +kernel), _, rfl, _, _, rfl, rfl, _, rfl, ?_⟩
    cases j with
    | zero =>
      have e : decide (ifs < 2) = false := decide_eq_false (by omega)
      rw [e]
      refine iteF ?_
      exact ⟨r, A, S, false, rfl, R, fun hb => Bool.noConfusion hb, fun _ => kk⟩
    | succ j =>
      have e : decide (ifs < 2) = true := decide_eq_true (by omega)
      rw [e]
      refine iteT ?_
      have kk : Comes C cB Q E r A H S 1 (ifM (blockOf j (d + 1)) S ws d) := kk
      rw [ifM_eq] at kk
      have kbad : testOk S ws = false → Bad cB E (A.own r) H ((S.pos : Int) + 1) := fun hb => by
        rw [if_neg (by rw [hb]; simp)] at kk
        exact kk
      have deq : ∀ x y : Str, decide (V.str x = V.str y) = decide (x = y) := fun x y => by
        by_cases h : x = y
        · rw [decide_eq_true h, decide_eq_true (congrArg V.str h)]
        · rw [decide_eq_false h, decide_eq_false (fun z => h (V.str.inj z))]
      refine ⟨_, rfl, wa, _, rfl, .inl (SqL.of W.at_), rfl, r, A, S, _, rfl, R, fun hb => ?_, fun hb => kbad ?_⟩
      · have h4 : ws.length = 4 := by
          have := V.int.inj (of_decide_eq_true hb)
          rw [List.length_map] at this
          omega
        have at2 : atI (wlist ws) 2 = some (.str (item ws 2)) := at_item (i := 2) (by omega)
        refine ⟨_, rfl, wa, _, _, _, rfl, rfl, SqL.of W.at_, at2, rfl, _, rfl, ?_⟩
        rw [deq]
        rcases Classical.em (item ws 2 = "=") with he | he
        all_goals first
          | (have hT : testOk S ws = cellOk S (item ws 1) (item ws 3) := by
               unfold testOk
               rw [decide_eq_true h4, if_pos he]
               rfl
             rw [decide_eq_true he]
             refine iteT ?_
             refine ⟨_, rfl, r, dx, _, rfl, ob, noMeth (by decide +kernel), _, rfl, wa, _, _, _, rfl, rfl, SqL.of W.at_, at_item (i := 1) (by omega), _, rfl, wa, _, _, _, rfl, rfl, SqL.of W.at_, at_item (i := 3) (by omega), r, A, S, _, _, rfl, R, S1, fun hb2 p H1 a b s1 hp => ?_, fun hb2 => kbad (by rw [hT]; exact hb2)⟩
             refine ⟨p, _, rfl, .inl (SqT.of hp), (by show 3 ≤ sizeLine; decide), fun q nq => ?_⟩
             have hto : testOk S ws = true := by rw [hT]; exact hb2
             generalize hH2 : upd H1 q _ = H2
             have s2 : Same H H2 := by rw [← hH2]; exact s1.trans (Same.new nq)
             have nqo : q ∉ A.own r := fun z => RdAt.tracked (R.same s1) q z nq
             obtain ⟨xs, hq, hx⟩ : ∃ xs, H2 q = some (.tup xs) ∧ xs.length = 3 := ⟨_, by rw [← hH2]; exact upd_same, rfl⟩)
          | (have hT : testOk S ws = ((decide (item ws 2 = "is") && word (item ws 3)) && refOk S (item ws 1)) := by
               unfold testOk
               rw [decide_eq_true h4, if_neg he]
               rfl
             rw [decide_eq_false he]
             refine iteF ?_
             refine ⟨_, rfl, r, dx, _, rfl, ob, noMeth (by decide +kernel), _, rfl, wa, _, _, _, rfl, rfl, SqL.of W.at_, at2, rfl, _, rfl, ?_⟩
             rw [deq]
             rcases Classical.em (item ws 2 = "is") with hi | hi
             all_goals first
               | (have hF : testOk S ws = false := by
                    rw [hT, decide_eq_false hi]
                    rfl
                  rw [decide_eq_false hi]
                  refine iteF ?_
                  exact ⟨r, A, S, false, rfl, R, fun hb => Bool.noConfusion hb, fun _ => kbad hF⟩)
               | (rw [decide_eq_true hi]
                  refine iteT ?_
                  refine ⟨_, rfl, wa, _, _, _, rfl, rfl, SqL.of W.at_, at_item (i := 3) (by omega), _, rfl, okw_le (W.ok _ (item_mem (by omega))), fun H0 s0 => ?_⟩
                  have R0 := R.same s0
                  obtain ⟨dx0, ob0⟩ := R0.ob
                  have w0 := s0 _ _ W.at_
                  refine ⟨r, A, S, word (item ws 3), rfl, R0, fun hw => ?_, fun hw => (kbad (by rw [hT, hw, decide_eq_true hi]; rfl)).before (.of s0)⟩
                  refine ⟨_, rfl, r, dx0, _, rfl, ob0, noMeth (by decide +kernel), _, rfl, wa, _, _, _, rfl, rfl, SqL.of w0, at_item (i := 1) (by omega), r, A, S, _, rfl, R0, S1, W.ok _ (item_mem (by omega)), fun hb2 p H1 a b s1' hp => ?_, fun hb2 => (kbad (by rw [hT, hw, decide_eq_true hi, hb2]; rfl)).before (.of s0)⟩
                  refine ⟨_, rfl, wa, _, _, _, rfl, rfl, SqL.of (s1' _ _ w0), at_item (i := 3) (by omega), (by show 3 ≤ sizeLine; decide), fun q nq => ?_⟩
                  have s1 : Same H H1 := s0.trans s1'
                  have hto : testOk S ws = true := by rw [hT, hw, decide_eq_true hi, hb2]; rfl
                  generalize hH2 : upd H1 q _ = H2
                  have s2 : Same H H2 := by rw [← hH2]; exact s1.trans (Same.new nq)
                  have nqo : q ∉ A.own r := fun z => RdAt.tracked (R.same s1) q z nq
                  obtain ⟨xs, hq, hx⟩ : ∃ xs, H2 q = some (.tup xs) ∧ xs.length = 3 := ⟨_, by rw [← hH2]; exact upd_same, rfl⟩))
        all_goals
          rw [if_pos hto] at kk
          have R2 := R.same s2
          obtain ⟨dx2, ob2⟩ := R2.ob
          refine ⟨_, rfl, r, C, dx2, _, _, rfl, ob2, T.cl, T.at_, rfl, _, _, rfl, rfl, dx2, _, ob2, (by show 10 < 1000; decide), ?_⟩
          generalize hH3 : upd H2 r _ = H3
          have R3 : RdAt C H3 r A S.on := by rw [← hH3]; exact R2.goTo (dx := dx2) (S.pos + 1)
          have b3 : But (A.own r) H H3 := by rw [← hH3]; exact (But.of s2).trans (.upd (by simp [Adr.own]))
          have hq3 : H3 q = some (.tup xs) := by rw [← hH3, upd_ne (fun z => nqo (by rw [z]; simp [Adr.own]))]; exact hq
          obtain ⟨dx3, ob3⟩ := R3.ob
          have f3 := (Adv.step S1 hpos).fine S1
          refine ⟨_, rfl, r, dx3, _, rfl, ob3, noMeth (by decide +kernel), _, rfl, _, _, rfl, rfl, _, rfl, _, _, rfl, rfl, r, A, S.on, d + 1, ifs + 1, rfl, by omega, by omega, by omega, by omega, R3, f3, ?_⟩
          unfold ifRest at kk
          cases hm : blockOf j (d + 1) S.on with
          | bad n =>
            rw [hm] at kk
            exact Bad.before kk b3
          | ok S2 =>
            rw [hm] at kk
            have kk : Comes C cB Q E r A H S 1 (if S2.wordsAt d = [("else" : Str)] then blockOf j (d + 1) S2.on else .ok S2) := kk
            intro p2 xs2 H4 b4 R4 v4 h4' hp4
            have hq4 := b4.keep _ _ hq3 nqo
            have S2f := v4.fine f3
            have vS2 : Adv S S2 := (Adv.step S1 hpos).trans v4
            refine ⟨(by show 0 ≤ sizeLine; decide), fun o no => ?_⟩
            generalize hH5 : upd H4 o _ = H5
            have s5 : Same H4 H5 := by rw [← hH5]; exact Same.new no
            have ho5 : H5 o = some (.tup []) := by rw [← hH5]; exact upd_same
            have R5 := R4.same s5
            obtain ⟨dx5, ob5⟩ := R5.ob
            refine ⟨_, rfl, r, dx5, _, rfl, ob5, noMeth (by decide +kernel), _, rfl, r, A, S2, d, rfl, R5, S2f.p, d0, by omega, fun l H6 s6 nl hl => ?_⟩
            refine ⟨(by show 1 ≤ sizeLine; decide), fun e ne => ?_⟩
            have hle : l ≠ e := ne_of_none hl ne
            refine ⟨pstrs (S2.wordsAt d), pstrs [("else" : Str)], dp_strs (by rw [upd_ne hle]; exact hl), dp_strs upd_same, shaped_strs (S2f.words d).2, shaped_strs (by intro x hx; simp at hx; rw [hx]; decide +kernel), _, rfl, ?_⟩
            rw [eqv_strs]
            generalize hH7 : upd H6 e _ = H7
            have s7 : Same H4 H7 := by rw [← hH7]; exact (s5.trans s6).trans (Same.new ne)
            have b7 : But (A.own r) H H7 := (b3.trans b4).trans (.of s7)
            have R7 := R4.same s7
            obtain ⟨dx7, ob7⟩ := R7.ob
            have hq7 := s7 _ _ hq4
            refine ite2 (fun hel => ?_) (fun hel => ?_)
            · have hel := of_decide_eq_true hel
              rw [if_pos hel] at kk
              have pos2 : S2.pos < S2.ls.length := Rd.more (d := d) (by rw [hel]; simp)
              refine ⟨_, rfl, r, C, dx7, _, _, rfl, ob7, T.cl, T.at_, rfl, _, _, rfl, rfl, dx7, _, ob7, (by show 10 < 1000; decide), ?_⟩
              generalize hH8 : upd H7 r _ = H8
              have R8 : RdAt C H8 r A S2.on := by rw [← hH8]; exact R7.goTo (dx := dx7) (S2.pos + 1)
              have b8 : But (A.own r) H H8 := by rw [← hH8]; exact b7.trans (.upd (by simp [Adr.own]))
              have hq8 : H8 q = some (.tup xs) := by rw [← hH8, upd_ne (fun z => nqo (by rw [z]; simp [Adr.own]))]; exact hq7
              obtain ⟨dx8, ob8⟩ := R8.ob
              have st2 := Adv.step S2f pos2
              refine ⟨_, rfl, r, dx8, _, rfl, ob8, noMeth (by decide +kernel), _, rfl, _, _, rfl, rfl, _, rfl, _, _, rfl, rfl, r, A, S2.on, d + 1, ifs + 1, rfl, by omega, by omega, by omega, by omega, R8, st2.fine S2f, ?_⟩
              cases hm2 : blockOf j (d + 1) S2.on with
              | bad n =>
                rw [hm2] at kk
                exact Bad.before kk b8
              | ok S3 =>
                rw [hm2] at kk
                intro p3 xs3 H9 b9 R9 v9 h9' hp9
                refine ⟨_, rfl, q, xs, rfl, .inl (SqT.of (b9.keep _ _ hq8 nqo)), _, rfl, _, rfl, ?_, fun z nz => ?_⟩
                · show (xs ++ [_, _]).length ≤ sizeLine
                  rw [List.length_append, hx]
                  show 5 ≤ sizeLine
                  decide
                · refine kk z _ _ (b8.trans (b9.trans (.of (Same.new nz)))) (R9.same (Same.new nz)) ((vS2.trans st2).trans v9) ?_ upd_same
                  have a1 := vS2.le
                  have a2 := v9.le
                  have a3 : S2.on.pos = S2.pos + 1 := rfl
                  omega
            · have hel : ¬ S2.wordsAt d = [("else" : Str)] := fun z => hel (decide_eq_true z)
              rw [if_neg hel] at kk
              refine ⟨_, rfl, q, xs, rfl, .inl (SqT.of hq7), _, rfl, _, rfl, ?_, fun z nz => ?_⟩
              · show (xs ++ [_, _]).length ≤ sizeLine
                rw [List.length_append, hx]
                show 5 ≤ sizeLine
                decide
              · refine kk z _ _ (b7.trans (.of (Same.new nz))) (R7.same (Same.new nz)) vS2 ?_ upd_same
                have a2 := v4.le
                have a3 : S.on.pos = S.pos + 1 := rfl
                omega
      · have h4 : ¬ ws.length = 4 := fun z => by
          have := of_decide_eq_false hb
          exact this (by rw [List.length_map, z]; rfl)
        unfold testOk
        rw [decide_eq_false h4]
        rfl
end
end K7

set_option Elab.async false
set_option linter.all false
set_option maxRecDepth 100000
namespace K7
open PySem L2 Rdr LcX
abbrev sBlock : Stmt := inClass (top 21) 7
section
variable {P : Program} {w : World} {K : PySem.W.Frag} {mg : Str → Option Value} {base : Heap} {C cB fB : Addr} {fdB : FuncData}
theorem sc_block : FnScope ["self", "depth", "ifs", "statements", "words"] ["self", "depth", "ifs"] (defScope sBlock) := ⟨rfl, rfl, rfl, by decide +kernel, rfl, by decide +kernel, by decide +kernel⟩
theorem ok_none {f : Addr} {fd : FuncData} (F : Fun K "read_block" "ProgramReader.read_block" sBlock f fd) {k : Nat} : FnOk P w K mg base (L2.CX P w) (k + 1) f fd ["self", "depth", "ifs"] (spBelow C cB 0) :=
  F.okX sc_block (fun _ _ _ _ h => h.elim) fun _ _ _ _ _ _ _ _ _ h => h.elim
theorem ok_block {f : Addr} {fd : FuncData} {k j : Nat} (hk : 3 ≤ k) (F : Fun K "read_block" "ProgramReader.read_block" sBlock f fd) (T : RT K mg C cB fB fdB) (TC : RC mg) (Gn : MOk P w K mg base 3 C "need" (spNeed C cB)) (Ga : MOk P w K mg base 1 C "words_at" (spWordsAt C))
    (Gs : MOk P w K mg base k C "read_statement" (spStm C cB 1 j stmM)) : FnOk P w K mg base (L2.CX P w) (k + 1) f fd ["self", "depth", "ifs"] (spBlock C cB j) := by
  obtain ⟨tS, cS⟩ := TC.MOST_STATEMENTS
  refine F.okX sc_block (fun vs H Q E h => ?_) (fun cdv A outer s H vs Q E hr h => ?_)
  · obtain ⟨r, A, S, d, ifs, rfl, _⟩ := h
    rfl
  · obtain ⟨r, A, S, d, ifs, rfl, hifs, d0, d1, hj, R, S1, kk⟩ := h
    have hr1 : Room 1 _ := hr.mono (by omega)
    have hr3 : Room 3 _ := hr.mono (by omega)
    refine ⟨_, pss_cons (ps_set (i := 3) sc_block.nd rfl (Or.inl rfl) (pe_lst pa_nil))
      (pss_cons (ps_whileW (passes_of rfl) (ptw_truth (pew_named (i := 4) sc_block.nd rfl (Or.inl rfl) (pew_of (m_meth (pv 0) T.cl Ga hr1 passL (pa_cons (pv 1) pa_nil)))))
          (pss_cons (ps_expr (m_meth (pv 0) T.cl Gn hr3 (passes_call (takes_of rfl rfl rfl rfl) (fun _ _ _ _ z => z)) (pa_cons (pe_cmpR op_lt (pe_callB call_len_seq (by rfl) T.len PySem.boot_len (pa_cons (pv 3) pa_nil)) (pe_glob (v := .int 6) rfl cS ⟨_, rfl⟩) (nomark _)) pa_nil)))
          (pss_one (ps_expr (pe_bm PySem.F.plainAttrs_list PySem.F.slot_list_append PySem.F.type_list_append mt_append (pv 3) (pa_cons (m_meth (pv 0) T.cl Gs hr (passes_call (takes_of rfl rfl rfl rfl) (fun _ _ _ _ z => z)) (pa_cons (pv 4) (pa_cons (pv 1) (pa_cons (pv 2) pa_nil)))) pa_nil))))) pss_nil)
      (pss_cons (ps_expr (m_meth (pv 0) T.cl Gn hr3 (passes_call (takes_of rfl rfl rfl rfl) (fun _ _ _ _ z => z)) (pa_cons (pe_cmpR op_gt (pe_callB call_len_seq (by rfl) T.len PySem.boot_len (pa_cons (pv 3) pa_nil)) pe_int (nomark _)) pa_nil)))
      (pss_one (ps_ret (pe_callTy call_tuple_of (by rfl) T.tuple (by decide +kernel) (pa_cons (pv 3) pa_nil)))))), ?_⟩
    refine ⟨(by show 0 ≤ sizeLine; decide), fun D nD => ?_⟩
    have nDo : D ∉ A.own r := fun z => RdAt.tracked R D z nD
    generalize hH1 : upd H D _ = H1
    have s1 : Same H H1 := by rw [← hH1]; exact Same.new nD
    have R1 : RdAt C H1 r { A with xt := D :: A.xt } S := by rw [← hH1]; exact R.enter nD
    have hD1 : H1 D = some (.lst []) := by rw [← hH1]; exact upd_same
    refine ⟨fun m σ H' => ∃ (S' : Rd) (xs : List V) (v : Option V), σ = [some (.ref r), some (.int d), some (.int ifs), some (.ref D), v] ∧ But (A.own r) H H' ∧ RdAt C H' r { A with xt := D :: A.xt } S' ∧ Adv S S' ∧ H' D = some (.lst xs) ∧ S.ls.length - S'.pos + 1 ≤ m ∧ xs.length ≤ 6 ∧ blockM (stmM j d) d m xs.length S' = blockOf j d S,
      ⟨S.ls.length - S.pos + 1, S, [], none, rfl, .of s1, R1, Adv.refl S1, hD1, Nat.le_refl _, by simp, rfl⟩, ?_⟩
    rintro m σ H2 ⟨S2, xs, v, rfl, b2, R2, v2, hD2, hm, hx6, hM⟩
    have S2f := v2.fine S1
    have ls2 : S2.ls.length = S.ls.length := by rw [v2.eq]
    obtain ⟨dx2, ob2⟩ := R2.ob
    obtain ⟨m, rfl⟩ : ∃ m', m = m' + 1 := ⟨m - 1, by omega⟩
    refine ⟨_, rfl, r, dx2, _, rfl, ob2, noMeth (by decide +kernel), _, rfl, r, { A with xt := D :: A.xt }, S2, d, rfl, R2, S2f.p, d0, by omega, fun a H3 s3 na ha => ?_⟩
    refine ⟨!(S2.wordsAt d).isEmpty, .inl ⟨_, SqL.of ha, by simp [wlist]⟩, ?_⟩
    have hD3 := s3 _ _ hD2
    have R3 := R2.same s3
    have b3 : But (A.own r) H H3 := b2.trans (.of s3)
    obtain ⟨dx3, ob3⟩ := R3.ob
    have lx : (wlist (S2.wordsAt d)).length = (S2.wordsAt d).length := by simp
    by_cases hw : S2.wordsAt d = []
    · rw [hw]
      refine iteF ?_
      have hM : S2.need (decide (0 < xs.length)) (.ok S2) = blockOf j d S := by
        rw [← hM]
        show _ = (if S2.wordsAt d = [] then _ else _)
        rw [if_pos hw]
      rw [← hM, need_eq] at kk
      refine ⟨_, rfl, r, dx3, _, rfl, ob3, noMeth (by decide +kernel), _, rfl, D, _, rfl, .inl (SqL.of hD3), _, _, rfl, rfl, r, { A with xt := D :: A.xt }, S2, _, rfl, R3, fun hb => ?_, fun hb => ?_⟩
      · have h0 : 0 < xs.length := by
          have := of_decide_eq_true hb
          omega
        rw [if_pos (decide_eq_true h0)] at kk
        refine ⟨_, rfl, D, xs, rfl, .inl ⟨SqL.of hD3, fun p np => ?_⟩⟩
        exact kk p xs _ (b3.trans (.of (Same.new np))) (R3.same (Same.new np)).leave v2 v2.le upd_same
      · have h0 : ¬ 0 < xs.length := fun z => by
          have := of_decide_eq_false hb
          omega
        rw [if_neg (fun z => h0 (of_decide_eq_true z))] at kk
        exact Bad.before kk b3
    · have ht : (!(S2.wordsAt d).isEmpty) = true := by
        cases e : S2.wordsAt d with
        | nil => exact absurd e hw
        | cons _ _ => rfl
      rw [ht]
      refine iteT ?_
      have pos2 := Rd.more hw
      have hM : S2.need (decide (xs.length < 6)) ((stmM j d S2 (S2.wordsAt d)).bind (blockM (stmM j d) d m (xs.length + 1))) = blockOf j d S := by
        rw [← hM]
        show _ = (if S2.wordsAt d = [] then _ else _)
        rw [if_neg hw]
      rw [← hM, need_eq] at kk
      rw [need_eq] at hM
      refine ⟨_, fun _ _ z => z, ?_⟩
      refine ⟨_, rfl, r, dx3, _, rfl, ob3, noMeth (by decide +kernel), _, rfl, D, _, rfl, .inl (SqL.of hD3), _, _, rfl, rfl, r, { A with xt := D :: A.xt }, S2, _, rfl, R3, fun hb => ?_, fun hb => ?_⟩
      · have h6 : xs.length < 6 := by
          have := of_decide_eq_true hb
          omega
        rw [if_pos (decide_eq_true h6)] at kk hM
        refine ⟨_, rfl, .inl ⟨rfl, _, SqL.of hD3⟩, _, rfl, r, dx3, _, rfl, ob3, noMeth (by decide +kernel), _, rfl, _, rfl, _, rfl, r, a, { A with xt := D :: A.xt }, S2, S2.wordsAt d, d, ifs, rfl, hifs, d0, d1, hj, R3, S2f, ⟨ha, (S2f.words d).1, (S2f.words d).2⟩, na, pos2, hw, ?_⟩
        cases hs : stmM j d S2 (S2.wordsAt d) with
        | bad n =>
          rw [hs] at kk
          exact Bad.before kk b3
        | ok S3 =>
          rw [hs] at hM
          intro p ys H4 b4 R4 v4 h4 hp4
          have hD4 := b4.keep _ _ hD3 nDo
          have b4' : But (A.own r) H H4 := b3.trans b4
          refine ⟨D, xs, _, rfl, rfl, hD4, ?_, m, Nat.lt_succ_self _, S3, xs ++ [.ref p], some (.ref a), rfl, ⟨fun b o hb' hn => ?_, fun b hb' => b4'.free b (upd_none hb')⟩, R4.store List.mem_cons_self, v2.trans v4, upd_same, by omega, by simp; omega, ?_⟩
          · have := le_line (n := 20002) (by omega)
            omega
          · rw [upd_ne (ne_of_none hb' nD)]
            exact b4'.keep _ _ hb' hn
          · rw [List.length_append]
            exact hM
      · have h6 : ¬ xs.length < 6 := fun z => by
          have := of_decide_eq_false hb
          omega
        rw [if_neg (fun z => h6 (of_decide_eq_true z))] at kk
        exact Bad.before kk b3
end
end K7

set_option Elab.async false
set_option linter.all false
set_option maxRecDepth 100000
namespace Rdr
open PySem L2
def fieldA (acc ws : List Str) : Bool := decide (acc.length < 2) && (decide (ws.length = 2) && decide (item ws 0 = "field"))
def fieldB (acc ws : List Str) : Bool := word (item ws 1) && (decide (item ws 1 ≠ "key") && !acc.contains (item ws 1))
theorem fieldsM_eq {n : Nat} {S : Rd} {acc : List Str} : fieldsM (n + 1) S acc = if S.wordsAt 1 = [] then .ok (S, acc) else if (fieldA acc (S.wordsAt 1) && fieldB acc (S.wordsAt 1)) = true then fieldsM n S.on (acc ++ [item (S.wordsAt 1) 1]) else .bad ((S.pos : Int) + 1) := by
  show (if S.wordsAt 1 = [] then _ else _) = _
  split
  · rfl
  · unfold fieldA fieldB
    rw [need_need, need_eq]
    simp only [Bool.and_assoc]
end Rdr
namespace K7
open PySem L2 Rdr LcX
abbrev sFields : Stmt := inClass (top 21) 3
theorem deq_str (x y : Str) : decide (V.str x = V.str y) = decide (x = y) := by
  by_cases h : x = y
  · rw [decide_eq_true h, decide_eq_true (congrArg V.str h)]
  · rw [decide_eq_false h, decide_eq_false (fun z => h (V.str.inj z))]
/-- a new list of the fields, the reader further on, or an error -/
def spFields (C cB : Addr) : Sp := fun vs H Q E => ∃ (r : Addr) (A : Adr) (S : Rd), vs = [.ref r] ∧ RdAt C H r A S ∧ Fine S ∧ match fieldsM (S.ls.length - S.pos + 1) S [] with
  | .ok (S', fs) => ∀ (D : Addr) (H' : Hp), But (A.own r) H H' → RdAt C H' r A S' → Adv S S' → fs.length ≤ 2 → H D = none → H' D = some (.lst (wlist fs)) → Q (.ref D) H'
  | .bad n => Bad cB E (A.own r) H n
section
variable {P : Program} {w : World} {K : PySem.W.Frag} {mg : Str → Option Value} {base : Heap} {C cB fB : Addr} {fdB : FuncData}
theorem sc_fields : FnScope ["self", "fields", "words"] ["self"] (defScope sFields) := ⟨rfl, rfl, rfl, by decide +kernel, rfl, by decide +kernel, by decide +kernel⟩
theorem ok_fields {f : Addr} {fd : FuncData} (F : Fun K "read_fields" "ProgramReader.read_fields" sFields f fd) (T : RT K mg C cB fB fdB) (TC : RC mg) (Gn : MOk P w K mg base 3 C "need" (spNeed C cB)) (Ga : MOk P w K mg base 1 C "words_at" (spWordsAt C)) (Gw : DOk P w K mg base 1 "is_word" spWord) :
    FnOk P w K mg base (L2.CX P w) 4 f fd ["self"] (spFields C cB) := by
  obtain ⟨tS, cS⟩ := TC.MOST_FIELDS
  refine F.okX sc_fields (fun vs H Q E h => ?_) (fun cdv A outer s H vs Q E hr h => ?_)
  · obtain ⟨r, A, S, rfl, _⟩ := h
    rfl
  · obtain ⟨r, A, S, rfl, R, S1, kk⟩ := h
    have hr3 : Room 3 _ := hr
    have hr1 : Room 1 _ := hr.mono (by decide)
    refine ⟨_, pss_cons (ps_set (i := 1) sc_fields.nd rfl (Or.inl rfl) (pe_lst pa_nil))
      (pss_cons (ps_whileW (passes_of rfl) (ptw_truth (pew_named (i := 2) sc_fields.nd rfl (Or.inl rfl) (pew_of (m_meth (pv 0) T.cl Ga hr1 passL (pa_cons pe_int pa_nil)))))
          (pss_cons (ps_expr (m_meth (pv 0) T.cl Gn hr3 (passes_call (takes_of rfl rfl rfl rfl) (fun _ _ _ _ z => z)) (pa_cons (pe_and (pe_cmpR op_lt (pe_callB call_len_seq (by rfl) T.len PySem.boot_len (pa_cons (pv 1) pa_nil)) (pe_glob (v := .int 2) rfl cS ⟨_, rfl⟩) (nomark _))
              (pe_and (pe_cmpR op_eq (pe_callB call_len_seq (by rfl) T.len PySem.boot_len (pa_cons (pv 2) pa_nil)) pe_int (nomark _)) (pe_one (pe_cmpR op_eq (pe_ix ix_list (pv 2) pe_int (fun _ _ => rfl)) pe_str (nomark _))))) pa_nil)))
          (pss_cons (ps_expr (m_meth (pv 0) T.cl Gn hr3 (passes_call (takes_of rfl rfl rfl rfl) (fun _ _ _ _ z => z)) (pa_cons (pe_and (f_call Gw hr1 passL (pa_cons (pe_ix ix_list (pv 2) pe_int (fun _ _ => rfl)) pa_nil))
              (pe_and (pe_cmpR op_ne (pe_ix ix_list (pv 2) pe_int (fun _ _ => rfl)) pe_str (nomark _)) (pe_one (pe_cmpR op_notIn_seq (pe_ix ix_list (pv 2) pe_int (fun _ _ => rfl)) (pv 1) (by rfl))))) pa_nil)))
          (pss_cons (ps_expr (pe_bm PySem.F.plainAttrs_list PySem.F.slot_list_append PySem.F.type_list_append mt_append (pv 1) (pa_cons (pe_ix ix_list (pv 2) pe_int (fun _ _ => rfl)) pa_nil)))
          (pss_one (ps_fldaug (pv 0) pe_int in_add))))) pss_nil)
      (pss_one (ps_ret (pv 1)))), ?_⟩
    refine ⟨(by show 0 ≤ sizeLine; decide), fun D nD => ?_⟩
    have nDo : D ∉ A.own r := fun z => RdAt.tracked R D z nD
    generalize hH1 : upd H D _ = H1
    have s1 : Same H H1 := by rw [← hH1]; exact Same.new nD
    have R1 : RdAt C H1 r { A with xt := D :: A.xt } S := by rw [← hH1]; exact R.enter nD
    have hD1 : H1 D = some (.lst (wlist [])) := by rw [← hH1]; exact upd_same
    refine ⟨fun m σ H' => ∃ (S' : Rd) (acc : List Str) (v : Option V), σ = [some (.ref r), some (.ref D), v] ∧ But (A.own r) H H' ∧ RdAt C H' r { A with xt := D :: A.xt } S' ∧ Adv S S' ∧ H' D = some (.lst (wlist acc)) ∧ S.ls.length - S'.pos + 1 ≤ m ∧ acc.length ≤ 2 ∧ fieldsM m S' acc = fieldsM (S.ls.length - S.pos + 1) S [],
      ⟨S.ls.length - S.pos + 1, S, [], none, rfl, .of s1, R1, Adv.refl S1, hD1, Nat.le_refl _, by simp, rfl⟩, ?_⟩
    rintro m σ H2 ⟨S2, acc, v, rfl, b2, R2, v2, hD2, hm, hx2, hM⟩
    have S2f := v2.fine S1
    have ls2 : S2.ls.length = S.ls.length := by rw [v2.eq]
    obtain ⟨dx2, ob2⟩ := R2.ob
    obtain ⟨m, rfl⟩ : ∃ m', m = m' + 1 := ⟨m - 1, by omega⟩
    refine ⟨_, rfl, r, dx2, _, rfl, ob2, noMeth (by decide +kernel), r, { A with xt := D :: A.xt }, S2, 1, rfl, R2, S2f.p, by decide, by decide, fun a H3 s3 na ha => ?_⟩
    refine ⟨!(S2.wordsAt 1).isEmpty, .inl ⟨_, SqL.of ha, by simp [wlist]⟩, ?_⟩
    have hD3 := s3 _ _ hD2
    have R3 := R2.same s3
    have b3 : But (A.own r) H H3 := b2.trans (.of s3)
    obtain ⟨dx3, ob3⟩ := R3.ob
    rw [fieldsM_eq] at hM
    by_cases hw : S2.wordsAt 1 = []
    · rw [hw]
      refine iteF ?_
      rw [if_pos hw] at hM
      rw [← hM] at kk
      exact ⟨_, rfl, kk D H3 b3 R3.leave v2 hx2 nD hD3⟩
    · have ht : (!(S2.wordsAt 1).isEmpty) = true := by
        cases e : S2.wordsAt 1 with
        | nil => exact absurd e hw
        | cons _ _ => rfl
      rw [ht]
      refine iteT ?_
      rw [if_neg hw] at hM
      have pos2 := Rd.more hw
      have W := S2f.words 1
      generalize hws : S2.wordsAt 1 = ws at *
      have bad : (fieldA acc ws && fieldB acc ws) = false → Bad cB E (A.own r) H ((S2.pos : Int) + 1) := fun hb => by
        rw [if_neg (by rw [hb]; simp)] at hM
        rw [← hM] at kk
        exact kk
      have badA : fieldA acc ws = false → Bad cB E (A.own r) H ((S2.pos : Int) + 1) := fun hb => bad (by rw [hb]; rfl)
      have badB : fieldB acc ws = false → Bad cB E (A.own r) H ((S2.pos : Int) + 1) := fun hb => bad (by rw [hb]; simp)
      refine ⟨_, fun _ _ z => z, ?_⟩
      have lws : (wlist ws).length = ws.length := by simp
      have lac : (wlist acc).length = acc.length := by simp
      refine ⟨_, rfl, r, dx3, _, rfl, ob3, noMeth (by decide +kernel), _, rfl, D, _, rfl, .inl (SqL.of hD3), _, _, rfl, rfl, _, rfl, ?_⟩
      rw [lac]
      refine ite2 (fun h1 => ?_) (fun h1 => ?_)
      · have h1 : acc.length < 2 := by have := of_decide_eq_true h1; omega
        refine ⟨_, rfl, a, _, rfl, .inl (SqL.of ha), rfl, _, rfl, ?_⟩
        rw [lws]
        refine ite2 (fun h2 => ?_) (fun h2 => ?_)
        · have h2 : ws.length = 2 := by have := V.int.inj (of_decide_eq_true h2); omega
          refine ⟨_, rfl, a, _, _, _, rfl, rfl, SqL.of ha, at_item (i := 0) (by omega), rfl, r, { A with xt := D :: A.xt }, S2, _, rfl, R3, fun hb => ?_, fun hb => Bad.before (badA (by unfold fieldA; rw [← deq_str, hb]; simp)) b3⟩
          have hA : fieldA acc ws = true := by
            unfold fieldA
            rw [decide_eq_true h1, decide_eq_true h2, ← deq_str, hb]
            rfl
          refine ⟨_, rfl, r, dx3, _, rfl, ob3, noMeth (by decide +kernel), _, rfl, a, _, _, _, rfl, rfl, SqL.of ha, at_item (i := 1) (by omega), _, rfl, okw_le (W.2 _ (item_mem (by omega))), fun H4 s4 => ⟨_, rfl, ?_⟩⟩
          have R4 := R3.same s4
          have b4 : But (A.own r) H H4 := b3.trans (.of s4)
          obtain ⟨dx4, ob4⟩ := R4.ob
          have ha4 := s4 _ _ ha
          have hD4 := s4 _ _ hD3
          refine ite2 (fun h3 => ?_) (fun h3 => ?_)
          · refine ⟨_, rfl, a, _, _, _, rfl, rfl, SqL.of ha4, at_item (i := 1) (by omega), rfl, _, rfl, ?_⟩
            rw [deq_str]
            refine ite2 (fun h4 => ?_) (fun h4 => ?_)
            · refine ⟨_, rfl, a, _, _, _, rfl, rfl, SqL.of ha4, at_item (i := 1) (by omega), _, rfl, _, _, rfl, .inl (SqL.of hD4), rfl, flat_wlist, ?_⟩
              have e1 : (if true = true then !inV (V.str (item ws 1)) (wlist acc) else inV (V.str (item ws 1)) (wlist acc)) = !acc.contains (item ws 1) := by rw [if_pos rfl, in_wlist]
              rw [e1]
              have hne : decide (item ws 1 ≠ "key") = true := by simpa using h4
              refine ⟨r, { A with xt := D :: A.xt }, S2, _, rfl, R4, fun hb5 => ?_, fun hb5 => Bad.before (badB (by unfold fieldB; rw [hb5]; simp)) b4⟩
              have hB : fieldB acc ws = true := by
                unfold fieldB
                rw [h3, hne, hb5]
                rfl
              rw [if_pos (by rw [hA, hB]; rfl)] at hM
              refine ⟨_, rfl, .inl ⟨rfl, _, SqL.of hD4⟩, _, rfl, a, _, _, _, rfl, rfl, SqL.of ha4, at_item (i := 1) (by omega), D, _, _, rfl, rfl, hD4, ?_, ?_⟩
              · have := le_line (n := 20002) (by omega)
                omega
              generalize hH5 : upd H4 D _ = H5
              have R5 : RdAt C H5 r { A with xt := D :: A.xt } S2 := by rw [← hH5]; exact R4.store List.mem_cons_self
              have b5 : But (A.own r) H H5 := by
                rw [← hH5]
                exact ⟨fun b o hb' hn => by rw [upd_ne (ne_of_none hb' nD)]; exact b4.keep _ _ hb' hn, fun b hb' => b4.free b (upd_none hb')⟩
              have hD5 : H5 D = some (.lst (wlist (acc ++ [item ws 1]))) := by rw [← hH5, upd_same]; simp [wlist]
              obtain ⟨dx5, ob5⟩ := R5.ob
              refine ⟨_, rfl, r, C, dx5, _, _, rfl, ob5, T.cl, T.at_, rfl, _, _, rfl, rfl, dx5, _, ob5, (by show 10 < 1000; decide), m, Nat.lt_succ_self _, S2.on, acc ++ [item ws 1], some (.ref a), rfl, b5.trans (.upd (by simp [Adr.own])), R5.goTo (dx := dx5) (S2.pos + 1), v2.trans (Adv.step S2f pos2), ?_, ?_, by simp; omega, hM⟩
              · have : D ≠ r := fun z => nDo (by rw [z]; simp [Adr.own])
                rw [upd_ne this]
                exact hD5
              · show S.ls.length - (S2.pos + 1) + 1 ≤ m
                omega
            · have hne : decide (item ws 1 ≠ "key") = false := by simpa using h4
              exact ⟨r, { A with xt := D :: A.xt }, S2, false, rfl, R4, fun hb => Bool.noConfusion hb, fun _ => Bad.before (badB (by unfold fieldB; rw [hne]; simp)) b4⟩
          · have h3 : word (item ws 1) = false := by simpa using h3
            exact ⟨r, { A with xt := D :: A.xt }, S2, false, rfl, R4, fun hb => Bool.noConfusion hb, fun _ => Bad.before (badB (by unfold fieldB; rw [h3]; rfl)) b4⟩
        · have h2 : ¬ ws.length = 2 := fun z => h2 (decide_eq_true (by rw [z]; rfl))
          exact ⟨r, { A with xt := D :: A.xt }, S2, false, rfl, R3, fun hb => Bool.noConfusion hb, fun _ => Bad.before (badA (by unfold fieldA; rw [decide_eq_false h2]; simp)) b3⟩
      · have h1 : ¬ acc.length < 2 := fun z => h1 (decide_eq_true (by omega))
        exact ⟨r, { A with xt := D :: A.xt }, S2, false, rfl, R3, fun hb => Bool.noConfusion hb, fun _ => Bad.before (badA (by unfold fieldA; rw [decide_eq_false h1]; simp)) b3⟩
end
end K7

set_option Elab.async false
set_option linter.all false
set_option maxRecDepth 100000
namespace Rdr
open PySem L2
def outerOf (ws : List Str) : Str := if ws.length = 4 then item ws 3 else ""
def kindA (S : Rd) (ws : List Str) : Bool := decide (S.kinds.length < 4) && (decide (ws.length = 2) || decide (ws.length = 4))
def kindB (S : Rd) (ws : List Str) : Bool := word (item ws 1) && (S.chains.lookup (item ws 1)).isNone
def kindC (S : Rd) (ws : List Str) : Bool := !decide (ws.length = 4) || ((decide (item ws 2 = "in") && (S.chains.lookup (item ws 3)).isSome) && decide ((chainOf S (item ws 3)).length < 3))
def kindEnd (ws : List Str) (S1 : Rd) (fs : List Str) : Rd := { S1 with kinds := S1.kinds ++ [(item ws 1, outerOf ws, fs)], chains := S1.chains ++ [(item ws 1, chainOf S1 (outerOf ws) ++ [item ws 1])], fields := S1.fields ++ [(item ws 1, ("key" : Str) :: fs)] }
theorem kindM_eq {S : Rd} {ws : List Str} (hp : S.pos < S.ls.length) : kindM S ws = if (kindA S ws && (kindB S ws && kindC S ws)) = true then (fieldsM (S.on.ls.length - S.on.pos + 1) S.on []).bind (fun x => .ok (kindEnd ws x.1 x.2)) else .bad ((S.pos : Int) + 1) := by
  have e : S.ls.length - S.pos = S.on.ls.length - S.on.pos + 1 := by
    show S.ls.length - S.pos = S.ls.length - (S.pos + 1) + 1
    omega
  unfold kindM kindC
  rw [e]
  unfold kindA kindB
  simp only [need_eq]
  by_cases h4 : ws.length = 4
  · have eo : outerOf ws = item ws 3 := if_pos h4
    unfold kindEnd
    rw [eo, if_pos h4, decide_eq_true h4]
    generalize decide (S.kinds.length < 4) = a
    generalize decide (ws.length = 2) = a2
    generalize word (item ws 1) = b1
    generalize (S.chains.lookup (item ws 1)).isNone = b2
    generalize decide (item ws 2 = "in") = c1
    generalize (S.chains.lookup (item ws 3)).isSome = c2
    generalize decide ((chainOf S (item ws 3)).length < 3) = c3
    cases a <;> cases a2 <;> cases b1 <;> cases b2 <;> cases c1 <;> cases c2 <;> cases c3 <;> rfl
  · have eo : outerOf ws = "" := if_neg h4
    unfold kindEnd
    rw [eo, if_neg h4, decide_eq_false h4]
    generalize decide (S.kinds.length < 4) = a
    generalize decide (ws.length = 2) = a2
    generalize word (item ws 1) = b1
    generalize (S.chains.lookup (item ws 1)).isNone = b2
    cases a <;> cases a2 <;> cases b1 <;> cases b2 <;> rfl
theorem look_mem {β : Type} {x : Str} : ∀ {l : List (Str × β)}, l.lookup x = none ↔ x ∉ l.map (·.1)
  | [] => by simp
  | (k, v) :: r => by
    have ih := look_mem (x := x) (l := r)
    rw [look_cons]
    by_cases h : k = x
    · simp [h]
    · rw [if_neg h, ih]
      simp [Ne.symm h]
theorem look_app {β : Type} {x k : Str} {v : β} : ∀ {l : List (Str × β)}, ((l.lookup x).isSome = true ∨ k = x) → ((l ++ [(k, v)]).lookup x).isSome = true
  | [], h => by
    rcases h with h | h
    · simp at h
    · show (List.lookup x [(k, v)]).isSome = true
      rw [look_cons, if_pos h]
      rfl
  | (k', v') :: r, h => by
    show (List.lookup x ((k', v') :: (r ++ [(k, v)]))).isSome = true
    rw [look_cons] at h ⊢
    by_cases h' : k' = x
    · simp [h']
    · rw [if_neg h'] at h ⊢
      exact look_app h
theorem look_in {β : Type} {x : Str} {v : β} : ∀ {l : List (Str × β)}, l.lookup x = some v → (x, v) ∈ l
  | (k, v') :: r, h => by
    rw [look_cons] at h
    by_cases h' : k = x
    · rw [if_pos h'] at h
      cases h
      rw [h']
      exact List.mem_cons_self
    · rw [if_neg h'] at h
      exact List.mem_cons_of_mem _ (look_in h)
theorem no_empty {S : Rd} (h : Fine S) : S.chains.lookup ("" : Str) = none := by
  refine look_mem.mpr fun z => ?_
  obtain ⟨c, hc, e⟩ := List.mem_map.mp z
  have := h.kw c hc
  rw [e] at this
  exact absurd this (by decide)
theorem kind_fine {S : Rd} {ws fs : List Str} (h : Fine S) (hk : S.kinds.length < 4) (hB : kindB S ws = true) (hC : kindC S ws = true) (hf : fs.length ≤ 2) : Fine (kindEnd ws S fs) := by
  unfold kindB at hB
  obtain ⟨hw, hn⟩ := Bool.and_eq_true_iff.mp hB
  have ch : (chainOf S (outerOf ws)).length ≤ 2 ∧ ∀ x ∈ chainOf S (outerOf ws), (S.fields.lookup x).isSome = true := by
    unfold outerOf chainOf
    by_cases h4 : ws.length = 4
    · rw [if_pos h4]
      unfold kindC at hC
      rw [decide_eq_true h4] at hC
      obtain ⟨_, h3⟩ := Bool.and_eq_true_iff.mp hC
      have h3 := of_decide_eq_true h3
      unfold chainOf at h3
      cases e : S.chains.lookup (item ws 3) with
      | none => simp
      | some c =>
        rw [e] at h3
        have h3 : c.length < 3 := h3
        exact ⟨by show c.length ≤ 2; omega, (h.cf _ (look_in e)).2⟩
    · rw [if_neg h4, no_empty h]
      simp
  unfold kindEnd
  refine ⟨h.p, h.n, h.ws, ?_, ?_, ?_, ?_, ?_, ?_, h.l, h.w, h.q, ?_, ?_, ?_⟩
  · show (S.kinds ++ [_]).length ≤ 4
    simp
    omega
  · show (S.chains ++ [_]).length = (S.kinds ++ [_]).length
    simp [h.c]
  · show (S.fields ++ [_]).length = (S.kinds ++ [_]).length
    simp [h.f]
  · intro c hc
    rcases List.mem_append.mp hc with hc | hc
    · exact ⟨(h.cf c hc).1, fun x hx => look_app (.inl ((h.cf c hc).2 x hx))⟩
    · have : c = (item ws 1, chainOf S (outerOf ws) ++ [item ws 1]) := by simpa using hc
      subst this
      refine ⟨by simp; exact ch.1, fun x hx => look_app ?_⟩
      rcases List.mem_append.mp hx with hx | hx
      · exact .inl (ch.2 x hx)
      · have hx : x = item ws 1 := by simpa using hx
        exact .inr hx.symm
  · intro c hc
    rcases List.mem_append.mp hc with hc | hc
    · exact h.ff c hc
    · have : c = (item ws 1, ("key" : Str) :: fs) := by simpa using hc
      subst this
      simp
      exact hf
  · exact ⟨h.nf.1, fun x hx => look_app (.inl (h.nf.2 x hx))⟩
  · show (S.fields ++ [(item ws 1, (("key" : Str) :: fs))]).map (·.1) = (S.chains ++ [(item ws 1, chainOf S (outerOf ws) ++ [item ws 1])]).map (·.1)
    rw [List.map_append, List.map_append, h.ck]
    rfl
  · intro c hc
    rcases List.mem_append.mp hc with hc | hc
    · exact h.kw c hc
    · have : c = (item ws 1, chainOf S (outerOf ws) ++ [item ws 1]) := by simpa using hc
      rw [this]
      exact hw
  · intro c hc
    rcases List.mem_append.mp hc with hc | hc
    · exact h.kn c hc
    · have : c = (item ws 1, outerOf ws, fs) := by simpa using hc
      rw [this]
      exact hw
theorem inV_24 {n : Nat} : (if false = true then !inV (V.int (n : Int)) [V.int 2, V.int 4] else inV (V.int (n : Int)) [V.int 2, V.int 4]) = (decide (n = 2) || decide (n = 4)) := by
  show ((2 : Int) == (n : Int) || ((4 : Int) == (n : Int) || false)) = _
  by_cases h2 : n = 2
  · subst h2; rfl
  · by_cases h4 : n = 4
    · subst h4; rfl
    · have a : ((2 : Int) == (n : Int)) = false := by simp; omega
      have b : ((4 : Int) == (n : Int)) = false := by simp; omega
      rw [a, b]
      simp [h2, h4]
end Rdr
namespace K7
open PySem L2 Rdr LcX
theorem RdAt.trackedA {C r : Addr} {H : Hp} {A : Adr} {S : Rd} (h : RdAt C H r A S) : ∀ q, H q = none → q ∉ A.all r := fun q hq z => by
  rcases List.mem_append.mp z with z | z
  · exact RdAt.tracked h q z hq
  · exact (h.xt q z).1 hq
abbrev sKind : Stmt := inClass (top 21) 2
def spKind (C cB : Addr) : Sp := fun vs H Q E => ∃ (r wa : Addr) (A : Adr) (S : Rd) (ws : List Str), vs = [.ref r, .ref wa] ∧ RdAt C H r A S ∧ Fine S ∧ Words H wa ws ∧ wa ∉ A.own r ∧ S.pos < S.ls.length ∧ match kindM S ws with
  | .ok S' => ∀ (H' : Hp), But (A.own r) H H' → RdAt C H' r A S' → Fine S' → S.pos < S'.pos → S'.ls = S.ls → Q .non H'
  | .bad n => Bad cB E (A.own r) H n
section
variable {P : Program} {w : World} {K : PySem.W.Frag} {mg : Str → Option Value} {base : Heap} {C cB fB : Addr} {fdB : FuncData}
theorem sc_kind : FnScope ["self", "words", "name", "outer", "fields"] ["self", "words"] (defScope sKind) := ⟨rfl, rfl, rfl, by decide +kernel, rfl, by decide +kernel, by decide +kernel⟩
theorem ok_kind {f : Addr} {fd : FuncData} (F : Fun K "read_kind" "ProgramReader.read_kind" sKind f fd) (T : RT K mg C cB fB fdB) (TC : RC mg) (Gn : MOk P w K mg base 3 C "need" (spNeed C cB)) (Gf : MOk P w K mg base 4 C "read_fields" (spFields C cB)) (Gw : DOk P w K mg base 1 "is_word" spWord) :
    FnOk P w K mg base (L2.CX P w) 5 f fd ["self", "words"] (spKind C cB) := by
  obtain ⟨tA, cA⟩ := TC.MOST_KINDS
  obtain ⟨tC, cC⟩ := TC.MOST_KINDS_IN_ONE_ANOTHER
  refine F.okX sc_kind (fun vs H Q E h => ?_) (fun cdv A outer s H vs Q E hr h => ?_)
  · obtain ⟨r, wa, A, S, ws, rfl, _⟩ := h
    rfl
  · obtain ⟨r, wa, A, S, ws, rfl, R, S1, W, hwa, hpos, kk⟩ := h
    have hr4 : Room 4 _ := hr
    have hr3 : Room 3 _ := hr.mono (by decide)
    have hr1 : Room 1 _ := hr.mono (by decide)
    have hu := hu_of hr
    refine ⟨_, pss_cons (ps_expr (m_meth (pv 0) T.cl Gn hr3 (passes_call (takes_of rfl rfl rfl rfl) (fun _ _ _ _ z => z)) (pa_cons (pe_and (pe_cmpR op_lt (pe_callB call_len_seq (by rfl) T.len PySem.boot_len (pa_cons (pe_fld (pv 0) rfl) pa_nil)) (pe_glob (v := .int 4) rfl cA ⟨_, rfl⟩) (nomark _))
          (pe_one (pe_cmpR op_in_seq (pe_callB call_len_seq (by rfl) T.len PySem.boot_len (pa_cons (pv 1) pa_nil)) (pe_tup (pa_cons pe_int (pa_cons pe_int pa_nil))) (by rfl)))) pa_nil)))
      (pss_cons (ps_set (i := 2) sc_kind.nd rfl (Or.inl rfl) (pe_ix ix_list (pv 1) pe_int (fun _ _ => rfl)))
      (pss_cons (ps_expr (m_meth (pv 0) T.cl Gn hr3 (passes_call (takes_of rfl rfl rfl rfl) (fun _ _ _ _ z => z)) (pa_cons (pe_and (f_call Gw hr1 passL (pa_cons (pv 2) pa_nil)) (pe_one (pe_cmp (pc_dnotin hu (pv 2) (pe_fld (pv 0) rfl)) rfl))) pa_nil)))
      (pss_cons (ps_set (i := 3) sc_kind.nd rfl (Or.inl rfl) pe_str)
      (pss_cons (ps_if (pt_cmpR op_eq (pe_callB call_len_seq (by rfl) T.len PySem.boot_len (pa_cons (pv 1) pa_nil)) pe_int (nomark _))
          (pss_cons (ps_set (i := 3) sc_kind.nd rfl (Or.inl rfl) (pe_ix ix_list (pv 1) pe_int (fun _ _ => rfl)))
          (pss_cons (ps_expr (m_meth (pv 0) T.cl Gn hr3 (passes_call (takes_of rfl rfl rfl rfl) (fun _ _ _ _ z => z)) (pa_cons (pe_and (pe_cmpR op_eq (pe_ix ix_list (pv 1) pe_int (fun _ _ => rfl)) pe_str (nomark _)) (pe_one (pe_cmp (pc_din hu (pv 3) (pe_fld (pv 0) rfl)) rfl))) pa_nil)))
          (pss_one (ps_expr (m_meth (pv 0) T.cl Gn hr3 (passes_call (takes_of rfl rfl rfl rfl) (fun _ _ _ _ z => z)) (pa_cons (pe_cmpR op_lt (pe_callB call_len_seq (by rfl) T.len PySem.boot_len (pa_cons (pe_dget hu (pe_fld (pv 0) rfl) (pv 3) (fun _ _ => rfl)) pa_nil)) (pe_glob (v := .int 3) rfl cC ⟨_, rfl⟩) (nomark _)) pa_nil)))))) pss_nil)
      (pss_cons (ps_fldaug (pv 0) pe_int in_add)
      (pss_cons (ps_set (i := 4) sc_kind.nd rfl (Or.inl rfl) (m_meth0 (pv 0) T.cl Gf hr4 (passes_call (takes_of rfl rfl rfl rfl) (fun _ _ _ _ z => z))))
      (pss_cons (ps_expr (pe_bm PySem.F.plainAttrs_list PySem.F.slot_list_append PySem.F.type_list_append mt_append (pe_fld (pv 0) rfl) (pa_cons (pe_tup (pa_cons (pv 2) (pa_cons (pv 3) (pa_cons (pe_callTy call_tuple_of (by rfl) T.tuple (by decide +kernel) (pa_cons (pv 4) pa_nil)) pa_nil)))) pa_nil)))
      (pss_cons (ps_dput hu (pe_fld (pv 0) rfl) (pv 2) (pe_op op_catA (pe_dget2 hu (pe_fld (pv 0) rfl) (pv 3) (pe_tup pa_nil) ⟨rfl, rfl, rfl, rfl⟩) (pe_tup (pa_cons (pv 2) pa_nil))) rfl)
      (pss_one (ps_dput hu (pe_fld (pv 0) rfl) (pv 2) (pe_op op_cat (pe_lst (pa_cons pe_str pa_nil)) (pv 4)) rfl)))))))))), ?_⟩
    obtain ⟨dx, ob⟩ := R.ob
    obtain ⟨kv, k1, k2⟩ := R.kl
    have lkv := k2.length
    rw [kindM_eq hpos] at kk
    have bad : (kindA S ws && (kindB S ws && kindC S ws)) = false → Bad cB E (A.own r) H ((S.pos : Int) + 1) := fun hb => by
      rw [if_neg (by rw [hb]; simp)] at kk
      exact kk
    have lws : (wlist ws).length = ws.length := by simp
    refine ⟨_, rfl, r, dx, _, rfl, ob, noMeth (by decide +kernel), _, rfl, r, C, dx, _, _, rfl, ob, T.cl, T.kinds, rfl, A.kl, _, rfl, .inl (SqL.of k1), _, _, rfl, rfl, _, rfl, ?_⟩
    refine ite2 (fun h1 => ?_) (fun h1 => ?_)
    · have h1 : S.kinds.length < 4 := by have := of_decide_eq_true h1; omega
      refine ⟨_, rfl, wa, _, rfl, .inl (SqL.of W.at_), (by show 2 ≤ sizeLine; decide), fun t nt => ?_⟩
      refine ⟨_, _, rfl, .inr (SqT.of upd_same), rfl, rfl, ?_⟩
      have s1 := Same.new (o := .tup [V.int 2, V.int 4]) nt
      rw [lws, inV_24]
      have R1 := R.same s1
      obtain ⟨dx1, ob1⟩ := R1.ob
      obtain ⟨cv1, c1, c2⟩ := R1.cd
      have w1 := s1 _ _ W.at_
      refine ⟨r, A, S, _, rfl, R1, fun hb => ?_, fun hb => (bad (by unfold kindA; rw [hb]; simp)).before (.of s1)⟩
      have hA : kindA S ws = true := by unfold kindA; rw [hb, decide_eq_true h1]; rfl
      have h2 : 2 ≤ ws.length := by
        rcases Bool.or_eq_true_iff.mp hb with z | z
        · have := of_decide_eq_true z; omega
        · have := of_decide_eq_true z; omega
      refine ⟨_, rfl, wa, _, _, _, rfl, rfl, SqL.of w1, at_item (i := 1) (by omega), ?_⟩
      refine ⟨_, rfl, r, dx1, _, rfl, ob1, noMeth (by decide +kernel), _, rfl, _, rfl, okw_le (W.ok _ (item_mem (by omega))), fun H2 s2 => ⟨_, rfl, ?_⟩⟩
      have s12 := s1.trans s2
      have R2 := R.same s12
      obtain ⟨dx2, ob2⟩ := R2.ob
      obtain ⟨cv, c1, c2⟩ := R2.cd
      have w2 := s12 _ _ W.at_
      refine ite2 (fun h3 => ?_) (fun h3 => ?_)
      · refine ⟨_, rfl, _, rfl, r, C, dx2, _, _, rfl, ob2, T.cl, T.chains, rfl, A.cd, _, rfl, DGet.k (k := Sum.inr (item ws 1)) c1, r, A, S, _, rfl, R2, fun hb2 => ?_, fun hb2 => (bad ?_).before (.of s12)⟩
        · have hv : valV cv (.inr (item ws 1) : Key) = none := by
            cases e : valV cv (.inr (item ws 1) : Key) with
            | none => rfl
            | some _ => rw [e] at hb2; cases hb2
          have hl : S.chains.lookup (item ws 1) = none := by
            cases e : S.chains.lookup (item ws 1) with
            | none => rfl
            | some c =>
              obtain ⟨_, z, _⟩ := (ch_get c2).1 c e
              rw [hv] at z
              cases z
          have hB : kindB S ws = true := by unfold kindB; rw [h3, hl]; rfl
          refine ⟨_, rfl, wa, _, rfl, .inl (SqL.of w2), rfl, _, rfl, ?_⟩
          rw [lws]
          have out : ∃ o, o = outerOf ws := ⟨_, rfl⟩
          rcases Classical.em (ws.length = 4) with h4 | h4
          all_goals first
            | (rw [decide_eq_true (show V.int (ws.length : Int) = V.int 4 by rw [h4]; rfl)]
               refine iteT ?_
               refine ⟨_, rfl, wa, _, _, _, rfl, rfl, SqL.of w2, at_item (i := 3) (by omega), ?_⟩
               have kC : kindC S ws = ((decide (item ws 2 = "in") && (S.chains.lookup (item ws 3)).isSome) && decide ((chainOf S (item ws 3)).length < 3)) := by unfold kindC; rw [decide_eq_true h4]; rfl
               refine ⟨_, rfl, r, dx2, _, rfl, ob2, noMeth (by decide +kernel), _, rfl, wa, _, _, _, rfl, rfl, SqL.of w2, at_item (i := 2) (by omega), rfl, _, rfl, ?_⟩
               rw [deq_str]
               rcases Classical.em (item ws 2 = "in") with h5 | h5
               all_goals first
                 | (rw [decide_eq_false h5]
                    refine iteF ?_
                    exact ⟨r, A, S, false, rfl, R2, fun hb => Bool.noConfusion hb, fun _ => (bad (by rw [kC, decide_eq_false h5]; simp)).before (.of s12)⟩)
                 | (rw [decide_eq_true h5]
                    refine iteT ?_
                    refine ⟨_, rfl, _, rfl, r, C, dx2, _, _, rfl, ob2, T.cl, T.chains, rfl, A.cd, _, rfl, DGet.k (k := Sum.inr (item ws 3)) c1, ?_⟩
                    rcases Option.eq_none_or_eq_some (S.chains.lookup (item ws 3)) with h6 | ⟨ch, h6⟩
                    all_goals first
                      | (rw [(ch_get c2).2 h6]
                         exact ⟨r, A, S, false, rfl, R2, fun hb => Bool.noConfusion hb, fun _ => (bad (by rw [kC, h6]; simp)).before (.of s12)⟩)
                      | (obtain ⟨ta, hv3, hta⟩ := (ch_get c2).1 ch h6
                         have dg : DGet H2 A.cd (.str (item ws 3)) (some (.ref ta)) := by rw [← hv3]; exact DGet.k (k := Sum.inr (item ws 3)) c1
                         rw [hv3]
                         refine ⟨r, A, S, true, rfl, R2, fun _ => ?_, fun hb => Bool.noConfusion hb⟩
                         have lch : (wlist ch).length = ch.length := by simp
                         have hch : chainOf S (item ws 3) = ch := by unfold chainOf; rw [h6]; rfl
                         refine ⟨_, rfl, r, dx2, _, rfl, ob2, noMeth (by decide +kernel), _, rfl, r, C, dx2, _, _, rfl, ob2, T.cl, T.chains, rfl, _, rfl, A.cd, _, rfl, dg, ta, _, rfl, .inr (SqT.of hta.1), _, _, rfl, rfl, r, A, S, _, rfl, R2, fun hb7 => ?_, fun hb7 => (bad (by
                           have : ¬ ch.length < 3 := fun z => by
                             have := of_decide_eq_false hb7
                             omega
                           rw [kC, hch, decide_eq_false this]; simp)).before (.of s12)⟩
                         have hC : kindC S ws = true := by
                           have : ch.length < 3 := by have := of_decide_eq_true hb7; omega
                           rw [kC, decide_eq_true h5, h6, hch, decide_eq_true this]; rfl
                         have ho : outerOf ws = item ws 3 := if_pos h4
                         generalize item ws 3 = o at ho ⊢)))
            | (rw [decide_eq_false (fun z => h4 (by have := V.int.inj z; omega))]
               refine iteF ?_
               have hC : kindC S ws = true := by unfold kindC; rw [decide_eq_false h4]; rfl
               have ho : outerOf ws = "" := if_neg h4
               generalize (Str.ofString "") = o at ho ⊢)
          all_goals
            rw [if_pos (by rw [hA, hB, hC]; rfl)] at kk
            refine ⟨_, rfl, r, C, dx2, _, _, rfl, ob2, T.cl, T.at_, rfl, _, _, rfl, rfl, dx2, _, ob2, (by show 10 < 1000; decide), ?_⟩
            generalize hH4 : upd H2 r _ = H4
            have R4 : RdAt C H4 r A S.on := by rw [← hH4]; exact R2.goTo (dx := dx2) (S.pos + 1)
            have b4 : But (A.own r) H H4 := by rw [← hH4]; exact (But.of s12).trans (.upd (by simp [Adr.own]))
            obtain ⟨dx4, ob4⟩ := R4.ob
            have f4 := (Adv.step S1 hpos).fine S1
            refine ⟨_, rfl, r, dx4, _, rfl, ob4, noMeth (by decide +kernel), r, A, S.on, rfl, R4, f4, ?_⟩
            cases hm : fieldsM (S.on.ls.length - S.on.pos + 1) S.on [] with
            | bad n =>
              rw [hm] at kk
              exact Bad.before kk b4
            | ok x =>
              obtain ⟨S5, fs⟩ := x
              rw [hm] at kk
              have kk : ∀ (H' : Hp), But (A.own r) H H' → RdAt C H' r A (kindEnd ws S5 fs) → Fine (kindEnd ws S5 fs) → S.pos < (kindEnd ws S5 fs).pos → (kindEnd ws S5 fs).ls = S.ls → Q .non H' := kk
              intro D H5 b5 R5 v5 hfs nD5 hD5
              have f5 := v5.fine f4
              have v05 : Adv S S5 := (Adv.step S1 hpos).trans v5
              have ek : S5.kinds = S.kinds := by rw [v05.eq]
              have ec : S5.chains = S.chains := by rw [v05.eq]
              have ef : S5.fields = S.fields := by rw [v05.eq]
              obtain ⟨dx5, ob5⟩ := R5.ob
              obtain ⟨kv5, k51, k52⟩ := R5.kl
              have lk5 := k52.length
              refine ⟨_, rfl, r, C, dx5, _, _, rfl, ob5, T.cl, T.kinds, rfl, .inl ⟨rfl, _, SqL.of k51⟩, _, rfl, _, rfl, _, rfl, D, _, rfl, .inl ⟨SqL.of hD5, fun f nf => ⟨(by show 3 ≤ sizeLine; decide), fun t' nt' => ?_⟩⟩⟩
              have sf := Same.new (o := .tup (wlist fs)) nf
              have hf1 : upd H5 f (.tup (wlist fs)) f = some (.tup (wlist fs)) := upd_same
              generalize hH6 : upd (upd H5 f _) t' _ = H6
              have s6 : Same H5 H6 := by rw [← hH6]; exact sf.trans (Same.new nt')
              have ht6 : H6 t' = some (.tup [.str (item ws 1), .str o, .ref f]) := by rw [← hH6]; exact upd_same
              have hf6 : H6 f = some (.tup (wlist fs)) := by rw [← hH6, upd_ne (ne_of_none hf1 nt')]; exact hf1
              have R6 := R5.same s6
              have ft := RdAt.trackedA R5 f nf
              have tt := RdAt.trackedA (R5.same sf) t' nt'
              have R7 := R6.addKind (s6 _ _ k51) (v := .ref t') (k := (item ws 1, o, fs)) ⟨t', f, rfl, ⟨ht6, tt⟩, ⟨hf6, ft⟩⟩
              refine ⟨A.kl, kv5, _, rfl, rfl, s6 _ _ k51, ?_, ?_⟩
              · have := le_line (n := 20002) (by omega)
                rw [lk5, ek]
                omega
              generalize hH7 : upd H6 A.kl _ = H7
              have R7 : RdAt C H7 r A { S5 with kinds := S5.kinds ++ [(item ws 1, o, fs)] } := by rw [← hH7]; exact R7
              have b7 : But (A.own r) H5 H7 := by rw [← hH7]; exact (But.of s6).trans (.upd (by simp [Adr.own]))
              have nDo : D ∉ A.own r := fun z => RdAt.tracked R4 D z nD5
              have hD7 : H7 D = some (.lst (wlist fs)) := b7.keep _ _ hD5 nDo
              obtain ⟨dx7, ob7⟩ := R7.ob
              obtain ⟨cv7, c71, c72⟩ := R7.cd
              have c72 : Paired (ChAt H7 (A.all r)) cv7 S5.chains := c72
              have b07 : But (A.own r) H H7 := (b4.trans b5).trans b7
              have hvn : valV cv7 (.inr (item ws 1) : Key) = none := (ch_get c72).2 (by rw [ec]; exact hl)
              refine ⟨_, rfl, r, C, dx7, _, _, rfl, ob7, T.cl, T.chains, rfl, A.cd, rfl, .inl ⟨_, .inl c71⟩, _, rfl, (by show 0 ≤ sizeLine; decide), fun u nu => ?_⟩
              have su := Same.new (o := .tup []) nu
              have hu1 : upd H7 u (.tup []) u = some (.tup []) := upd_same
              generalize hH8 : upd H7 u _ = H8 at hu1 su ⊢
              have R8 := R7.same su
              refine ⟨_, DGet.k (k := Sum.inr o) (su _ _ c71), _, rfl, (by show 1 ≤ sizeLine; decide), fun v nv => ?_⟩
              have sv := Same.new (o := .tup [V.str (item ws 1)]) nv
              have hv1 : upd H8 v (.tup [V.str (item ws 1)]) v = some (.tup [V.str (item ws 1)]) := upd_same
              have nvn : v ∉ A.all r := RdAt.trackedA R8 v nv
              generalize hH9 : upd H8 v _ = H9 at hv1 sv ⊢
              have s79 : Same H7 H9 := su.trans sv
              have R9 := R8.same sv
              obtain ⟨a9, ea, ha9⟩ : ∃ a, (valV cv7 (.inr o : Key)).getD (.ref u) = .ref a ∧ H9 a = some (.tup (wlist (chainOf S5 o))) := by
                cases e : S5.chains.lookup o with
                | none =>
                  rw [(ch_get c72).2 e]
                  exact ⟨u, rfl, by unfold chainOf; rw [e]; exact sv _ _ hu1⟩
                | some c =>
                  obtain ⟨ta, z1, z2⟩ := (ch_get c72).1 c e
                  rw [z1]
                  exact ⟨ta, rfl, by unfold chainOf; rw [e]; exact s79 _ _ z2.1⟩
              have lc : (chainOf S5 o).length ≤ 3 := by
                unfold chainOf
                cases e : S5.chains.lookup o with
                | none => simp
                | some c => exact (f5.cf _ (look_in e)).1
              rw [ea]
              -- the chain and the name
              have fin : ∀ (z : Addr) (H10 : Hp), Same H7 H10 → H10 z = some (.tup (wlist (chainOf S5 o ++ [item ws 1]))) → z ∉ A.all r → ∃ (H11 : Hp), H11 = upd H10 A.cd (.dK (cv7 ++ [(Sum.inr (item ws 1), .ref z)])) ∧ DPut H10 A.cd (.str (item ws 1)) (.ref z) H11 ∧ RdAt C H11 r A { S5 with kinds := S5.kinds ++ [(item ws 1, o, fs)], chains := S5.chains ++ [(item ws 1, chainOf S5 o ++ [item ws 1])] } ∧ But (A.own r) H7 H11 ∧ H11 D = some (.lst (wlist fs)) ∧ ∃ dx, H10 r = some (.ins C dx (A.flds S5.pos)) := fun z H10 s10 hz nz => by
                have c10 := s10 _ _ c71
                refine ⟨_, rfl, ?_, ?_, (But.of s10).trans (.upd (by simp [Adr.own])), ?_, (R7.same s10).ob⟩
                · have := DPut.k (k := (Sum.inr (item ws 1) : Key)) (v := .ref z) c10 (by
                    have := le_line (n := 20002) (by omega)
                    have := c72.length
                    rw [this, ec, S1.c]
                    omega)
                  rw [putK_new _ hvn] at this
                  exact this
                · exact (R7.same s10).addChain c10 (v := (Sum.inr (item ws 1), .ref z)) (k := (item ws 1, chainOf S5 o ++ [item ws 1])) ⟨rfl, z, rfl, hz, nz⟩
                · rw [upd_ne (fun e => nDo (by rw [e]; simp [Adr.own]))]
                  exact s10 _ _ hD7
              have endit : ∀ (H11 : Hp), RdAt C H11 r A { S5 with kinds := S5.kinds ++ [(item ws 1, o, fs)], chains := S5.chains ++ [(item ws 1, chainOf S5 o ++ [item ws 1])] } → But (A.own r) H7 H11 → H11 D = some (.lst (wlist fs)) →
                  ∀ (l : Addr), H11 l = none → ∀ (p : Addr), (upd H11 l (.lst [V.str "key"])) p = none → ∃ (fv : List (Key × V)) (H12 : Hp), (upd (upd H11 l (.lst [V.str "key"])) p (.lst ([V.str "key"] ++ wlist fs))) A.fd = some (.dK fv) ∧ DPut (upd (upd H11 l (.lst [V.str "key"])) p (.lst ([V.str "key"] ++ wlist fs))) A.fd (.str (item ws 1)) (.ref p) H12 ∧ Q .non H12 := fun H11 R11 b11 hD11 l nl p np => by
                have s12' := (Same.new (o := .lst [V.str "key"]) nl).trans (Same.new (o := .lst ([V.str "key"] ++ wlist fs)) np)
                have R12 := R11.same s12'
                obtain ⟨fv, f121, f122⟩ := R12.fd
                have f122 : Paired (FdAt _ (A.all r)) fv S5.fields := f122
                have hfn : valV fv (.inr (item ws 1) : Key) = none := (fd_get f122).2 (by
                  rw [ef]
                  refine look_mem.mpr ?_
                  rw [S1.ck]
                  exact look_mem.mp hl)
                have pn : p ∉ A.all r := RdAt.trackedA (R11.same (Same.new (o := .lst [V.str "key"]) nl)) p np
                have dp := DPut.k (k := (Sum.inr (item ws 1) : Key)) (v := .ref p) f121 (by
                  have := le_line (n := 20002) (by omega)
                  have := f122.length
                  rw [this, ef, S1.f]
                  omega)
                rw [putK_new _ hfn] at dp
                refine ⟨fv, _, f121, dp, ?_⟩
                have ho5 : kindEnd ws S5 fs = { S5 with kinds := S5.kinds ++ [(item ws 1, o, fs)], chains := S5.chains ++ [(item ws 1, chainOf S5 o ++ [item ws 1])], fields := S5.fields ++ [(item ws 1, ("key" : Str) :: fs)] } := by unfold kindEnd; rw [ho]
                refine kk _ (((b07.trans b11).trans (.of s12')).trans (.upd (by simp [Adr.own]))) ?_ ?_ ?_ ?_
                · rw [ho5]
                  exact R12.addField f121 (v := (Sum.inr (item ws 1), .ref p)) (k := (item ws 1, ("key" : Str) :: fs)) ⟨rfl, p, rfl, upd_same, pn⟩
                · refine kind_fine f5 (by rw [ek]; exact h1) ?_ ?_ hfs
                  · unfold kindB at hB ⊢
                    rw [ec]
                    exact hB
                  · unfold kindC chainOf at hC ⊢
                    rw [ec]
                    exact hC
                · show S.pos < S5.pos
                  have := v5.le
                  have e : S.on.pos = S.pos + 1 := rfl
                  omega
                · show S5.ls = S.ls
                  rw [v05.eq]
              refine ⟨a9, v, _, _, rfl, rfl, SqT.of ha9, SqT.of hv1, ?_, fun hx => ?_, (fun hx hy => by cases hy), fun hx hy p np => ?_⟩
              · have := le_line (n := 20002) (by omega)
                rw [List.length_map]
                show (chainOf S5 o).length + 1 ≤ sizeLine
                omega
              all_goals first
                | (have hx : chainOf S5 o = [] := by
                     cases e : chainOf S5 o with
                     | nil => rfl
                     | cons _ _ => rw [e] at hx; cases hx
                   obtain ⟨H11, e11, dp, R11, b11, hD11, dx10, ob10⟩ := fin v H9 s79 (by rw [hx]; exact hv1) nvn)
                | (obtain ⟨H11, e11, dp, R11, b11, hD11, dx10, ob10⟩ := fin p (upd H9 p (.tup (wlist (chainOf S5 o) ++ [V.str (item ws 1)]))) (s79.trans (Same.new np)) (by rw [upd_same]; simp [wlist]) (RdAt.trackedA R9 p np))
              all_goals
                obtain ⟨dx11, ob11⟩ := R11.ob
                refine ⟨_, rfl, r, C, dx10, _, _, rfl, ob10, T.cl, T.chains, rfl, _, rfl, A.cd, H11, rfl, dp, ?_⟩
                refine ⟨(by show 1 ≤ sizeLine; decide), fun l nl => ?_⟩
                have sl := Same.new (o := .lst [V.str "key"]) nl
                refine ⟨_, rfl, l, D, _, _, rfl, rfl, upd_same, sl _ _ hD11, ?_, fun p' np' => ?_⟩
                · have := le_line (n := 20002) (by omega)
                  rw [List.length_map]
                  show 1 + fs.length ≤ sizeLine
                  omega
                obtain ⟨fv, H12, g1, g2, g3⟩ := endit H11 R11 b11 hD11 l nl p' np'
                exact ⟨_, rfl, r, C, dx11, _, _, rfl, (sl.trans (Same.new np')) _ _ ob11, T.cl, T.fields, rfl, _, rfl, A.fd, H12, rfl, g2, g3⟩
        · have hl : (S.chains.lookup (item ws 1)).isNone = false := by
            cases e : S.chains.lookup (item ws 1) with
            | none =>
              rw [(ch_get c2).2 e] at hb2
              cases hb2
            | some c => rfl
          unfold kindB
          rw [hl]
          simp
      · have h3 : word (item ws 1) = false := by simpa using h3
        exact ⟨r, A, S, false, rfl, R2, fun hb => Bool.noConfusion hb, fun _ => (bad (by unfold kindB; rw [h3]; simp)).before (.of s12)⟩
    · have h1 : ¬ S.kinds.length < 4 := fun z => h1 (decide_eq_true (by omega))
      exact ⟨r, A, S, false, rfl, R, fun hb => Bool.noConfusion hb, fun _ => bad (by unfold kindA; rw [decide_eq_false h1]; rfl)⟩
end
end K7

set_option Elab.async false
set_option linter.all false
set_option maxRecDepth 100000
namespace Rdr
open PySem L2
def cellA (S : Rd) (ws : List Str) : Bool := decide (S.cells.length < 2) && decide (ws.length = 3)
def cellB (S : Rd) (ws : List Str) : Bool := word (item ws 1) && (!S.cells.contains (item ws 1) && (decide (item ws 2 = "2") || decide (item ws 2 = "3")))
def cellEnd (S : Rd) (ws : List Str) : Rd := { S with cells := S.cells ++ [item ws 1], worths := S.worths ++ [if item ws 2 = "2" then 2 else 3], pos := S.pos + 1 }
theorem cellM_eq {S : Rd} {ws : List Str} : cellM S ws = if (cellA S ws && cellB S ws) = true then .ok (cellEnd S ws) else .bad ((S.pos : Int) + 1) := by
  unfold cellM cellA cellB
  rw [need_need, need_eq]
  simp only [Bool.and_assoc]
  rfl
end Rdr
namespace K7
open PySem L2 Rdr LcX
abbrev sCell : Stmt := inClass (top 21) 6
/-- cells and lines apart, all as it was -/
structure AdvC (S S' : Rd) : Prop where
  eq : S' = { S with pos := S'.pos, cells := S'.cells, worths := S'.worths }
  le : S.pos ≤ S'.pos
theorem AdvC.refl {S : Rd} : AdvC S S := ⟨rfl, Nat.le_refl _⟩
theorem AdvC.trans {S S1 S2 : Rd} (a : AdvC S S1) (b : AdvC S1 S2) : AdvC S S2 := ⟨by
  have h1 := b.eq
  rw [a.eq] at h1
  exact h1, Nat.le_trans a.le b.le⟩
def spCell (C cB : Addr) : Sp := fun vs H Q E => ∃ (r wa : Addr) (A : Adr) (S : Rd) (ws : List Str), vs = [.ref r, .ref wa] ∧ RdAt C H r A S ∧ Fine S ∧ Words H wa ws ∧ wa ∉ A.own r ∧ S.pos < S.ls.length ∧ 0 < ws.length ∧ match cellM S ws with
  | .ok S' => ∀ (H' : Hp), But (A.own r) H H' → RdAt C H' r A S' → Fine S' → S'.pos = S.pos + 1 → AdvC S S' → Q .non H'
  | .bad n => Bad cB E (A.own r) H n
structure RW (K : PySem.W.Frag) (mg : Str → Option Value) (aW : Addr) : Prop where
  mg_ : mg "WORTHS" = some (.ref aW)
  at_ : ∀ H : Hp, SqT K H aW [.str "2", .str "3"]
section
variable {P : Program} {w : World} {K : PySem.W.Frag} {mg : Str → Option Value} {base : Heap} {C cB fB : Addr} {fdB : FuncData}
theorem sc_cell : FnScope ["self", "words"] ["self", "words"] (defScope sCell) := ⟨rfl, rfl, rfl, by decide +kernel, rfl, by decide +kernel, by decide +kernel⟩
theorem ok_cell {f aW : Addr} {fd : FuncData} (F : Fun K "read_cell" "ProgramReader.read_cell" sCell f fd) (T : RT K mg C cB fB fdB) (TC : RC mg) (TW : RW K mg aW) (Gn : MOk P w K mg base 3 C "need" (spNeed C cB)) (Gw : DOk P w K mg base 1 "is_word" spWord) :
    FnOk P w K mg base (L2.CX P w) 4 f fd ["self", "words"] (spCell C cB) := by
  obtain ⟨tC, cC⟩ := TC.MOST_CELLS
  refine F.okX sc_cell (fun vs H Q E h => ?_) (fun cdv A outer s H vs Q E hr h => ?_)
  · obtain ⟨r, wa, A, S, ws, rfl, _⟩ := h
    rfl
  · obtain ⟨r, wa, A, S, ws, rfl, R, S1, W, hwa, hpos, h0, kk⟩ := h
    have hr3 : Room 3 _ := hr
    have hr1 : Room 1 _ := hr.mono (by decide)
    refine ⟨_, pss_cons (ps_expr (m_meth (pv 0) T.cl Gn hr3 (passes_call (takes_of rfl rfl rfl rfl) (fun _ _ _ _ z => z)) (pa_cons (pe_and (pe_cmpR op_lt (pe_callB call_len_seq (by rfl) T.len PySem.boot_len (pa_cons (pe_fld (pv 0) rfl) pa_nil)) (pe_glob (v := .int 2) rfl cC ⟨_, rfl⟩) (nomark _))
          (pe_one (pe_cmpR op_eq (pe_callB call_len_seq (by rfl) T.len PySem.boot_len (pa_cons (pv 1) pa_nil)) pe_int (nomark _)))) pa_nil)))
      (pss_cons (ps_expr (m_meth (pv 0) T.cl Gn hr3 (passes_call (takes_of rfl rfl rfl rfl) (fun _ _ _ _ z => z)) (pa_cons (pe_and (f_call Gw hr1 passL (pa_cons (pe_ix ix_list (pv 1) pe_int (fun _ _ => rfl)) pa_nil))
          (pe_and (pe_cmpR op_notIn_seq (pe_ix ix_list (pv 1) pe_int (fun _ _ => rfl)) (pe_fld (pv 0) rfl) (by rfl)) (pe_one (pe_cmpR op_in_seq (pe_ix ix_list (pv 1) pe_int (fun _ _ => rfl)) (pe_glob (v := .ref aW) rfl TW.mg_ rfl) (by rfl))))) pa_nil)))
      (pss_cons (ps_expr (pe_bm PySem.F.plainAttrs_list PySem.F.slot_list_append PySem.F.type_list_append mt_append (pe_fld (pv 0) rfl) (pa_cons (pe_ix ix_list (pv 1) pe_int (fun _ _ => rfl)) pa_nil)))
      (pss_cons (ps_expr (pe_bm PySem.F.plainAttrs_list PySem.F.slot_list_append PySem.F.type_list_append mt_append (pe_fld (pv 0) rfl) (pa_cons (pe_callTy call_int_str (by rfl) T.int (by decide +kernel) (pa_cons (pe_ix ix_list (pv 1) pe_int (fun _ _ => rfl)) pa_nil)) pa_nil)))
      (pss_one (ps_fldaug (pv 0) pe_int in_add))))), ?_⟩
    obtain ⟨dx, ob⟩ := R.ob
    rw [cellM_eq] at kk
    have bad : (cellA S ws && cellB S ws) = false → Bad cB E (A.own r) H ((S.pos : Int) + 1) := fun hb => by
      rw [if_neg (by rw [hb]; simp)] at kk
      exact kk
    have lws : (wlist ws).length = ws.length := by simp
    have lcs : (wlist S.cells).length = S.cells.length := by simp
    refine ⟨_, rfl, r, dx, _, rfl, ob, noMeth (by decide +kernel), _, rfl, r, C, dx, _, _, rfl, ob, T.cl, T.cells, rfl, A.cl, _, rfl, .inl (SqL.of R.cl), _, _, rfl, rfl, _, rfl, ?_⟩
    rw [lcs]
    refine ite2 (fun h1 => ?_) (fun h1 => ?_)
    · have h1 : S.cells.length < 2 := by have := of_decide_eq_true h1; omega
      refine ⟨_, rfl, wa, _, rfl, .inl (SqL.of W.at_), rfl, r, A, S, _, rfl, R, fun hb => ?_, fun hb => bad ?_⟩
      · have h3 : ws.length = 3 := by have := V.int.inj (of_decide_eq_true hb); omega
        have hA : cellA S ws = true := by unfold cellA; rw [decide_eq_true h1, decide_eq_true h3]; rfl
        refine ⟨_, rfl, r, dx, _, rfl, ob, noMeth (by decide +kernel), _, rfl, wa, _, _, _, rfl, rfl, SqL.of W.at_, at_item (i := 1) (by omega), _, rfl, okw_le (W.ok _ (item_mem (by omega))), fun H1 s1 => ⟨_, rfl, ?_⟩⟩
        have R1 := R.same s1
        obtain ⟨dx1, ob1⟩ := R1.ob
        have w1 := s1 _ _ W.at_
        refine ite2 (fun h4 => ?_) (fun h4 => ?_)
        · refine ⟨_, rfl, wa, _, _, _, rfl, rfl, SqL.of w1, at_item (i := 1) (by omega), _, rfl, r, C, dx1, _, _, rfl, ob1, T.cl, T.cells, rfl, _, _, rfl, .inl (SqL.of R1.cl), rfl, flat_wlist, _, rfl, ?_⟩
          have e1 : (if true = true then !inV (V.str (item ws 1)) (wlist S.cells) else inV (V.str (item ws 1)) (wlist S.cells)) = !S.cells.contains (item ws 1) := by rw [if_pos rfl, in_wlist]
          rw [e1]
          refine ite2 (fun h5 => ?_) (fun h5 => ?_)
          · have e2 : (if false = true then !inV (V.str (item ws 2)) [V.str "2", V.str "3"] else inV (V.str (item ws 2)) [V.str "2", V.str "3"]) = (decide (item ws 2 = "2") || decide (item ws 2 = "3")) := by
              have := in_wlist (x := item ws 2) (ws := ["2", "3"])
              rw [if_neg (by simp)]
              refine this.trans ?_
              simp only [List.contains_cons, List.contains_nil, Bool.or_false]
              rfl
            refine ⟨_, rfl, wa, _, _, _, rfl, rfl, SqL.of w1, at_item (i := 2) (by omega), aW, _, rfl, .inr (TW.at_ _), rfl, rfl, ?_⟩
            rw [e2]
            refine ⟨r, A, S, _, rfl, R1, fun hb6 => ?_, fun hb6 => (bad (by unfold cellB; rw [hb6]; simp)).before (.of s1)⟩
            have hB : cellB S ws = true := by unfold cellB; rw [h4, h5, hb6]; rfl
            rw [if_pos (by rw [hA, hB]; rfl)] at kk
            have len2 : (wlist S.cells).length < sizeLine := by
              have := le_line (n := 20002) (by omega)
              omega
            refine ⟨_, rfl, r, C, dx1, _, _, rfl, ob1, T.cl, T.cells, rfl, .inl ⟨rfl, _, SqL.of R1.cl⟩, _, rfl, wa, _, _, _, rfl, rfl, SqL.of w1, at_item (i := 1) (by omega), A.cl, _, _, rfl, rfl, R1.cl, len2, ?_⟩
            have R2 := R1.addCell (item ws 1)
            generalize hH2 : upd H1 A.cl _ = H2
            have R2 : RdAt C H2 r A { S with cells := S.cells ++ [item ws 1] } := by rw [← hH2]; exact R2
            have b2 : But (A.own r) H1 H2 := by rw [← hH2]; exact .upd (by simp [Adr.own])
            obtain ⟨dx2, ob2⟩ := R2.ob
            have w2 := b2.keep _ _ w1 hwa
            obtain ⟨z, hz, hzl, hzv⟩ : ∃ z, PySem.intText? (item ws 2) = some z ∧ (item ws 2).length ≤ 640 ∧ z = (if item ws 2 = "2" then 2 else 3) := by
              rcases Bool.or_eq_true_iff.mp hb6 with y | y
              · have y := of_decide_eq_true y
                rw [y]
                exact ⟨2, by decide +kernel, by decide, by decide⟩
              · have y := of_decide_eq_true y
                rw [y]
                exact ⟨3, by decide +kernel, by decide, by decide⟩
            have len3 : (ilist S.worths).length < sizeLine := by
              have := le_line (n := 20002) (by omega)
              have := S1.w.1
              rw [List.length_map]
              omega
            refine ⟨_, rfl, r, C, dx2, _, _, rfl, ob2, T.cl, T.worths, rfl, .inl ⟨rfl, _, SqL.of R2.wl⟩, _, rfl, wa, _, _, _, rfl, rfl, SqL.of w2, at_item (i := 2) (by omega), _, z, rfl, hz, hzl, A.wl, _, _, rfl, rfl, R2.wl, len3, ?_⟩
            have R3 := R2.addWorth z
            generalize hH3 : upd H2 A.wl _ = H3
            have R3 : RdAt C H3 r A { S with cells := S.cells ++ [item ws 1], worths := S.worths ++ [z] } := by rw [← hH3]; exact R3
            have b3 : But (A.own r) H2 H3 := by rw [← hH3]; exact .upd (by simp [Adr.own])
            obtain ⟨dx3, ob3⟩ := R3.ob
            refine ⟨_, rfl, r, C, dx3, _, _, rfl, ob3, T.cl, T.at_, rfl, _, _, rfl, rfl, dx3, _, ob3, (by show 10 < 1000; decide), ?_⟩
            have es : cellEnd S ws = { S with cells := S.cells ++ [item ws 1], worths := S.worths ++ [z], pos := S.pos + 1 } := by unfold cellEnd; rw [hzv]
            refine kk _ ((((But.of s1).trans b2).trans b3).trans (.upd (by simp [Adr.own]))) (by rw [es]; exact R3.goTo (dx := dx3) (S.pos + 1)) ?_ rfl ⟨rfl, Nat.le_succ _⟩
            rw [es]
            have hw := S1.w
            exact ⟨hpos, S1.n, S1.ws, S1.k, S1.c, S1.f, S1.cf, S1.ff, S1.nf, Nat.le_succ_of_le S1.l, ⟨by simp [hw.1], by simp; omega, fun x hx => by
              rcases List.mem_append.mp hx with hx | hx
              · exact hw.2.2 x hx
              · have hx : x = z := by simpa using hx
                rw [hx, hzv]
                by_cases e : item ws 2 = "2"
                · exact .inl (if_pos e)
                · exact .inr (if_neg e)⟩, S1.q, S1.ck, S1.kw, S1.kn⟩
          · exact ⟨r, A, S, false, rfl, R1, fun hb => Bool.noConfusion hb, fun _ => (bad (by unfold cellB; rw [show (!S.cells.contains (item ws 1)) = false by simpa using h5]; simp)).before (.of s1)⟩
        · have h4 : word (item ws 1) = false := by simpa using h4
          exact ⟨r, A, S, false, rfl, R1, fun hb => Bool.noConfusion hb, fun _ => (bad (by unfold cellB; rw [h4]; simp)).before (.of s1)⟩
      · have h3 : ¬ ws.length = 3 := fun z => by
          have := of_decide_eq_false hb
          exact this (by rw [lws, z]; rfl)
        unfold cellA
        rw [decide_eq_false h3]
        simp
    · have h1 : ¬ S.cells.length < 2 := fun z => h1 (decide_eq_true (by omega))
      exact ⟨r, A, S, false, rfl, R, fun hb => Bool.noConfusion hb, fun _ => bad (by unfold cellA; rw [decide_eq_false h1]; rfl)⟩
end
end K7

set_option Elab.async false
set_option linter.all false
set_option maxRecDepth 100000
namespace K7
open PySem L2 Rdr LcX
abbrev sPlaces : Stmt := inClass (top 21) 5
abbrev sPartInit : Stmt := inClass (top 20) 0
def PlAt (H : Hp) (M : List Addr) (v : V) (p : Str × Str) : Prop := ∃ t, v = .ref t ∧ Fix H M t (.tup [.str p.1, .str p.2])
theorem PlAt.carry {H H' : Hp} {M N : List Addr} (c : Carry H H' M N) {v : V} {p : Str × Str} (h : PlAt H M v p) : PlAt H' N v p := by
  obtain ⟨t, e, f⟩ := h
  exact ⟨t, e, c.fx _ _ f⟩
theorem Pr.app {α β : Type} {F : α → β → Prop} : ∀ {xs xs' : List α} {ys ys' : List β}, Paired F xs ys → Paired F xs' ys' → Paired F (xs ++ xs') (ys ++ ys')
  | _, _, _, _, .nil, h => h
  | _, _, _, _, .cons g t, h => .cons g (Pr.app t h)
def spPlaces (C : Addr) : Sp := fun vs H Q _ => ∃ (r : Addr) (A : Adr) (S : Rd), vs = [.ref r] ∧ RdAt C H r A S ∧ Fine S ∧
  ∀ (D : Addr) (ps : List V) (H' : Hp), Same H H' → H D = none → H' D = some (.lst ps) → Paired (PlAt H' (A.all r)) ps (places S) → Q (.ref D) H'
def spPartInit (cP : Addr) : Sp := fun vs H Q _ => ∃ (p dx : Addr) (a b : V), vs = [.ref p, a, b] ∧ H p = some (.ins cP dx []) ∧ ∀ H', But [p] H H' → Q .non H'
structure RP (K : PySem.W.Frag) (cP : Addr) : Prop where
  cl : Cls K cP
  worths : NoAttr K cP "worths"
  blocks : NoAttr K cP "blocks"
section
variable {P : Program} {w : World} {K : PySem.W.Frag} {mg : Str → Option Value} {base : Heap} {C cB fB : Addr} {fdB : FuncData}
theorem sc_partInit : FnScope ["self", "worths", "blocks"] ["self", "worths", "blocks"] (defScope sPartInit) := ⟨rfl, rfl, rfl, by decide +kernel, rfl, by decide +kernel, by decide +kernel⟩
theorem ok_partInit {f cP : Addr} {fd : FuncData} (F : Fun K "__init__" "Part.__init__" sPartInit f fd) (T : RP K cP) : FnOk P w K mg base (L2.CX P w) 1 f fd ["self", "worths", "blocks"] (spPartInit cP) := by
  refine F.okX sc_partInit (fun vs H Q E h => ?_) (fun cdv A outer s H vs Q E hr h => ?_)
  · obtain ⟨p, dx, a, b, rfl, _⟩ := h
    rfl
  · obtain ⟨p, dx, a, b, rfl, hp, k⟩ := h
    refine ⟨_, pss_cons (ps_fld (pv 0) (pv 1) rfl) (pss_one (ps_fld (pv 0) (pv 2) rfl)), ?_⟩
    refine ⟨_, rfl, _, rfl, p, cP, dx, [], rfl, hp, T.cl, T.worths, (by show 0 < 1000; decide), _, rfl, _, rfl, p, cP, dx, _, rfl, upd_same, T.cl, T.blocks, (by show 1 < 1000; decide), ?_⟩
    refine k _ ⟨fun x o hx hn => ?_, fun x hx => ?_⟩
    · have : x ≠ p := by simpa using hn
      rw [upd_ne this, upd_ne this]
      exact hx
    · exact upd_none (upd_none hx)
theorem sc_places : FnScope ["self", "places", "name", "_"] ["self"] (defScope sPlaces) := ⟨rfl, rfl, rfl, by decide +kernel, rfl, by decide +kernel, by decide +kernel⟩
theorem ok_places {f : Addr} {fd : FuncData} (F : Fun K "places" "ProgramReader.places" sPlaces f fd) (T : RT K mg C cB fB fdB) : FnOk P w K mg base (L2.CX P w) 1 f fd ["self"] (spPlaces C) := by
  refine F.okX sc_places (fun vs H Q E h => ?_) (fun cdv A outer s H vs Q E hr h => ?_)
  · obtain ⟨r, A, S, rfl, _⟩ := h
    rfl
  · obtain ⟨r, A, S, rfl, R, S1, k⟩ := h
    refine ⟨_, pss_cons (ps_set (i := 1) sc_places.nd rfl (Or.inl rfl) (pe_lst (pa_cons (pe_tup (pa_cons pe_str (pa_cons pe_str pa_nil))) pa_nil)))
      (pss_cons (ps_for (passes_of rfl) rfl (pi_list (pe_fld (pv 0) rfl)) (pg_tup rfl (pgs_cons (pg_name (i := 2) sc_places.nd rfl (Or.inl rfl)) (pgs_cons (pg_name (i := 3) sc_places.nd rfl (Or.inl rfl)) (pgs_cons (pg_name (i := 3) sc_places.nd rfl (Or.inl rfl)) pgs_nil))))
        (pss_one (ps_expr (pe_bm PySem.F.plainAttrs_list PySem.F.slot_list_extend PySem.F.type_list_extend mt_extend (pv 1) (pa_cons (pe_lst (pa_cons (pe_tup (pa_cons pe_str (pa_cons (pv 2) pa_nil))) (pa_cons (pe_tup (pa_cons pe_str (pa_cons (pv 2) pa_nil))) pa_nil))) pa_nil)))))
      (pss_one (ps_ret (pe_op op_cat (pv 1) (pe_lst (pa_cons (pe_tup (pa_cons pe_str (pa_cons pe_str pa_nil))) pa_nil)))))), ?_⟩
    refine ⟨(by show 2 ≤ sizeLine; decide), fun t0 nt0 => ⟨(by show 1 ≤ sizeLine; decide), fun D nD => ?_⟩⟩
    have st0 := Same.new (o := .tup [V.str "begin", V.str ""]) nt0
    have ht0 : upd H t0 (.tup [V.str "begin", V.str ""]) t0 = some (.tup [V.str "begin", V.str ""]) := upd_same
    generalize hH1 : upd (upd H t0 _) D _ = H1
    have s1 : Same H H1 := by rw [← hH1]; exact st0.trans (Same.new nD)
    have hD1 : H1 D = some (.lst [.ref t0]) := by rw [← hH1]; exact upd_same
    have ht1 : H1 t0 = some (.tup [V.str "begin", V.str ""]) := by rw [← hH1, upd_ne (ne_of_none ht0 nD)]; exact ht0
    have nDa : D ∉ A.all r := RdAt.trackedA (R.same st0) D nD
    have nta : t0 ∉ A.all r := RdAt.trackedA R t0 nt0
    have tD : t0 ≠ D := ne_of_none ht0 nD
    have R1 := R.same s1
    obtain ⟨dx, ob⟩ := R1.ob
    obtain ⟨kv, k1, k2⟩ := R1.kl
    have nDk : ∀ q ∈ A.all r, q ≠ D := fun q hq z => nDa (z ▸ hq)
    have lk := k2.length
    have lk4 := S1.k
    -- behind i kinds: the places so far; all that was there but D stands
    refine ⟨_, rfl, r, C, dx, _, _, rfl, ob, T.cl, T.kinds, rfl, A.kl, rfl, ⟨_, SqL.of k1⟩, for_list (K := K) (a := A.kl) (xs := kv) (fun i σ H' => ∃ (v2 v3 : Option V) (ps : List V), σ = [some (.ref r), some (.ref D), v2, v3] ∧ But [D] H1 H' ∧ H' D = some (.lst ps) ∧ ps.length ≤ 1 + 2 * i ∧
        Paired (PlAt H' (D :: A.all r)) ps ([(("begin" : Str), ("" : Str))] ++ (S.kinds.take i).flatMap (fun k => [(("open" : Str), k.1), (("close" : Str), k.1)])))
      ⟨none, none, [.ref t0], rfl, .refl, hD1, by simp, .cons ⟨t0, rfl, ht1, by simp [tD, nta]⟩ .nil⟩ (fun i σ H' _ ⟨_, _, _, _, b, _⟩ => SqL.of (b.keep _ _ k1 (by simp; exact nDk _ (by simp [Adr.all, Adr.own])))) ?_ ?_⟩
    · rintro i y σ H2 hi ⟨v2, v3, ps, rfl, b2, hD2, lp, pr⟩
      have hil : i < kv.length := (List.getElem?_eq_some_iff.mp hi).1
      obtain ⟨kd, hkd⟩ : ∃ kd, S.kinds[i]? = some kd := ⟨_, List.getElem?_eq_getElem (by omega)⟩
      obtain ⟨y', hy', t, f, ey, ft, ff⟩ := Pr.at k2 hkd
      rw [hi] at hy'
      cases hy'
      subst ey
      have hti := b2.keep _ _ ft.1 (by simpa using ne_of ft.1 hD1 (by intro z; cases z))
      refine ⟨t, _, rfl, SqT.of hti, rfl, _, _, rfl, _, _, rfl, _, _, rfl, rfl, ?_⟩
      refine ⟨_, rfl, .inl ⟨rfl, _, SqL.of hD2⟩, _, rfl, (by show 2 ≤ sizeLine; decide), fun a na => ⟨_, rfl, (by show 2 ≤ sizeLine; decide), fun b nb => ⟨(by show 2 ≤ sizeLine; decide), fun l nl => ?_⟩⟩⟩
      have sa := Same.new (o := .tup [V.str "open", V.str kd.1]) na
      have sb := Same.new (o := .tup [V.str "close", V.str kd.1]) nb
      have sl := Same.new (o := .lst [V.ref a, V.ref b]) nl
      have s3 := (sa.trans sb).trans sl
      have ha : upd H2 a (.tup [V.str "open", V.str kd.1]) a = some (.tup [V.str "open", V.str kd.1]) := upd_same
      have hb : upd (upd H2 a (.tup [V.str "open", V.str kd.1])) b (.tup [V.str "close", V.str kd.1]) b = some (.tup [V.str "close", V.str kd.1]) := upd_same
      have nm : ∀ q, H2 q = none → q ∉ D :: A.all r := fun q hq z => by
        rcases List.mem_cons.mp z with z | z
        · rw [z, hD2] at hq; cases hq
        · exact RdAt.trackedA R1 q (b2.free q hq) z
      have hlen := le_line (n := 20002) (by omega)
      refine ⟨D, l, ps, _, rfl, rfl, s3 _ _ hD2, upd_same, (by show ps.length + 2 ≤ sizeLine; omega), ?_⟩
      have aD : a ≠ D := fun z => nm a na (by simp [z])
      have sab := sa
      have nb2 : H2 b = none := sa.free nb
      have bD : b ≠ D := fun z => nm b nb2 (by simp [z])
      have ha3 := sl _ _ (sb _ _ ha)
      have hb3 := sl _ _ hb
      have cu : Carry H2 (upd (upd (upd (upd H2 a (.tup [V.str "open", V.str kd.1])) b (.tup [V.str "close", V.str kd.1])) l (.lst [V.ref a, V.ref b])) D (.lst (ps ++ [V.ref a, V.ref b]))) (D :: A.all r) (D :: A.all r) := ⟨fun q o h => ⟨by
        rw [upd_ne (fun e => h.2 (by simp [e]))]
        exact s3 _ _ h.1, h.2⟩⟩
      refine ⟨_, _, ps ++ [V.ref a, V.ref b], rfl, ⟨fun q o hq hn => ?_, fun q hq => b2.free q (s3.free (upd_none hq))⟩, upd_same, by simp; omega, ?_⟩
      · rw [upd_ne (by simpa using hn)]
        exact s3 _ _ (b2.keep _ _ hq hn)
      · have e : (S.kinds.take (i + 1)).flatMap (fun k => [(("open" : Str), k.1), (("close" : Str), k.1)]) = (S.kinds.take i).flatMap (fun k => [(("open" : Str), k.1), (("close" : Str), k.1)]) ++ [(("open" : Str), kd.1), (("close" : Str), kd.1)] := by
          rw [List.take_add_one, hkd]
          simp
        rw [e, ← List.append_assoc]
        exact Pr.app (Pr.mono (fun _ _ z => PlAt.carry cu z) pr) (.cons ⟨a, rfl, by rw [upd_ne aD]; exact ha3, nm a na⟩ (.cons ⟨b, rfl, by rw [upd_ne bD]; exact hb3, nm b nb2⟩ .nil))
    · rintro σ H2 ⟨v2, v3, ps, rfl, b2, hD2, lp, pr⟩
      have e : S.kinds.take kv.length = S.kinds := List.take_of_length_le (by omega)
      rw [e] at pr
      refine ⟨_, rfl, (by show 2 ≤ sizeLine; decide), fun a na => ⟨(by show 1 ≤ sizeLine; decide), fun l nl => ?_⟩⟩
      have sa := Same.new (o := .tup [V.str "end", V.str ""]) na
      have sl := Same.new (o := .lst [V.ref a]) nl
      have ha : upd H2 a (.tup [V.str "end", V.str ""]) a = some (.tup [V.str "end", V.str ""]) := upd_same
      have hlen := le_line (n := 20002) (by omega)
      refine ⟨D, l, ps, _, rfl, rfl, sl _ _ (sa _ _ hD2), upd_same, (by show ps.length + 1 ≤ sizeLine; omega), fun p np => ?_⟩
      have sp := Same.new (o := .lst (ps ++ [V.ref a])) np
      have s2 := (sa.trans sl).trans sp
      have nDH : H D = none := st0.free nD
      have s02 : Same H H2 := fun q o hq => b2.keep _ _ (s1 _ _ hq) (by simpa using ne_of_none hq nDH)
      have np0 : H p = none := s02.free (sa.free (sl.free np))
      have nm : a ∉ A.all r := RdAt.trackedA R1 a (b2.free a na)
      refine k p (ps ++ [V.ref a]) _ (s02.trans s2) np0 upd_same ?_
      have cu : Carry H2 (upd (upd (upd H2 a (.tup [V.str "end", V.str ""])) l (.lst [V.ref a])) p (.lst (ps ++ [V.ref a]))) (D :: A.all r) (A.all r) := ⟨fun q o h => ⟨s2 _ _ h.1, fun z => h.2 (List.mem_cons_of_mem _ z)⟩⟩
      show Paired _ _ (([(("begin" : Str), ("" : Str))] ++ S.kinds.flatMap (fun k => [(("open" : Str), k.1), (("close" : Str), k.1)])) ++ [(("end" : Str), ("" : Str))])
      exact Pr.snoc ⟨a, rfl, sp _ _ (sl _ _ ha), nm⟩ (Pr.mono (fun _ _ z => PlAt.carry cu z) pr)
end
end K7

set_option Elab.async false
set_option linter.all false
set_option maxRecDepth 100000
namespace Rdr
open PySem L2
theorem But.grow {M N : List Addr} {H H1 H' : Hp} (a : But M H H1) (b : But N H1 H') (k : ∀ q ∈ N, q ∈ M ∨ H q = none) : But M H H' := ⟨fun q o hq hn => b.keep _ _ (a.keep _ _ hq hn) (fun z => (k q z).elim hn fun e => by rw [hq] at e; cases e), fun q hq => a.free q (b.free q hq)⟩
section
variable {C r : Addr} {H : Hp} {A : Adr} {S : Rd}
theorem RdAt.newCells (h : RdAt C H r A S) {dx c : Addr} (nc : H c = none) : RdAt C (L2.upd (L2.upd H c (.lst [])) r (.ins C dx (({ A with cl := c } : Adr).flds S.pos))) r { A with cl := c } { S with cells := [] } := by
  have tr : ∀ q ∈ A.own r, H q ≠ none := by
    obtain ⟨⟨dx, ob⟩, nd, ⟨lv, l1, l2⟩, ⟨kv, k1, k2⟩, ⟨cv, c1, c2⟩, ⟨fv, f1, f2⟩, ll, ⟨pv, p1, p2⟩, cl, wl, nr, xt⟩ := h
    intro q hq
    simp only [Adr.own, List.mem_cons, List.not_mem_nil, or_false] at hq
    rcases hq with rfl | rfl | rfl | rfl | rfl | rfl | rfl | rfl <;> simp_all
  obtain ⟨⟨_, ob⟩, nd, ⟨lv, l1, l2⟩, ⟨kv, k1, k2⟩, ⟨cv, c1, c2⟩, ⟨fv, f1, f2⟩, ll, ⟨pv, p1, p2⟩, cl, wl, nr, xt⟩ := h
  obtain ⟨n1, n2, n3, n4, n5, n6, n7, n8, n9, n10, n11, n12, n13, n14, n15, n16, n17, n18, n19, n20, n21, n22, n23, n24, n25, n26, n27, n28⟩ := own_ne nd
  have cne : ∀ q ∈ A.own r, q ≠ c := fun q hq z => tr q hq (z ▸ nc)
  have e_r := cne r (by simp [Adr.own])
  have e_kl := cne A.kl (by simp [Adr.own])
  have e_cd := cne A.cd (by simp [Adr.own])
  have e_fd := cne A.fd (by simp [Adr.own])
  have e_ll := cne A.ll (by simp [Adr.own])
  have e_pl := cne A.pl (by simp [Adr.own])
  have e_wl := cne A.wl (by simp [Adr.own])
  have ca : Carry H (L2.upd (L2.upd H c (.lst [])) r (.ins C dx (({ A with cl := c } : Adr).flds S.pos))) (A.all r) (({ A with cl := c } : Adr).all r) := ⟨fun a o hf => by
    have hr : a ≠ r := fun z => hf.2 (List.mem_append_left _ (by rw [z]; simp [Adr.own]))
    have hc : a ≠ c := fun z => by have := hf.1; rw [z, nc] at this; cases this
    refine ⟨by rw [upd_ne hr, upd_ne hc]; exact hf.1, fun z => hf.2 ?_⟩
    simp only [Adr.all, Adr.own, List.mem_append, List.mem_cons, List.not_mem_nil, or_false] at z ⊢
    rcases z with (z | z | z | z | z | z | z | z) | z <;> simp_all⟩
  refine ⟨⟨dx, upd_same⟩, ?_, ⟨lv, ca.fx _ _ l1, Pr.mono (fun _ _ => ca.ln) l2⟩, ⟨kv, by rw [upd_ne n1.symm, upd_ne e_kl]; exact k1, Pr.mono (fun _ _ => ca.kl) k2⟩, ⟨cv, by rw [upd_ne n2.symm, upd_ne e_cd]; exact c1, Pr.mono (fun _ _ => ca.cd) c2⟩, ⟨fv, by rw [upd_ne n3.symm, upd_ne e_fd]; exact f1, Pr.mono (fun _ _ => ca.fd) f2⟩,
    by rw [upd_ne n4.symm, upd_ne e_ll]; exact ll, ⟨pv, by rw [upd_ne n5.symm, upd_ne e_pl]; exact p1, p2⟩, by rw [upd_ne e_r.symm]; exact upd_same, by rw [upd_ne n7.symm, upd_ne e_wl]; exact wl, ca.fx _ _ nr, fun x hx => ⟨fun z => (xt x hx).1 (upd_none (upd_none z)), fun z => ?_⟩⟩
  · simp only [Adr.own, List.nodup_cons, List.mem_cons, not_or, List.not_mem_nil, not_false_eq_true, and_true, List.nodup_nil]
    exact ⟨⟨n1, n2, n3, n4, n5, e_r, n7⟩, ⟨n8, n9, n10, n11, e_kl, n13⟩, ⟨n14, n15, n16, e_cd, n18⟩, ⟨n19, n20, e_fd, n22⟩, ⟨n23, e_ll, n25⟩, ⟨e_pl, n27⟩, e_wl.symm⟩
  · have hxc : x ≠ c := fun e => (xt x hx).1 (e ▸ nc)
    refine (xt x hx).2 ?_
    simp only [Adr.own, List.mem_cons, List.not_mem_nil, or_false] at z ⊢
    rcases z with z | z | z | z | z | z | z | z <;> simp_all
theorem RdAt.newWorths (h : RdAt C H r A S) {dx c : Addr} (nc : H c = none) : RdAt C (L2.upd (L2.upd H c (.lst [])) r (.ins C dx (({ A with wl := c } : Adr).flds S.pos))) r { A with wl := c } { S with worths := [] } := by
  have tr : ∀ q ∈ A.own r, H q ≠ none := by
    obtain ⟨⟨dx, ob⟩, nd, ⟨lv, l1, l2⟩, ⟨kv, k1, k2⟩, ⟨cv, c1, c2⟩, ⟨fv, f1, f2⟩, ll, ⟨pv, p1, p2⟩, cl, wl, nr, xt⟩ := h
    intro q hq
    simp only [Adr.own, List.mem_cons, List.not_mem_nil, or_false] at hq
    rcases hq with rfl | rfl | rfl | rfl | rfl | rfl | rfl | rfl <;> simp_all
  obtain ⟨⟨_, ob⟩, nd, ⟨lv, l1, l2⟩, ⟨kv, k1, k2⟩, ⟨cv, c1, c2⟩, ⟨fv, f1, f2⟩, ll, ⟨pv, p1, p2⟩, cl, wl, nr, xt⟩ := h
  obtain ⟨n1, n2, n3, n4, n5, n6, n7, n8, n9, n10, n11, n12, n13, n14, n15, n16, n17, n18, n19, n20, n21, n22, n23, n24, n25, n26, n27, n28⟩ := own_ne nd
  have cne : ∀ q ∈ A.own r, q ≠ c := fun q hq z => tr q hq (z ▸ nc)
  have e_r := cne r (by simp [Adr.own])
  have e_kl := cne A.kl (by simp [Adr.own])
  have e_cd := cne A.cd (by simp [Adr.own])
  have e_fd := cne A.fd (by simp [Adr.own])
  have e_ll := cne A.ll (by simp [Adr.own])
  have e_pl := cne A.pl (by simp [Adr.own])
  have e_cl := cne A.cl (by simp [Adr.own])
  have ca : Carry H (L2.upd (L2.upd H c (.lst [])) r (.ins C dx (({ A with wl := c } : Adr).flds S.pos))) (A.all r) (({ A with wl := c } : Adr).all r) := ⟨fun a o hf => by
    have hr : a ≠ r := fun z => hf.2 (List.mem_append_left _ (by rw [z]; simp [Adr.own]))
    have hc : a ≠ c := fun z => by have := hf.1; rw [z, nc] at this; cases this
    refine ⟨by rw [upd_ne hr, upd_ne hc]; exact hf.1, fun z => hf.2 ?_⟩
    simp only [Adr.all, Adr.own, List.mem_append, List.mem_cons, List.not_mem_nil, or_false] at z ⊢
    rcases z with (z | z | z | z | z | z | z | z) | z <;> simp_all⟩
  refine ⟨⟨dx, upd_same⟩, ?_, ⟨lv, ca.fx _ _ l1, Pr.mono (fun _ _ => ca.ln) l2⟩, ⟨kv, by rw [upd_ne n1.symm, upd_ne e_kl]; exact k1, Pr.mono (fun _ _ => ca.kl) k2⟩, ⟨cv, by rw [upd_ne n2.symm, upd_ne e_cd]; exact c1, Pr.mono (fun _ _ => ca.cd) c2⟩, ⟨fv, by rw [upd_ne n3.symm, upd_ne e_fd]; exact f1, Pr.mono (fun _ _ => ca.fd) f2⟩,
    by rw [upd_ne n4.symm, upd_ne e_ll]; exact ll, ⟨pv, by rw [upd_ne n5.symm, upd_ne e_pl]; exact p1, p2⟩, by rw [upd_ne n6.symm, upd_ne e_cl]; exact cl, by rw [upd_ne e_r.symm]; exact upd_same, ca.fx _ _ nr, fun x hx => ⟨fun z => (xt x hx).1 (upd_none (upd_none z)), fun z => ?_⟩⟩
  · simp only [Adr.own, List.nodup_cons, List.mem_cons, not_or, List.not_mem_nil, not_false_eq_true, and_true, List.nodup_nil]
    exact ⟨⟨n1, n2, n3, n4, n5, n6, e_r⟩, ⟨n8, n9, n10, n11, n12, e_kl⟩, ⟨n14, n15, n16, n17, e_cd⟩, ⟨n19, n20, n21, e_fd⟩, ⟨n23, n24, e_ll⟩, ⟨n26, e_pl⟩, e_cl⟩
  · have hxc : x ≠ c := fun e => (xt x hx).1 (e ▸ nc)
    refine (xt x hx).2 ?_
    simp only [Adr.own, List.mem_cons, List.not_mem_nil, or_false] at z ⊢
    rcases z with z | z | z | z | z | z | z | z <;> simp_all
end
end Rdr
namespace K7
open PySem L2 Rdr LcX
abbrev sPart : Stmt := inClass (top 21) 4
/-- lines, labels, near apart, all as it was -/
structure AdvN (S S' : Rd) : Prop where
  eq : S' = { S with pos := S'.pos, labels := S'.labels, near := S'.near }
  le : S.pos ≤ S'.pos
theorem cellsM_eq {n : Nat} {S : Rd} : cellsM (n + 1) S = if (S.wordsAt 1).take 1 = [("cell" : Str)] then (cellM S (S.wordsAt 1)).bind (cellsM n) else .ok S := rfl
theorem placesM_eq {p k : Str} {r : List (Str × Str)} {S : Rd} : placesM ((p, k) :: r) S = if ({ S with near := chainOf S k } : Rd).wordsAt 1 = (if k = "" then [p] else [p, k]) then (blockOf 2 2 ({ S with near := chainOf S k } : Rd).on).bind (placesM r) else placesM r { S with near := chainOf S k } := rfl
theorem putK_le {κ : Type} [DecidableEq κ] {k : κ} {v : V} {kvs : List (κ × V)} : (putK kvs k v).length ≤ kvs.length + 1 := by
  unfold putK
  split
  · simp
  · simp
theorem word_okw {x : Str} (h : word x = true) : okw x = true := by
  unfold word at h
  obtain ⟨h1, h2⟩ := Bool.and_eq_true_iff.mp h
  obtain ⟨_, h3⟩ := Bool.and_eq_true_iff.mp h1
  have h3 := of_decide_eq_true h3
  unfold okw
  rw [decide_eq_true (by omega : x.length ≤ 20000)]
  show PyData.strOk x = true
  unfold PyData.strOk
  rw [← Array.all_toList]
  refine List.all_eq_true.mpr fun c hc => ?_
  have := List.all_eq_true.mp h2 c hc
  unfold letter at this
  obtain ⟨_, z⟩ := Bool.and_eq_true_iff.mp this
  have := of_decide_eq_true z
  exact decide_eq_true (by omega)
theorem okw_open : okw ("open" : Str) = true := by decide +kernel
theorem okw_close : okw ("close" : Str) = true := by decide +kernel
theorem places_ok {S : Rd} (h : Fine S) : ∀ x ∈ places S, okw x.1 = true ∧ okw x.2 = true := by
  intro x hx
  unfold places at hx
  rcases List.mem_append.mp hx with hx | hx
  · rcases List.mem_append.mp hx with hx | hx
    · have : x = (("begin" : Str), ("" : Str)) := by simpa using hx
      rw [this]
      exact ⟨by decide +kernel, by decide +kernel⟩
    · obtain ⟨k, hk, hx⟩ := List.mem_flatMap.mp hx
      have hw := word_okw (h.kn k hk)
      have : x = (("open" : Str), k.1) ∨ x = (("close" : Str), k.1) := by simpa using hx
      rcases this with e | e
      · rw [e]; exact ⟨okw_open, hw⟩
      · rw [e]; exact ⟨okw_close, hw⟩
  · have : x = (("end" : Str), ("" : Str)) := by simpa using hx
    rw [this]
    exact ⟨by decide +kernel, by decide +kernel⟩
theorem empty_len {x : Str} : x.length = 0 → x = "" := fun h => Str.ext' (Array.eq_empty_of_size_eq_zero h)
structure RQ (K : PySem.W.Frag) (mg : Str → Option Value) (cP fP : Addr) (fdP : FuncData) : Prop where
  P : RP K cP
  mgP : mg "Part" = some (.ref cP)
  M : Mk K cP fP
  F : Fun K "__init__" "Part.__init__" sPartInit fP fdP
  b : Binds K fdP ["self", "worths", "blocks"] []
def spPart (C cB : Addr) : Sp := fun vs H Q E => ∃ (r : Addr) (A : Adr) (S : Rd), vs = [.ref r] ∧ RdAt C H r A S ∧ Fine S ∧ S.parts < 2 ∧ match partM S with
  | .ok S' => ∀ (A' : Adr) (H' : Hp), But (A.own r) H H' → (∀ q ∈ A'.own r, q ∈ A.own r ∨ H q = none) → RdAt C H' r A' S' → Fine S' → S'.parts = S.parts + 1 → S'.ls = S.ls → Q .non H'
  | .bad n => Bad cB E (A.own r) H n
section
variable {P : Program} {w : World} {K : PySem.W.Frag} {mg : Str → Option Value} {base : Heap} {C cB fB cP fP : Addr} {fdB fdP : FuncData}
theorem sc_part : FnScope ["self", "blocks", "place", "kind"] ["self"] (defScope sPart) := ⟨rfl, rfl, rfl, by decide +kernel, rfl, by decide +kernel, by decide +kernel⟩
theorem ok_part {f : Addr} {fd : FuncData} {k : Nat} (hk : 4 ≤ k) (F : Fun K "read_part" "ProgramReader.read_part" sPart f fd) (T : RT K mg C cB fB fdB) (TQ : RQ K mg cP fP fdP) (Gg : MOk P w K mg base 2 C "begins" (spBegins C)) (Ga : MOk P w K mg base 1 C "words_at" (spWordsAt C)) (Gc : MOk P w K mg base 4 C "read_cell" (spCell C cB))
    (Gp : MOk P w K mg base 1 C "places" (spPlaces C)) (Gb : MOk P w K mg base k C "read_block" (spBlock C cB 2)) : FnOk P w K mg base (L2.CX P w) (k + 1) f fd ["self"] (spPart C cB) := by
  have GP : FnOk P w K mg base (L2.CX P w) 1 fP fdP ["self", "worths", "blocks"] (spPartInit cP) := ok_partInit TQ.F TQ.P
  refine F.okX sc_part (fun vs H Q E h => ?_) (fun cdv A outer s H vs Q E hr h => ?_)
  · obtain ⟨r, A, S, rfl, _⟩ := h
    rfl
  · obtain ⟨r, A, S, rfl, R, S1, hq2, kk⟩ := h
    have hr4 : Room 4 _ := hr.mono (by omega)
    have hr2 : Room 2 _ := hr.mono (by omega)
    have hr1 : Room 1 _ := hr.mono (by omega)
    have hu := hu_of hr
    refine ⟨_, pss_cons (ps_fld (pv 0) (pe_lst pa_nil) rfl)
      (pss_cons (ps_fld (pv 0) (pe_lst pa_nil) rfl)
      (pss_cons (ps_while (passes_of rfl) (pt_val (m_meth (pv 0) T.cl Gg hr2 passL (pa_cons pe_int (pa_cons pe_str pa_nil))))
          (pss_one (ps_expr (m_meth (pv 0) T.cl Gc hr4 (passes_call (takes_of rfl rfl rfl rfl) (fun _ _ _ _ z => z)) (pa_cons (m_meth (pv 0) T.cl Ga hr1 passL (pa_cons pe_int pa_nil)) pa_nil)))))
      (pss_cons (ps_set (i := 1) sc_part.nd rfl (Or.inl rfl) pe_dnewT)
      (pss_cons (ps_for (passes_of rfl) rfl (pi_list (m_meth0 (pv 0) T.cl Gp hr1 passL)) (pg_tup rfl (pgs_cons (pg_name (i := 2) sc_part.nd rfl (Or.inl rfl)) (pgs_cons (pg_name (i := 3) sc_part.nd rfl (Or.inl rfl)) pgs_nil)))
          (pss_cons (ps_fld (pv 0) (pe_dget2 hu (pe_fld (pv 0) rfl) (pv 3) (pe_tup pa_nil) ⟨rfl, rfl, rfl, rfl⟩) rfl)
          (pss_cons (ps_dput hu (pv 1) (pe_tup (pa_cons (pv 2) (pa_cons (pv 3) pa_nil))) (pe_tup pa_nil) rfl)
          (pss_one (ps_if (pt_cmpR (op_eqD hr.units) (m_meth (pv 0) T.cl Ga hr1 passL (pa_cons pe_int pa_nil)) (pe_ifExp (pt_truth (pv 3) (by intro _; rfl)) (pe_lst (pa_cons (pv 2) (pa_cons (pv 3) pa_nil))) (pe_lst (pa_cons (pv 2) pa_nil))) (nomark _))
            (pss_cons (ps_fldaug (pv 0) pe_int in_add)
            (pss_one (ps_dput hu (pv 1) (pe_tup (pa_cons (pv 2) (pa_cons (pv 3) pa_nil))) (m_meth (pv 0) T.cl Gb hr (passes_call (takes_of rfl rfl rfl rfl) (fun _ _ _ _ z => z)) (pa_cons pe_int (pa_cons pe_int pa_nil))) rfl))) pss_nil)))))
      (pss_one (ps_expr (pe_bm PySem.F.plainAttrs_list PySem.F.slot_list_append PySem.F.type_list_append mt_append (pe_fld (pv 0) rfl)
          (pa_cons (pe_make TQ.M GP hr2 rfl TQ.mgP TQ.b .nil passL (pa_cons (pe_callTy call_tuple_of (by rfl) T.tuple (by decide +kernel) (pa_cons (pe_fld (pv 0) rfl) pa_nil)) (pa_cons (pv 1) pa_nil))) pa_nil)))))))), ?_⟩
    obtain ⟨dx, ob⟩ := R.ob
    refine ⟨(by show 0 ≤ sizeLine; decide), fun c1 nc1 => ?_⟩
    have sc1 := Same.new (o := .lst []) nc1
    refine ⟨_, rfl, r, C, dx, _, rfl, sc1 _ _ ob, T.cl, T.cells, (by show 10 < 1000; decide), ?_⟩
    have R1 := R.newCells (dx := dx) nc1
    generalize hH1 : upd (upd H c1 _) r _ = H1
    have R1 : RdAt C H1 r { A with cl := c1 } { S with cells := [] } := by rw [← hH1]; exact R1
    have b1 : But (A.own r) H H1 := by rw [← hH1]; exact (But.of sc1).trans (.upd (by simp [Adr.own]))
    obtain ⟨dx1, ob1⟩ := R1.ob
    refine ⟨(by show 0 ≤ sizeLine; decide), fun w1 nw1 => ?_⟩
    have sw1 := Same.new (o := .lst []) nw1
    refine ⟨_, rfl, r, C, dx1, _, rfl, sw1 _ _ ob1, T.cl, T.worths, (by show 10 < 1000; decide), ?_⟩
    have R2 := R1.newWorths (dx := dx1) nw1
    generalize hH2 : upd (upd H1 w1 _) r _ = H2
    generalize hA2 : ({ A with cl := c1, wl := w1 } : Adr) = A2
    have R2 : RdAt C H2 r A2 { S with cells := [], worths := [] } := by rw [← hH2, ← hA2]; exact R2
    have b2 : But (A.own r) H H2 := by rw [← hH2]; exact b1.trans ((But.of sw1).trans (.upd (by simp [Adr.own])))
    have own2 : ∀ q ∈ A2.own r, q ∈ A.own r ∨ H q = none := fun q hq => by
      rw [← hA2] at hq
      simp only [Adr.own, List.mem_cons, List.not_mem_nil, or_false] at hq ⊢
      rcases hq with z | z | z | z | z | z | z | z
      · exact .inl (by simp [z])
      · exact .inl (by simp [z])
      · exact .inl (by simp [z])
      · exact .inl (by simp [z])
      · exact .inl (by simp [z])
      · exact .inl (by simp [z])
      · exact .inr (by rw [z]; exact nc1)
      · exact .inr (by rw [z]; exact b1.free _ nw1)
    generalize hS0 : ({ S with cells := [], worths := [] } : Rd) = S0 at R2
    have F0 : Fine S0 := by rw [← hS0]; exact ⟨S1.p, S1.n, S1.ws, S1.k, S1.c, S1.f, S1.cf, S1.ff, S1.nf, S1.l, by simp, S1.q, S1.ck, S1.kw, S1.kn⟩
    have e0 : S0.parts = S.parts ∧ S0.ls = S.ls ∧ S0.pos = S.pos := by rw [← hS0]; exact ⟨rfl, rfl, rfl⟩
    have kk : match ((cellsM (S0.ls.length - S0.pos + 1) S0).bind fun S => (placesM (places S) S).bind fun S => .ok { S with parts := S.parts + 1 }) with
        | .ok S' => ∀ (A' : Adr) (H' : Hp), But (A.own r) H H' → (∀ q ∈ A'.own r, q ∈ A.own r ∨ H q = none) → RdAt C H' r A' S' → Fine S' → S'.parts = S.parts + 1 → S'.ls = S.ls → Q .non H'
        | .bad n => Bad cB E (A.own r) H n := by rw [← hS0]; exact kk
    have badIn : ∀ (n : Int), Bad cB E (A.own r) H n → ∀ (M : List Addr) (H' : Hp), But (A.own r) H H' → (∀ q ∈ M, q ∈ A.own r ∨ H q = none) → Bad cB E M H' n := fun n b M H' hb hm d H'' hd hk hx => b d H'' (hb.free d hd) (hb.grow hk hm) hx
    refine ⟨fun m σ H' => ∃ S', σ = [some (.ref r), none, none, none] ∧ But (A2.own r) H2 H' ∧ RdAt C H' r A2 S' ∧ Fine S' ∧ AdvC S0 S' ∧ S'.ls.length - S'.pos + 1 ≤ m ∧ cellsM m S' = cellsM (S0.ls.length - S0.pos + 1) S0,
      ⟨_, S0, rfl, .refl, R2, F0, .refl, Nat.le_refl _, rfl⟩, ?_⟩
    rintro m σ H3 ⟨S3, rfl, b3, R3, F3, v3, hm, hM⟩
    obtain ⟨dx3, ob3⟩ := R3.ob
    have bH3 : But (A.own r) H H3 := b2.grow b3 own2
    obtain ⟨m, rfl⟩ : ∃ m', m = m' + 1 := ⟨m - 1, by omega⟩
    rw [cellsM_eq] at hM
    refine ⟨_, rfl, r, dx3, _, rfl, ob3, noMeth (by decide +kernel), r, A2, S3, 1, _, rfl, R3, F3, by decide, by decide, by decide +kernel, fun H4 s4 => ⟨_, rfl, ?_⟩⟩
    have R4 := R3.same s4
    obtain ⟨dx4, ob4⟩ := R4.ob
    have b4 : But (A2.own r) H2 H4 := b3.trans (.of s4)
    refine ite2 (fun h1 => ?_) (fun h1 => ?_)
    · have h1 := of_decide_eq_true h1
      rw [if_pos h1] at hM
      refine ⟨_, fun _ _ z => z, ?_⟩
      have hne : S3.wordsAt 1 ≠ [] := fun z => by rw [z] at h1; simp at h1
      have pos3 := Rd.more hne
      refine ⟨_, rfl, r, dx4, _, rfl, ob4, noMeth (by decide +kernel), _, rfl, r, dx4, _, rfl, ob4, noMeth (by decide +kernel), r, A2, S3, 1, rfl, R4, F3.p, by decide, by decide, fun a H5 s5 na ha => ?_⟩
      have R5 := R4.same s5
      have b5 : But (A2.own r) H2 H5 := b4.trans (.of s5)
      refine ⟨r, a, A2, S3, S3.wordsAt 1, rfl, R5, F3, ⟨ha, (F3.words 1).1, (F3.words 1).2⟩, na, pos3, List.length_pos_iff.mpr hne, ?_⟩
      cases hc : cellM S3 (S3.wordsAt 1) with
      | bad n =>
        rw [hc] at hM
        rw [← hM] at kk
        exact badIn n kk _ _ (b2.grow b5 own2) own2
      | ok S6 =>
        rw [hc] at hM
        intro H6 b6 R6 F6 hp6 v6
        have e6 : S6.ls.length = S3.ls.length := by rw [v6.eq]
        exact ⟨m, Nat.lt_succ_self _, S6, rfl, b5.trans b6, R6, F6, v3.trans v6, by rw [e6, hp6]; omega, hM⟩
    · have h1 : ¬ (S3.wordsAt 1).take 1 = [("cell" : Str)] := fun z => h1 (decide_eq_true z)
      rw [if_neg h1] at hM
      rw [← hM] at kk
      have kk : match ((placesM (places S3) S3).bind fun S => .ok { S with parts := S.parts + 1 }) with
        | .ok S' => ∀ (A' : Adr) (H' : Hp), But (A.own r) H H' → (∀ q ∈ A'.own r, q ∈ A.own r ∨ H q = none) → RdAt C H' r A' S' → Fine S' → S'.parts = S.parts + 1 → S'.ls = S.ls → Q .non H'
        | .bad n => Bad cB E (A.own r) H n := kk
      have p3 : S3.parts = S.parts ∧ S3.ls = S.ls := by
        rw [v3.eq]
        exact ⟨e0.1, e0.2.1⟩
      -- the blocks
      intro bd nbd
      have sbd := Same.new (o := .dT []) nbd
      have R5 : RdAt C (upd H4 bd (.dT [])) r { A2 with xt := bd :: A2.xt } S3 := R4.enter nbd
      have hbd5 : upd H4 bd (.dT []) bd = some (.dT []) := upd_same
      generalize upd H4 bd (.dT []) = H5 at R5 hbd5 sbd ⊢
      have b5 : But (A2.own r) H2 H5 := b4.trans (.of sbd)
      obtain ⟨dx5, ob5⟩ := R5.ob
      refine ⟨_, rfl, r, dx5, _, rfl, ob5, noMeth (by decide +kernel), r, { A2 with xt := bd :: A2.xt }, S3, rfl, R5, F3, fun D ps H6 s6 nD hD prs => ?_⟩
      have R6 := R5.same s6
      have hbd6 := s6 _ _ hbd5
      have nDb : D ≠ bd := fun z => by rw [z, hbd5] at nD; cases nD
      have nDo : D ∉ A2.own r := fun z => RdAt.tracked R5 D z nD
      have nbo : bd ∉ A2.own r := (R5.xt bd List.mem_cons_self).2
      have nbH : H bd = none := (b2.grow b4 own2).free _ nbd
      have lps := prs.length
      have lpl : (places S3).length ≤ 10 := by
        have := F3.k
        unfold places
        simp only [List.length_append, List.length_cons, List.length_nil, List.length_flatMap]
        have : ∀ l : List (Str × Str × List Str), (l.map fun _ => 2).sum = 2 * l.length := fun l => by
          induction l with
          | nil => rfl
          | cons a r ih => rw [List.map_cons, List.sum_cons, ih, List.length_cons]; omega
        have := this S3.kinds
        simp at this ⊢
        omega
      refine ⟨D, rfl, ⟨_, SqL.of hD⟩, for_list (K := K) (a := D) (xs := ps) (fun i σ H' => ∃ (nr : Addr) (S' : Rd) (kvs : List (List Key × V)) (v2 v3 : Option V), σ = [some (.ref r), some (.ref bd), v2, v3] ∧ But (bd :: A2.own r) H6 H' ∧ RdAt C H' r { A2 with nr := nr, xt := bd :: A2.xt } S' ∧ Fine S' ∧ AdvN S3 S' ∧
          H' bd = some (.dT kvs) ∧ kvs.length ≤ 2 * i ∧ placesM ((places S3).drop i) S' = placesM (places S3) S3)
        ⟨A2.nr, S3, [], none, none, rfl, .refl, R6, F3, ⟨rfl, Nat.le_refl _⟩, hbd6, by simp, rfl⟩ (fun i σ H' _ ⟨_, _, _, _, _, _, b, _⟩ => SqL.of (b.keep _ _ hD (by simp [nDb, nDo]))) ?_ ?_⟩
      · rintro i y σ H7 hi ⟨nr, S7, kvs, v2, v3', rfl, b7, R7, F7, v7, hbd7, lk, hM7⟩
        have hil : i < ps.length := (List.getElem?_eq_some_iff.mp hi).1
        obtain ⟨pk, hpk⟩ : ∃ pk, (places S3)[i]? = some pk := ⟨_, List.getElem?_eq_getElem (by omega)⟩
        obtain ⟨p, kd⟩ := pk
        obtain ⟨y', hy', t, ey, ft⟩ := Pr.at prs hpk
        rw [hi] at hy'
        cases hy'
        subst ey
        have nta : t ∉ bd :: A2.own r := fun z => ft.2 (by
          rcases List.mem_cons.mp z with z | z
          · rw [z]; exact List.mem_append_right _ List.mem_cons_self
          · exact List.mem_append_left _ z)
        have ht7 := b7.keep _ _ ft.1 nta
        have hdrop : (places S3).drop i = (p, kd) :: (places S3).drop (i + 1) := by
          rw [List.drop_eq_getElem_cons (by omega)]
          rw [List.getElem?_eq_getElem (by omega)] at hpk
          rw [Option.some.inj hpk]
        rw [hdrop, placesM_eq] at hM7
        obtain ⟨dx7, ob7⟩ := R7.ob
        obtain ⟨cv, c71, c72⟩ := R7.cd
        refine ⟨t, _, rfl, SqT.of ht7, rfl, _, _, rfl, _, _, rfl, rfl, ?_⟩
        refine ⟨_, rfl, r, C, dx7, _, _, rfl, ob7, T.cl, T.chains, rfl, A2.cd, rfl, .inl ⟨_, .inl c71⟩, _, rfl, (by show 0 ≤ sizeLine; decide), fun u nu => ?_⟩
        have su := Same.new (o := .tup []) nu
        have hu1 : upd H7 u (.tup []) u = some (.tup []) := upd_same
        have nun : u ∉ ({ A2 with nr := nr, xt := bd :: A2.xt } : Adr).all r := RdAt.trackedA R7 u nu
        generalize upd H7 u (.tup []) = H8 at hu1 su ⊢
        refine ⟨_, DGet.k (k := Sum.inr kd) (su _ _ c71), ?_⟩
        obtain ⟨a9, ea, ha9⟩ : ∃ a, (valV cv (.inr kd : Key)).getD (.ref u) = .ref a ∧ Fix H8 (({ A2 with nr := nr, xt := bd :: A2.xt } : Adr).all r) a (.tup (wlist (chainOf S7 kd))) := by
          cases e : S7.chains.lookup kd with
          | none =>
            rw [(ch_get c72).2 e]
            exact ⟨u, rfl, by unfold chainOf; rw [e]; exact ⟨hu1, nun⟩⟩
          | some c =>
            obtain ⟨ta, z1, z2⟩ := (ch_get c72).1 c e
            rw [z1]
            exact ⟨ta, rfl, by unfold chainOf; rw [e]; exact ⟨su _ _ z2.1, z2.2⟩⟩
        rw [ea]
        have R8 := R7.same su
        have chn : (chainOf S7 kd).length ≤ 3 ∧ ∀ x ∈ chainOf S7 kd, (S7.fields.lookup x).isSome = true := by
          unfold chainOf
          cases e : S7.chains.lookup kd with
          | none => simp
          | some c => exact F7.cf _ (look_in e)
        refine ⟨_, rfl, r, C, dx7, _, rfl, su _ _ ob7, T.cl, T.near, (by show 10 < 1000; decide), ?_⟩
        have R9 := R8.setNear (dx := dx7) ha9
        generalize hH9 : upd H8 r _ = H9
        have R9 : RdAt C H9 r { A2 with nr := a9, xt := bd :: A2.xt } { S7 with near := chainOf S7 kd } := by rw [← hH9]; exact R9
        have b9 : But (bd :: A2.own r) H6 H9 := by rw [← hH9]; exact b7.trans ((But.of su).trans (.upd (by simp [Adr.own])))
        have hbd9 : H9 bd = some (.dT kvs) := by rw [← hH9, upd_ne (fun z => nbo (by rw [z]; simp [Adr.own]))]; exact su _ _ hbd7
        generalize hS9 : ({ S7 with near := chainOf S7 kd } : Rd) = S9 at R9 hM7
        have F9 : Fine S9 := by rw [← hS9]; exact ⟨F7.p, F7.n, F7.ws, F7.k, F7.c, F7.f, F7.cf, F7.ff, chn, F7.l, F7.w, F7.q, F7.ck, F7.kw, F7.kn⟩
        have v9 : AdvN S3 S9 := by
          rw [← hS9]
          refine ⟨?_, v7.le⟩
          rw [v7.eq]
        -- blocks[place, kind] = ()
        refine ⟨(by show 0 ≤ sizeLine; decide), fun e ne => ⟨_, rfl, _, rfl, _, rfl, (by show 2 ≤ sizeLine; decide), fun q nq => ?_⟩⟩
        have se := Same.new (o := .tup []) ne
        have sq := Same.new (o := .tup [V.str p, V.str kd]) nq
        have hq1 : upd (upd H9 e (.tup [])) q (.tup [V.str p, V.str kd]) q = some (.tup [V.str p, V.str kd]) := upd_same
        have hlen := le_line (n := 20002) (by omega)
        refine ⟨bd, _, rfl, DPut.t (k := [.inr p, .inr kd]) (sq _ _ (se _ _ hbd9)) hq1 (by omega), ?_⟩
        have lk10 := putK_le (k := ([.inr p, .inr kd] : List Key)) (v := .ref e) (kvs := kvs)
        generalize hK10 : putK kvs ([.inr p, .inr kd] : List Key) (.ref e) = kvs10 at lk10 ⊢
        have R10 : RdAt C (upd (upd (upd H9 e (.tup [])) q (.tup [V.str p, V.str kd])) bd (.dT kvs10)) r { A2 with nr := a9, xt := bd :: A2.xt } S9 := ((R9.same se).same sq).store List.mem_cons_self
        have b10 : But (bd :: A2.own r) H6 (upd (upd (upd H9 e (.tup [])) q (.tup [V.str p, V.str kd])) bd (.dT kvs10)) := b9.trans ((But.of (se.trans sq)).trans (.upd List.mem_cons_self))
        have hbd10 : (upd (upd (upd H9 e (.tup [])) q (.tup [V.str p, V.str kd])) bd (.dT kvs10)) bd = some (.dT kvs10) := upd_same
        generalize upd (upd (upd H9 e (.tup [])) q (.tup [V.str p, V.str kd])) bd (.dT kvs10) = H10 at R10 b10 hbd10 ⊢
        obtain ⟨dx10, ob10⟩ := R10.ob
        refine ⟨_, rfl, r, dx10, _, rfl, ob10, noMeth (by decide +kernel), r, { A2 with nr := a9, xt := bd :: A2.xt }, S9, 1, rfl, R10, F9.p, by decide, by decide, fun l H11 s11 nl hl => ?_⟩
        refine ⟨_, rfl, _, ⟨?_, rfl⟩, ?_⟩
        · have := okw_le (places_ok F3 _ (List.mem_of_getElem? hpk)).2
          exact le_line (by omega)
        have okp := places_ok F3 _ (List.mem_of_getElem? hpk)
        have toH : ∀ H', But (bd :: A2.own r) H6 H' → But (A.own r) H H' := fun H' b => ((b2.grow b5 own2).trans (.of s6)).grow b fun q hq => by
          rcases List.mem_cons.mp hq with z | z
          · exact .inr (by rw [z]; exact nbH)
          · exact own2 q z
        have b11 : But (bd :: A2.own r) H6 H11 := b10.trans (.of s11)
        have R11 := R10.same s11
        have hbd11 := s11 _ _ hbd10
        obtain ⟨tl, htl, okt⟩ : ∃ tl : List Str, tl = (if kd = "" then [p] else [p, kd]) ∧ ∀ x ∈ tl, okw x = true := ⟨_, rfl, fun x hx => by
          by_cases h : kd = ""
          · rw [if_pos h] at hx
            have : x = p := by simpa using hx
            rw [this]; exact okp.1
          · rw [if_neg h] at hx
            have : x = p ∨ x = kd := by simpa using hx
            rcases this with e | e
            · rw [e]; exact okp.1
            · rw [e]; exact okp.2⟩
        rw [← htl] at hM7
        rcases Classical.em (kd = "") with hk | hk
        all_goals first
          | (rw [show (((kd.length : Int)) != 0) = false by rw [hk]; rfl]
             refine iteF ?_
             rw [if_pos hk] at htl
             refine ⟨_, rfl, (by show 1 ≤ sizeLine; decide), fun z nz => ?_⟩
             have hz : upd H11 z (.lst [V.str p]) z = some (.lst (wlist tl)) := (by rw [upd_same, htl]; rfl)
             have sz := Same.new (o := .lst [V.str p]) nz
             generalize upd H11 z (.lst [V.str p]) = H12 at hz sz ⊢)
          | (rw [show (((kd.length : Int)) != 0) = true by
               have : kd.length ≠ 0 := fun z => hk (empty_len z)
               simp
               exact this]
             refine iteT ?_
             rw [if_neg hk] at htl
             refine ⟨_, rfl, _, rfl, (by show 2 ≤ sizeLine; decide), fun z nz => ?_⟩
             have hz : upd H11 z (.lst [V.str p, V.str kd]) z = some (.lst (wlist tl)) := (by rw [upd_same, htl]; rfl)
             have sz := Same.new (o := .lst [V.str p, V.str kd]) nz
             generalize upd H11 z (.lst [V.str p, V.str kd]) = H12 at hz sz ⊢)
        all_goals
          refine ⟨pstrs (S9.wordsAt 1), pstrs tl, dp_strs (sz _ _ hl), dp_strs hz, shaped_strs (F9.words 1).2, shaped_strs okt, _, rfl, ?_⟩
          rw [eqv_strs]
          have b12 : But (bd :: A2.own r) H6 H12 := b11.trans (.of sz)
          have R12 := R11.same sz
          have hbd12 := sz _ _ hbd11
          obtain ⟨dx12, ob12⟩ := R12.ob
          refine ite2 (fun hw => ?_) (fun hw => ?_)
          · have hw := of_decide_eq_true hw
            rw [if_pos hw] at hM7
            have pos9 : S9.pos < S9.ls.length := Rd.more (d := 1) (by
              rw [hw, htl]
              simp)
            refine ⟨_, rfl, r, C, dx12, _, _, rfl, ob12, T.cl, T.at_, rfl, _, _, rfl, rfl, dx12, _, ob12, (by show 10 < 1000; decide), ?_⟩
            have R13 := R12.goTo (dx := dx12) (S9.pos + 1)
            generalize hH13 : upd H12 r _ = H13
            have R13 : RdAt C H13 r { A2 with nr := a9, xt := bd :: A2.xt } S9.on := by rw [← hH13]; exact R13
            have b13 : But (bd :: A2.own r) H6 H13 := by rw [← hH13]; exact b12.trans (.upd (by simp [Adr.own]))
            have hbd13 : H13 bd = some (.dT kvs10) := by rw [← hH13, upd_ne (fun z => nbo (by rw [z]; simp [Adr.own]))]; exact hbd12
            obtain ⟨dx13, ob13⟩ := R13.ob
            have st9 := Adv.step F9 pos9
            refine ⟨_, rfl, r, dx13, _, rfl, ob13, noMeth (by decide +kernel), r, { A2 with nr := a9, xt := bd :: A2.xt }, S9.on, 2, 0, rfl, by decide, by decide, by decide, by decide, R13, st9.fine F9, ?_⟩
            cases hb : blockOf 2 2 S9.on with
            | bad n =>
              rw [hb] at hM7
              rw [← hM7] at kk
              exact badIn n kk _ _ (toH _ b13) own2
            | ok S14 =>
              rw [hb] at hM7
              intro p' xs H14 b14 R14 v14 h14 hp14
              have b14' : But (bd :: A2.own r) H6 H14 := b13.trans ⟨fun q o hq hn => b14.keep _ _ hq fun z => hn (List.mem_cons_of_mem _ z), b14.free⟩
              have hbd14 := b14.keep _ _ hbd13 nbo
              refine ⟨_, rfl, _, rfl, _, rfl, (by show 2 ≤ sizeLine; decide), fun q2 nq2 => ?_⟩
              have sq2 := Same.new (o := .tup [V.str p, V.str kd]) nq2
              have lk14 := putK_le (k := ([.inr p, .inr kd] : List Key)) (v := .ref p') (kvs := kvs10)
              refine ⟨bd, _, rfl, DPut.t (k := [.inr p, .inr kd]) (sq2 _ _ hbd14) upd_same (by omega), ?_⟩
              have e9 : AdvN S3 S14 := by
                refine ⟨?_, Nat.le_trans v9.le (Nat.le_trans st9.le v14.le)⟩
                rw [(st9.trans v14).eq, v9.eq]
              exact ⟨a9, S14, _, _, _, rfl, b14'.trans ((But.of sq2).trans (.upd List.mem_cons_self)), (R14.same sq2).store List.mem_cons_self, (st9.trans v14).fine F9, e9, upd_same, by omega, hM7⟩
          · have hw : ¬ S9.wordsAt 1 = tl := fun z => hw (decide_eq_true z)
            rw [if_neg hw] at hM7
            exact ⟨a9, S9, kvs10, _, _, rfl, b12, R12, F9, v9, hbd12, by omega, hM7⟩
      · rintro σ H7 ⟨nr, S7, kvs, v2, v3', rfl, b7, R7, F7, v7, hbd7, lk, hM7⟩
        rw [List.drop_of_length_le (by omega)] at hM7
        have hM7 : Res.ok S7 = placesM (places S3) S3 := hM7
        rw [← hM7] at kk
        obtain ⟨dx7, ob7⟩ := R7.ob
        obtain ⟨pv, p71, p72⟩ := R7.pl
        have e7 : S7.parts = S.parts ∧ S7.ls = S.ls := by
          rw [v7.eq]
          exact p3
        refine ⟨_, rfl, r, C, dx7, _, _, rfl, ob7, T.cl, T.parts, rfl, .inl ⟨rfl, _, SqL.of p71⟩, _, rfl, r, C, dx7, _, _, rfl, ob7, T.cl, T.worths, rfl, A2.wl, _, rfl, .inl ⟨SqL.of R7.wl, fun t nt => ⟨_, rfl, fun x dx' nx ndx nex => ⟨x, dx', _, _, rfl, upd_same, fun H8 b8 => ⟨rfl, ?_⟩⟩⟩⟩⟩
        have st := Same.new (o := .tup (ilist S7.worths)) nt
        have s8 : Same H7 H8 := fun q o hq => by
          have h1 := st _ _ hq
          have qx : q ≠ x := ne_of_none h1 nx
          have qd : q ≠ dx' := ne_of_none h1 ndx
          exact b8.keep _ _ (by rw [upd_ne qx, upd_ne qd]; exact h1) (by simpa using qx)
        have R8 := R7.same s8
        refine ⟨A2.pl, pv, _, rfl, rfl, s8 _ _ p71, ?_, ?_⟩
        · have := le_line (n := 20002) (by omega)
          have : S7.parts ≤ 2 := F7.q
          omega
        have R9 := R8.addPart (s8 _ _ p71) (.ref x)
        have toH : But (A.own r) H H7 := ((b2.grow b5 own2).trans (.of s6)).grow b7 fun q hq => by
          rcases List.mem_cons.mp hq with z | z
          · exact .inr (by rw [z]; exact nbH)
          · exact own2 q z
        exact kk { A2 with nr := nr } _ ((toH.trans (.of s8)).grow (.upd (M := A2.own r) (by simp [Adr.own])) own2) own2 (RdAt.leave R9) ⟨F7.p, F7.n, F7.ws, F7.k, F7.c, F7.f, F7.cf, F7.ff, F7.nf, F7.l, F7.w, by show S7.parts + 1 ≤ 2; rw [e7.1]; omega, F7.ck, F7.kw, F7.kn⟩ (by show S7.parts + 1 = _; rw [e7.1]) e7.2
end
end K7

set_option Elab.async false
set_option linter.all false
set_option maxRecDepth 100000
namespace K7
open PySem L2 Rdr LcX
abbrev sRead : Stmt := inClass (top 21) 1
theorem kindsM_eq {n : Nat} {S : Rd} : kindsM (n + 1) S = if (S.wordsAt 0).take 1 = [("kind" : Str)] then (kindM S (S.wordsAt 0)).bind (kindsM n) else .ok S := rfl
theorem partsM_eq {n : Nat} {S : Rd} : partsM (n + 1) S = if S.wordsAt 0 = [("pass" : Str)] ∧ S.parts < 2 then (partM S.on).bind (partsM n) else .ok S := rfl
def spRead (C cB : Addr) : Sp := fun vs H Q E => ∃ (r : Addr) (A : Adr) (S : Rd), vs = [.ref r] ∧ RdAt C H r A S ∧ Fine S ∧ S.parts = 0 ∧ match readM S with
  | .ok S' => ∀ (A' : Adr) (H' : Hp), But (A.own r) H H' → (∀ q ∈ A'.own r, q ∈ A.own r ∨ H q = none) → RdAt C H' r A' S' → Fine S' → Q .non H'
  | .bad n => Bad cB E (A.own r) H n
theorem bind_ok {A B : Type} {r : Res A} {f : A → Res B} {b : B} (h : r.bind f = .ok b) : ∃ a, r = .ok a ∧ f a = .ok b := by
  cases r with
  | ok a => exact ⟨a, rfl, h⟩
  | bad n => cases h
theorem need_ok {A : Type} {S : Rd} {b : Bool} {r : Res A} {x : A} (h : S.need b r = .ok x) : r = .ok x := by
  unfold Rd.need at h
  cases b with
  | true => exact h
  | false => cases h
theorem fieldsM_parts : ∀ {n : Nat} {S S' : Rd} {acc fs : List Str}, fieldsM n S acc = .ok (S', fs) → S'.parts = S.parts
  | 0, S, S', acc, fs, h => by cases h; rfl
  | n + 1, S, S', acc, fs, h => by
    unfold fieldsM at h
    dsimp only at h
    split at h
    · cases h; rfl
    · have := fieldsM_parts (need_ok (need_ok h))
      exact this
theorem kindM_parts {S S' : Rd} {ws : List Str} (h : kindM S ws = .ok S') : S'.parts = S.parts := by
  unfold kindM at h
  have h := need_ok (need_ok h)
  obtain ⟨o, _, h⟩ := bind_ok h
  obtain ⟨⟨S1, fs⟩, h1, h⟩ := bind_ok h
  cases h
  have := fieldsM_parts h1
  exact this
theorem on_fine {S : Rd} (h : Fine S) (hp : S.pos < S.ls.length) : Fine S.on := (Adv.step h hp).fine h
section
variable {P : Program} {w : World} {K : PySem.W.Frag} {mg : Str → Option Value} {base : Heap} {C cB fB : Addr} {fdB : FuncData}
theorem sc_read : FnScope ["self"] ["self"] (defScope sRead) := ⟨rfl, rfl, rfl, by decide +kernel, rfl, by decide +kernel, by decide +kernel⟩
theorem ok_read {f : Addr} {fd : FuncData} {k : Nat} (hk : 5 ≤ k) (F : Fun K "read" "ProgramReader.read" sRead f fd) (T : RT K mg C cB fB fdB) (TC : RC mg) (Gg : MOk P w K mg base 2 C "begins" (spBegins C)) (Ga : MOk P w K mg base 1 C "words_at" (spWordsAt C)) (Gn : MOk P w K mg base 3 C "need" (spNeed C cB))
    (Gk : MOk P w K mg base 5 C "read_kind" (spKind C cB)) (Gp : MOk P w K mg base k C "read_part" (spPart C cB)) : FnOk P w K mg base (L2.CX P w) (k + 1) f fd ["self"] (spRead C cB) := by
  obtain ⟨tP, cP⟩ := TC.MOST_PASSES
  refine F.okX sc_read (fun vs H Q E h => ?_) (fun cdv A outer s H vs Q E hr h => ?_)
  · obtain ⟨r, A, S, rfl, _⟩ := h
    rfl
  · obtain ⟨r, A, S, rfl, R, S1, h0, kk⟩ := h
    have hr5 : Room 5 _ := hr.mono (by omega)
    have hr3 : Room 3 _ := hr.mono (by omega)
    have hr2 : Room 2 _ := hr.mono (by omega)
    have hr1 : Room 1 _ := hr.mono (by omega)
    refine ⟨_, pss_cons (ps_while (passes_of rfl) (pt_val (m_meth (pv 0) T.cl Gg hr2 passL (pa_cons pe_int (pa_cons pe_str pa_nil))))
          (pss_one (ps_expr (m_meth (pv 0) T.cl Gk hr5 (passes_call (takes_of rfl rfl rfl rfl) (fun _ _ _ _ z => z)) (pa_cons (m_meth (pv 0) T.cl Ga hr1 passL (pa_cons pe_int pa_nil)) pa_nil)))))
      (pss_cons (ps_expr (m_meth (pv 0) T.cl Gn hr3 (passes_call (takes_of rfl rfl rfl rfl) (fun _ _ _ _ z => z)) (pa_cons (pe_cmpR op_gt (pe_callB call_len_seq (by rfl) T.len PySem.boot_len (pa_cons (pe_fld (pv 0) rfl) pa_nil)) pe_int (nomark _)) pa_nil)))
      (pss_cons (ps_while (passes_of rfl) (PW.pt (pw_and (pt_cmpR (op_eqD hr.units) (m_meth (pv 0) T.cl Ga hr1 passL (pa_cons pe_int pa_nil)) (pe_lst (pa_cons pe_str pa_nil)) (nomark _))
            (pw_and1 (pt_cmpR op_lt (pe_callB call_len_seq (by rfl) T.len PySem.boot_len (pa_cons (pe_fld (pv 0) rfl) pa_nil)) (pe_glob (v := .int 2) rfl cP ⟨_, rfl⟩) (nomark _)))))
          (pss_cons (ps_fldaug (pv 0) pe_int in_add)
          (pss_one (ps_expr (m_meth0 (pv 0) T.cl Gp hr (passes_call (takes_of rfl rfl rfl rfl) (fun _ _ _ _ z => z)))))))
      (pss_one (ps_expr (m_meth (pv 0) T.cl Gn hr3 (passes_call (takes_of rfl rfl rfl rfl) (fun _ _ _ _ z => z)) (pa_cons (pe_and (pe_cmpR op_gt (pe_callB call_len_seq (by rfl) T.len PySem.boot_len (pa_cons (pe_fld (pv 0) rfl) pa_nil)) pe_int (nomark _))
          (pe_one (pe_cmpR op_eq (pe_fld (pv 0) rfl) (pe_callB call_len_seq (by rfl) T.len PySem.boot_len (pa_cons (pe_fld (pv 0) rfl) pa_nil)) (nomark _)))) pa_nil)))))), ?_⟩
    have kk : match ((kindsM (S.ls.length + 1) S).bind fun S => S.need (decide (0 < S.kinds.length)) <| (partsM 3 S).bind fun S => S.need (decide (0 < S.parts) && decide (S.pos = S.ls.length)) (.ok S)) with
        | .ok S' => ∀ (A' : Adr) (H' : Hp), But (A.own r) H H' → (∀ q ∈ A'.own r, q ∈ A.own r ∨ H q = none) → RdAt C H' r A' S' → Fine S' → Q .non H'
        | .bad n => Bad cB E (A.own r) H n := kk
    refine ⟨fun m σ H' => ∃ S', σ = [some (.ref r)] ∧ But (A.own r) H H' ∧ RdAt C H' r A S' ∧ Fine S' ∧ S'.parts = 0 ∧ S'.ls.length - S'.pos + 1 ≤ m ∧ kindsM m S' = kindsM (S.ls.length + 1) S,
      ⟨_, S, rfl, .refl, R, S1, h0, by omega, rfl⟩, ?_⟩
    rintro m σ H3 ⟨S3, rfl, b3, R3, F3, p3, hm, hM⟩
    obtain ⟨dx3, ob3⟩ := R3.ob
    obtain ⟨m, rfl⟩ : ∃ m', m = m' + 1 := ⟨m - 1, by omega⟩
    rw [kindsM_eq] at hM
    refine ⟨_, rfl, r, dx3, _, rfl, ob3, noMeth (by decide +kernel), r, A, S3, 0, _, rfl, R3, F3, by decide, by decide, by decide +kernel, fun H4 s4 => ⟨_, rfl, ?_⟩⟩
    have R4 := R3.same s4
    obtain ⟨dx4, ob4⟩ := R4.ob
    have b4 : But (A.own r) H H4 := b3.trans (.of s4)
    refine ite2 (fun h1 => ?_) (fun h1 => ?_)
    · have h1 := of_decide_eq_true h1
      rw [if_pos h1] at hM
      refine ⟨_, fun _ _ z => z, ?_⟩
      have hne : S3.wordsAt 0 ≠ [] := fun z => by rw [z] at h1; simp at h1
      have pos3 := Rd.more hne
      refine ⟨_, rfl, r, dx4, _, rfl, ob4, noMeth (by decide +kernel), _, rfl, r, dx4, _, rfl, ob4, noMeth (by decide +kernel), r, A, S3, 0, rfl, R4, F3.p, by decide, by decide, fun a H5 s5 na ha => ?_⟩
      have R5 := R4.same s5
      have b5 : But (A.own r) H H5 := b4.trans (.of s5)
      refine ⟨r, a, A, S3, S3.wordsAt 0, rfl, R5, F3, ⟨ha, (F3.words 0).1, (F3.words 0).2⟩, na, pos3, ?_⟩
      cases hc : kindM S3 (S3.wordsAt 0) with
      | bad n =>
        rw [hc] at hM
        rw [← hM] at kk
        exact Bad.before kk b5
      | ok S6 =>
        rw [hc] at hM
        intro H6 b6 R6 F6 hp6 ls6
        have q6 : S6.parts = 0 := (kindM_parts hc).trans p3
        exact ⟨m, Nat.lt_succ_self _, S6, rfl, b5.trans b6, R6, F6, q6, by rw [ls6]; omega, hM⟩
    · have h1 : ¬ (S3.wordsAt 0).take 1 = [("kind" : Str)] := fun z => h1 (decide_eq_true z)
      rw [if_neg h1] at hM
      rw [← hM] at kk
      have kk : match (S3.need (decide (0 < S3.kinds.length)) <| (partsM 3 S3).bind fun S => S.need (decide (0 < S.parts) && decide (S.pos = S.ls.length)) (.ok S)) with
        | .ok S' => ∀ (A' : Adr) (H' : Hp), But (A.own r) H H' → (∀ q ∈ A'.own r, q ∈ A.own r ∨ H q = none) → RdAt C H' r A' S' → Fine S' → Q .non H'
        | .bad n => Bad cB E (A.own r) H n := kk
      rw [need_eq] at kk
      obtain ⟨kv, k41, k42⟩ := R4.kl
      have lk := k42.length
      refine ⟨_, rfl, r, dx4, _, rfl, ob4, noMeth (by decide +kernel), _, rfl, r, C, dx4, _, _, rfl, ob4, T.cl, T.kinds, rfl, A.kl, _, rfl, .inl (SqL.of k41), _, _, rfl, rfl, r, A, S3, _, rfl, R4, fun hb => ?_, fun hb => ?_⟩
      · have h0 : 0 < S3.kinds.length := by
          have := of_decide_eq_true hb
          omega
        rw [if_pos (decide_eq_true h0)] at kk
        have badIn : ∀ (n : Int), Bad cB E (A.own r) H n → ∀ (M : List Addr) (H' : Hp), But (A.own r) H H' → (∀ q ∈ M, q ∈ A.own r ∨ H q = none) → Bad cB E M H' n := fun n b M H' hb hm d H'' hd hk hx => b d H'' (hb.free d hd) (hb.grow hk hm) hx
        refine ⟨fun m σ H' => ∃ A' S', σ = [some (.ref r)] ∧ But (A.own r) H H' ∧ (∀ q ∈ A'.own r, q ∈ A.own r ∨ H q = none) ∧ RdAt C H' r A' S' ∧ Fine S' ∧ 3 - S'.parts ≤ m ∧ partsM m S' = partsM 3 S3,
          ⟨3, A, S3, rfl, b4, fun q hq => .inl hq, R4, F3, by omega, rfl⟩, ?_⟩
        rintro m σ H5 ⟨A5, S5, rfl, b5, o5, R5, F5, hm5, hM5⟩
        obtain ⟨dx5, ob5⟩ := R5.ob
        obtain ⟨m, rfl⟩ : ∃ m', m = m' + 1 := ⟨m - 1, by have := F5.q; omega⟩
        rw [partsM_eq] at hM5
        refine ⟨_, rfl, r, dx5, _, rfl, ob5, noMeth (by decide +kernel), r, A5, S5, 0, rfl, R5, F5.p, by decide, by decide, fun l H6 s6 nl hl => ?_⟩
        refine ⟨(by show 1 ≤ sizeLine; decide), fun z nz => ?_⟩
        have hz : upd H6 z (.lst [V.str "pass"]) z = some (.lst (wlist ["pass"])) := upd_same
        have sz := Same.new (o := .lst [V.str "pass"]) nz
        generalize upd H6 z (.lst [V.str "pass"]) = H7 at hz sz ⊢
        refine ⟨pstrs (S5.wordsAt 0), pstrs ["pass"], dp_strs (sz _ _ hl), dp_strs hz, shaped_strs (F5.words 0).2, shaped_strs (fun x hx => by rw [List.mem_singleton.mp hx]; decide +kernel), _, rfl, ?_⟩
        rw [eqv_strs]
        have b7 : But (A.own r) H H7 := (b5.trans (.of s6)).trans (.of sz)
        have R7 := (R5.same s6).same sz
        obtain ⟨dx7, ob7⟩ := R7.ob
        obtain ⟨pv, p71, p72⟩ := R7.pl
        have out : ¬ (S5.wordsAt 0 = [("pass" : Str)] ∧ S5.parts < 2) → match (S5.need (decide (0 < S5.parts) && decide (S5.pos = S5.ls.length)) (.ok S5)) with
            | .ok S' => ∀ (A' : Adr) (H' : Hp), But (A.own r) H H' → (∀ q ∈ A'.own r, q ∈ A.own r ∨ H q = none) → RdAt C H' r A' S' → Fine S' → Q .non H'
            | .bad n => Bad cB E (A.own r) H n := fun hn => by
          rw [if_neg hn] at hM5
          rw [← hM5] at kk
          exact kk
        refine ite2 (fun h6 => ?_) (fun h6 => ?_)
        · have h6 := of_decide_eq_true h6
          refine ⟨_, rfl, r, C, dx7, _, _, rfl, ob7, T.cl, T.parts, rfl, A5.pl, _, rfl, .inl (SqL.of p71), _, _, rfl, rfl, _, rfl, ?_⟩
          refine ite2 (fun h8 => ?_) (fun h8 => ?_)
          · have h8 : S5.parts < 2 := by have := of_decide_eq_true h8; omega
            rw [if_pos ⟨h6, h8⟩] at hM5
            have pos5 : S5.pos < S5.ls.length := Rd.more (d := 0) (by rw [h6]; simp)
            refine ⟨_, fun _ _ z => z, ?_⟩
            refine ⟨_, rfl, r, C, dx7, _, _, rfl, ob7, T.cl, T.at_, rfl, _, _, rfl, rfl, dx7, _, ob7, (by show 10 < 1000; decide), ?_⟩
            have R8 := R7.goTo (dx := dx7) (S5.pos + 1)
            generalize hH8 : upd H7 r _ = H8
            have R8 : RdAt C H8 r A5 S5.on := by rw [← hH8]; exact R8
            have b8 : But (A.own r) H H8 := by rw [← hH8]; exact b7.trans (.upd (by simp [Adr.own]))
            obtain ⟨dx8, ob8⟩ := R8.ob
            refine ⟨_, rfl, r, dx8, _, rfl, ob8, noMeth (by decide +kernel), r, A5, S5.on, rfl, R8, on_fine F5 pos5, h8, ?_⟩
            cases hp : partM S5.on with
            | bad n =>
              rw [hp] at hM5
              rw [← hM5] at kk
              exact badIn n kk _ _ b8 o5
            | ok S9 =>
              rw [hp] at hM5
              intro A9 H9 b9 o9 R9 F9 q9 l9
              have q9 : S9.parts = S5.parts + 1 := q9
              exact ⟨m, Nat.lt_succ_self _, A9, S9, rfl, b8.grow b9 o5, fun q hq => (o9 q hq).elim (fun z => o5 q z) fun z => .inr (b8.free q z), R9, F9, by omega, hM5⟩
          · have h8 : ¬ S5.parts < 2 := fun z => h8 (decide_eq_true (by omega))
            have kk := out (fun z => h8 z.2)
            rw [need_eq] at kk
            obtain ⟨lv, l71, l72⟩ := R7.ln
            have ll := l72.length
            refine ⟨_, rfl, r, dx7, _, rfl, ob7, noMeth (by decide +kernel), _, rfl, r, C, dx7, _, _, rfl, ob7, T.cl, T.parts, rfl, A5.pl, _, rfl, .inl (SqL.of p71), _, _, rfl, rfl, _, rfl, ?_⟩
            refine ite2 (fun h9 => ?_) (fun h9 => ?_)
            · have h9 : 0 < S5.parts := by have := of_decide_eq_true h9; omega
              refine ⟨_, rfl, r, C, dx7, _, _, rfl, ob7, T.cl, T.at_, rfl, _, rfl, r, C, dx7, _, _, rfl, ob7, T.cl, T.lines, rfl, A5.ln, _, rfl, .inl (SqL.of l71.1), rfl, r, A5, S5, _, rfl, R7, fun hb => ?_, fun hb => ?_⟩
              · have e : S5.pos = S5.ls.length := by have := V.int.inj (of_decide_eq_true hb); omega
                rw [if_pos (by rw [decide_eq_true h9, decide_eq_true e]; rfl)] at kk
                exact kk A5 _ b7 o5 R7 F5
              · have e : ¬ S5.pos = S5.ls.length := fun z => by
                  have := of_decide_eq_false hb
                  exact this (by rw [z, ll])
                rw [if_neg (fun z => e (of_decide_eq_true (Bool.and_eq_true_iff.mp z).2))] at kk
                exact badIn _ kk _ _ b7 o5
            · have h9 : ¬ 0 < S5.parts := fun z => h9 (decide_eq_true (by omega))
              refine ⟨r, A5, S5, false, rfl, R7, fun hb => Bool.noConfusion hb, fun _ => ?_⟩
              rw [if_neg (fun z => h9 (of_decide_eq_true (Bool.and_eq_true_iff.mp z).1))] at kk
              exact badIn _ kk _ _ b7 o5
        · have h6 : ¬ S5.wordsAt 0 = [("pass" : Str)] := fun z => h6 (decide_eq_true z)
          have kk := out (fun z => h6 z.1)
          rw [need_eq] at kk
          obtain ⟨lv, l71, l72⟩ := R7.ln
          have ll := l72.length
          refine ⟨_, rfl, r, dx7, _, rfl, ob7, noMeth (by decide +kernel), _, rfl, r, C, dx7, _, _, rfl, ob7, T.cl, T.parts, rfl, A5.pl, _, rfl, .inl (SqL.of p71), _, _, rfl, rfl, _, rfl, ?_⟩
          refine ite2 (fun h9 => ?_) (fun h9 => ?_)
          · have h9 : 0 < S5.parts := by have := of_decide_eq_true h9; omega
            refine ⟨_, rfl, r, C, dx7, _, _, rfl, ob7, T.cl, T.at_, rfl, _, rfl, r, C, dx7, _, _, rfl, ob7, T.cl, T.lines, rfl, A5.ln, _, rfl, .inl (SqL.of l71.1), rfl, r, A5, S5, _, rfl, R7, fun hb => ?_, fun hb => ?_⟩
            · have e : S5.pos = S5.ls.length := by have := V.int.inj (of_decide_eq_true hb); omega
              rw [if_pos (by rw [decide_eq_true h9, decide_eq_true e]; rfl)] at kk
              exact kk A5 _ b7 o5 R7 F5
            · have e : ¬ S5.pos = S5.ls.length := fun z => by
                have := of_decide_eq_false hb
                exact this (by rw [z, ll])
              rw [if_neg (fun z => e (of_decide_eq_true (Bool.and_eq_true_iff.mp z).2))] at kk
              exact badIn _ kk _ _ b7 o5
          · have h9 : ¬ 0 < S5.parts := fun z => h9 (decide_eq_true (by omega))
            refine ⟨r, A5, S5, false, rfl, R7, fun hb => Bool.noConfusion hb, fun _ => ?_⟩
            rw [if_neg (fun z => h9 (of_decide_eq_true (Bool.and_eq_true_iff.mp z).1))] at kk
            exact badIn _ kk _ _ b7 o5
      · have h0 : ¬ 0 < S3.kinds.length := fun z => by
          have := of_decide_eq_false hb
          omega
        rw [if_neg (fun z => h0 (of_decide_eq_true z))] at kk
        exact Bad.before kk b4
end
end K7

set_option Elab.async false
set_option linter.all false
set_option maxRecDepth 100000
set_option maxHeartbeats 2000000
/-! A def whose first statement is super().__init__(e). -/
namespace SupX
open PySem L2 PySem.Spec PyProof.Rows NdefX PySem.W
/-- facts of the text: the def at f with the words F, its cell __class__ that holds the class D, the method f2 that super() finds for instances of C -/
structure Facts (P : Program) (K : PySem.W.Frag) (mg : Str → Option Value) (f f2 C D : Addr) (F : NF) (fd : FuncData) (ps : List Str) : Prop where
  fn : ∃ (oc : Value) (od : Option Addr) (osl : Array (Option Value)) (doc pm ctv : Value), fd = F.fd doc pm ctv ∧ K.lookup f = some ⟨oc, od, .func fd, osl⟩
  cd : PySem.W.codeIn K (.ref F.c) F.qual = true
  cell : ∃ cc cl cld csl, F.cl = [(("__class__" : Str), cc)] ∧ K.lookup cc = some ⟨cl, cld, .cell (some (.ref D)), csl⟩
  code : ∃ ccl cdd vs ccs file tf, K.lookup F.c = some ⟨ccl, cdd, .fields vs, ccs⟩ ∧ vs[2]? = some (.str file tf) ∧ ((P.main.file : Str) == file) = true
  par : ∃ ar : Arg, (F.params.posonlyargs ++ F.params.args).head? = some ar ∧ ps[0]? = some ar.arg
  clsD : ∃ cdD, PySem.W.clsIn K D = some cdD
  sub : PySem.W.mroIn K C (.ref D) = some true
  mgS : mg "super" = none
  top : (P.main.scope.names.lookup ("super" : Str)).isSome = false
  glS : F.scope.names.lookup ("super" : Str) = some .globalImplicit
  frC : F.scope.names.lookup ("__class__" : Str) = some .free
  third : PySem.W.nsIn K cStatics "thirdparty.any" = some none
  meth : PySem.W.ks_superIn K C D "__init__" = some (some (.ref f2))
  ty : PySem.W.typeIn K (.ref f2) = some (.type "function")
  fi : PySem.W.fnIn K f2 = true
section
variable {P : Program} {w : World} {K : PySem.W.Frag} {mg : Str → Option Value} {base : Heap} {f f2 C D : Addr} {F : NF} {fd fd2 : FuncData} {N ps ps2 : List Str} {sp sp2 : Sp} {j k : Nat}
theorem call_q {M : Model} {A : Around} {E : Value → Shared → Prop} {s : Shared} {env : Env} {pos : Pos} {q g : Addr} {self : Value} {first : List Value} {e : Expr} {Q : Value → Shared → Prop} (hf : PySem.W.fnIn K g = true)
    (h : wpAny M A (spliced (backTo pos (starEach [e] env))) (fun vs s₁ => PySem.W.MethP K q g self s₁.heap ∧ wpAny M A (call (.ref q) (first ++ vs)) Q E s₁) E s) (he : starEach [e] env = (false, eval e env) :: starEach [] env := by rfl) :
    wpAny M A (callWith pos (.ref q) first (backTo pos (starEach [e] env)) []) Q E s := by
  rw [he] at h ⊢
  exact PySem.W.callWith_of rfl (PySem.W.keeps_M hf) (Calls.evalArgs_plain h)
theorem fn_super (T : Facts P K mg f f2 C D F fd ps) (S : NScope N ps ["__class__"] F.scope) (G : FnOk P w K mg base (L2.CX P w) j f2 fd2 ps2 sp2) (b2 : Binds K fd2 ps2 []) {p0 p1 ap pos epos : Pos} {e : Expr} {rest : List Stmt}
    {pl : Sem Bool} (he : ∀ env : Env, eval (.Call (.Attribute (.Call (.Name "super" p0) [] [] p1) "__init__" ap) [e] [] pos) env = (do
      let ov ← attributeBase (.Call (.Name "super" p0) [] [] p1) "__init__" env (eval (.Call (.Name "super" p0) [] [] p1) env)
      standAt ap.atName
      let (f, first) ← holding [ov] (getMethod ov "__init__" pl)
      callWith pos f first (backTo pos (starEach [e] env)) [])) (he2 : ∀ env : Env, starEach [e] env = (false, eval e env) :: starEach [] env) (he3 : ∀ env : Env, env.scope.kind = .function → interactive env = false ∧ swapsWith (.Call (.Attribute (.Call (.Name "super" p0) [] [] p1) "__init__" ap) [e] [] pos) none epos.line env = pure false)
    (hF : F.body = .Expr (.Call (.Attribute (.Call (.Name "super" p0) [] [] p1) "__init__" ap) [e] [] pos) epos :: rest) (len : ∀ vs H Q E, sp vs H Q E → vs.length = ps.length)
    (hbody : ∀ (A : Around) (outer : List Env) (s : Shared) (H : Hp) (vs : List V) (Q : VK) (E : XK), Room j (A.deeper (envF F f s.heap.objs.size)) → sp vs H Q E →
      ∃ (x dx : Addr) (fs : List (Str × V)) (ta : TA) (t : TS), vs[0]? = some (.ref x) ∧ H x = some (.ins C dx fs) ∧ PA (ncx (L2.CX P w) P w K mg base N F f A outer s H E) [e] ta ∧ PSs (ncx (L2.CX P w) P w K mg base N F f A outer s H E) rest t ∧
        ∀ q, H q = none → ta (startF N vs [some (.ref D)]) (upd H q (.met f2 x)) fun ys H2 => H2 q = some (.met f2 x) ∧
          sp2 (.ref x :: ys) H2 (fun _ H3 => t { nx := fun _ H' => Q .non H', rt := Q } (startF N vs [some (.ref D)]) H3) E0) :
    FnOk P w K mg base (L2.CX P w) (j + 1) f fd ps sp := by
  refine ⟨len, fun A outer s H args us vs Q E hr e0 hb r hsp => ?_⟩
  obtain ⟨oc, od, osl, doc, pm, ctv, rfl, lk⟩ := T.fn
  obtain ⟨cc, cl, cld, csl, hcl, lc⟩ := T.cell
  obtain ⟨ccl, cdd, cvs, ccs, file, tf, lcode, hfile1, hfile2⟩ := T.code
  obtain ⟨ar, ha1, ha2⟩ := T.par
  obtain ⟨cdD, hD⟩ := T.clsD
  have hl := len _ _ _ _ hsp
  have KX : K.In s.heap := e0.mod.kin.keeps fun b o e => (e0.bs b o e).1
  have lim : s.heap.NoLimit := e0.mod.nolimit.keeps fun b o e => (e0.bs b o e).1
  have CA : CellsAt F.cl ["__class__"] [some (.ref D)] s.heap H := by
    rw [hcl]
    refine ⟨rfl, fun y c h => ?_, fun x y c h1 h2 => ?_, fun i y h => ?_⟩
    · have hc : c = cc := by
        simp only [List.lookup] at h
        split at h
        · exact (Option.some.inj h).symm
        · cases h
      subst hc
      exact ⟨(e0.bs _ _ (e0.mod.kin _ _ lc)).2, _, _, KX _ _ lc, rfl⟩
    · have g : ∀ z, List.lookup z [(("__class__" : Str), cc)] = some c → z = "__class__" := fun z hz => by
        simp only [List.lookup] at hz
        split at hz
        · rename_i hh
          simpa using hh
        · cases hz
      rw [g x h1, g y h2]
    · cases i with
      | zero =>
        cases h
        refine ⟨cc, by simp [List.lookup], fun v hv => ?_⟩
        cases hv
        exact ⟨.ref D, rfl, _, KX _ _ lc, rfl⟩
      | succ i => simp at h
  refine codeAny_call_function hr.depth (KX _ _ lk) rfl S.co S.gen rfl (PySem.W.codeRec_of KX T.cd) (hb _ _ _ _ ?_)
  refine wpAny_newFunctionEnv S.nocell (fun ⟨n, _⟩ hy => S.par n (List.of_mem_zip hy).1) (fun h₁ hns hsb => ⟨lim.fresh _ hsb, ?_⟩) S.kind
  show codeAny _ _ (.func F.body (envF F f s.heap.objs.size)) _ _
  refine ks_codeAny_funcAt ?_
  have kp : ∀ b o, s.heap.get? b = some o → h₁.get? b = some o := fun b o e => hsb.extBut b o (Nat.ne_of_lt (Heap.lt_size e)) (Heap.get?_push_of_some _ e)
  obtain ⟨x, dx, fs, ta, t, hx, hH, pe, pr, q⟩ := hbody A outer s H vs Q E (hr.deeper _) hsp
  have I : L2.Inv (ncx (L2.CX P w) P w K mg base N F f A outer s H E) [] (startF N vs [some (.ref D)]) H { s with heap := h₁, toks := s.toks + (ps.zip us).length } := inv_startN S hr.hd e0 hl r CA hns kp
  generalize hs1 : ({ s with heap := h₁, toks := s.toks + (ps.zip us).length } : Shared) = s1 at I ⊢
  have hns1 : s1.heap.Ns s.heap.objs.size fun y => (ps.zip us).reverse.lookup y := by rw [← hs1]; exact hns
  rw [hF]
  have KX1 : K.In s1.heap := I.kIn
  obtain ⟨mb, hmb1, hmb2⟩ := I.mod.blt
  have hgl : s1.heap.Ns mainGlobals mg := I.mod.glob.keeps I.bk
  have hbl : s1.heap.Ns builtinsNs mb := hmb1.keeps I.bk
  obtain ⟨mA, O, rO, _, _, _⟩ := ins_get I.hok hH
  obtain ⟨ox, J, _⟩ := O.look
  obtain ⟨ux, hux, rux⟩ := r.get hx
  obtain rfl : ux = Value.ref x := rux
  have ndP : ps.Nodup := by
    have z := S.nd.sublist (List.take_sublist (ps.length + 1) N)
    have pre : N.take (ps.length + 1) = ps ++ [("__class__" : Str)] := S.pre
    rw [pre] at z
    exact (List.nodup_append.mp z).1
  have hself : (ps.zip us).reverse.lookup ar.arg = some (Value.ref x) := zip_look ndP ha2 hux
  have hka : F.scope.names.lookup ar.arg = some .local := S.par _ (List.mem_of_getElem? ha2)
  obtain ⟨oD, hD1, hD2⟩ : ∃ oD, s1.heap.get? D = some oD ∧ oD.data = .cls cdD := by
    unfold PySem.W.clsIn at hD
    split at hD
    · rename_i c d cd' sl ho
      cases hD
      exact ⟨_, KX1 _ _ ho, rfl⟩
    · cases hD
  obtain ⟨cdC, hC⟩ : ∃ cdC, PySem.W.clsIn K C = some cdC := by
    cases z : PySem.W.clsIn K C with
    | some c => exact ⟨c, rfl⟩
    | none =>
      have m := T.meth
      unfold PySem.W.ks_superIn at m
      rw [z] at m
      cases m
  have hmeth : PySem.W.alongIn K "__init__" ((cdC.mro.dropWhile (· != .ref D)).drop 1) = some (some (.ref f2)) := by
    have m := T.meth
    unfold PySem.W.ks_superIn at m
    rw [hC] at m
    exact m
  obtain ⟨of, hof, hofc⟩ : ∃ of, K.lookup f2 = some of ∧ of.cls = .type "function" := by
    have ht' : (K.lookup f2).map (·.cls) = some (.type "function") := T.ty
    cases z : K.lookup f2 with
    | none => rw [z] at ht'; cases ht'
    | some of => rw [z] at ht'; exact ⟨of, rfl, Option.some.inj ht'⟩
  obtain ⟨hp, g, d, tk, os⟩ := s1
  refine ks_wpAt_execs_cons (ks_wpAt_Expr_any (ks_wpAt_MethodCall (pl := pl) ?_ (he _)) (he3 _ S.kind).1 (he3 _ S.kind).2)
  refine ks_wpAt_super_base (env := envF F f s.heap.objs.size) T.glS T.frC rfl rfl (KX1 _ _ lk) rfl ha1 rfl (KX1 _ _ lcode) rfl hfile1 hfile2 T.top ?_
  refine ks_loadName_global S.kind T.glS (Calls.loadGlobal_builtin (env := envF F f s.heap.objs.size) hgl T.mgS hbl ((hmb2 _ (by decide)).trans PyProof.Rows.Boot.«super») ⟨rfl, ?_⟩)
  refine wpAny_loadName_free S.kind T.frC (by rw [show (envF F f s.heap.objs.size).cells = F.cl from rfl, hcl]; rfl) ⟨_, KX1 _ _ lc, rfl⟩ ?_
  refine wpAny_loadName_local S.kind hka hns1 hself ?_
  refine ks_wpAny_isType_cls hD1 hD2 ⟨rfl, ?_⟩
  refine ks_wpAny_call_super hD1 hD2 J.at_ J.cls (fun c ec => ?_) (PySem.W.looks_mroIn KX1 T.sub) fun h2 hso k2 => ?_
  · have := J.no
    unfold PySem.W.notCls at this
    rw [ec] at this
    exact Bool.noConfusion this
  have I2 := I.kept (h' := h2) (t' := tk) k2
  have KX2 : K.In h2 := I2.kIn
  refine ks_wpAny_getMethod_super hso (PySem.W.looks_opaque KX2 T.third) (l₀ := cdC.mro) (fun A Q E s k q => wpAny_bind ((PySem.W.looks_clsIn KX2 hC) A _ E s k (wpAny_pure q))) rfl KX2 hmeth (KX2 _ _ hof) hofc (ks_ne KX1 J hC) rfl ?_
  have nq : H h2.objs.size = none := I2.hok.fresh (Nat.le_refl _)
  have I3 := I2.laid (t' := tk + 1) (a := h2.objs.size) (o := .met f2 x) (fun b u z => Heap.get?_push_of_some _ z) (Nat.le_refl _) (show (h2.push (PySem.W.methodObj (.ref f2) (.ref x))).get? h2.objs.size = some (PySem.W.methodObj (.ref f2) (.ref x)) from Heap.get?_push_size h2 rfl)
  refine call_q T.fi (he := he2 _) (thn (pe.run pos [] _ _ _ _ I3 (q _ nq)) fun us4 s4 ⟨ys, H4, I4, r4, hm4, q4⟩ => ⟨met_P I4 hm4, ?_⟩)
  refine wpAny_call (PySem.W.method_call (met_P I4 hm4).1 (codeAny_mono (run_fnR (us := Value.ref x :: us4) (vs := V.ref x :: ys) ((G.raw b2 .nil).imp (fun vs H Q E h => by rw [List.append_nil]; exact h)) (hr.deeper _) passL I4 (.cons rfl r4) q4) fun rr s5 h5 => ?_))
  cases rr with
  | error er => exact h5
  | ok fl =>
    cases fl with
    | ret u =>
      obtain ⟨v5, H5, I5, rv5, q5⟩ := h5
      refine wpAt_of_wpAny (wpAny_mono (pr.run [] s5 _ H5 _ I5 q5) (fun fl s' hs => ?_) fun e s' hs => hs)
      have fin : ∀ {σ' : L2.St} {H' : Hp} {v : V} {u : Value}, L2.Inv (ncx (L2.CX P w) P w K mg base N F f A outer s H E) [] σ' H' s' → L2.RelV v u → Q v H' → CE outer P w H s Q u s' :=
        fun {σ' H' v u} J rv q => ⟨v, H', J.os, J.bare, J.base, J.hok, rv, q⟩
      cases fl with
      | ret u =>
        obtain ⟨v, σ', H', J, rv, q⟩ := hs
        exact fin J rv q
      | next =>
        obtain ⟨σ', H', J, q⟩ := hs
        exact fin (v := V.non) (u := Value.none) J rfl q
      | brk =>
        obtain ⟨_, _, _, q⟩ := hs
        exact False.elim q
      | cont =>
        obtain ⟨_, _, _, q⟩ := hs
        exact False.elim q
    | next => exact False.elim h5
    | brk => exact False.elim h5
    | cont => exact False.elim h5
end
end SupX

set_option Elab.async false
set_option linter.all false
set_option maxRecDepth 100000
set_option maxHeartbeats 2000000
namespace K7
open PySem L2 Rdr LcX NdefX
abbrev sRdInit : Stmt := inClass (top 21) 0
abbrev nfRd (cl : List (Str × Addr)) (c : Addr) : NF := ⟨"__init__", "ProgramReader.__init__", defArgs sRdInit, defBody sRdInit, defScope sRdInit, cl, c⟩
def spRdInit (C : Addr) : Sp := fun vs H Q _ => ∃ (r dx : Addr) (t : Str), vs = [.ref r, .str t] ∧ H r = some (.ins C dx []) ∧ Fits t ∧
  ∀ (A : Adr) (H' : Hp), But [r] H H' → RdAt C H' r A (start t) → (∀ q ∈ A.own r, q = r ∨ H q = none) → Q .non H'
theorem st_step {H : Hp} {r p : Addr} {x o ob : HO} (hr : H r = some x) (np : H p = none) : p ≠ r ∧ upd (upd H p o) r ob p = some o ∧ upd (upd H p o) r ob r = some ob ∧ But [r] H (upd (upd H p o) r ob) := by
  have e : p ≠ r := fun z => by rw [z, hr] at np; cases np
  exact ⟨e, by rw [upd_ne e, upd_same], upd_same, (But.of (Same.new np)).trans (.upd (by simp))⟩
section
variable {P : Program} {w : World} {K : PySem.W.Frag} {mg : Str → Option Value} {base : Heap} {C D cB fB : Addr} {fdB : FuncData}
theorem sc_rdInit : NScope ["self", "text", "__class__"] ["self", "text"] ["__class__"] (defScope sRdInit) := nscope_by (by decide +kernel)
theorem ok_rdInit {f f2 c : Addr} {cl : List (Str × Addr)} {fd fd2 : FuncData} (TS : SupX.Facts P K mg f f2 C D (nfRd cl c) fd ["self", "text"]) (T : RT K mg C cB fB fdB) (G : FnOk P w K mg base (L2.CX P w) 2 f2 fd2 ["self", "lines"] (spLnInit C)) (b2 : Binds K fd2 ["self", "lines"] []) :
    FnOk P w K mg base (L2.CX P w) 3 f fd ["self", "text"] (spRdInit C) := by
  refine SupX.fn_super TS sc_rdInit G b2 (fun _ => rfl) (fun _ => rfl) (fun _ h => ⟨by unfold interactive; rw [h]; rfl, rfl⟩) rfl (fun vs H Q E h => ?_) (fun A outer s H vs Q E hr h => ?_)
  · obtain ⟨r, dx, t, rfl, _⟩ := h
    rfl
  · obtain ⟨r, dx, t, rfl, hR, ft, k⟩ := h
    refine ⟨r, dx, [], _, _, rfl, hR, pa_cons (pe_split (pv 1) pe_str) pa_nil, pss_cons (ps_fld (pv 0) (pe_lst pa_nil) rfl) (pss_cons (ps_fld (pv 0) pe_dnewK rfl) (pss_cons (ps_fld (pv 0) pe_dnewK rfl) (pss_cons (ps_fld (pv 0) (pe_lst pa_nil) rfl)
      (pss_cons (ps_fld (pv 0) (pe_lst pa_nil) rfl) (pss_cons (ps_fld (pv 0) (pe_lst pa_nil) rfl) (pss_cons (ps_fld (pv 0) (pe_lst pa_nil) rfl) (pss_one (ps_fld (pv 0) (pe_tup pa_nil) rfl)))))))), fun q nq => ?_⟩
    have hz := ft.z
    refine ⟨_, rfl, ⟨_, rfl⟩, _, _, rfl, rfl, (by decide), (by have := le_line (n := 20002) (by omega); omega), fun p np => ⟨by rw [upd_ne (fun z => by rw [← z, upd_same] at np; cases np)]; exact upd_same, ?_⟩⟩
    refine ⟨r, dx, p, t, rfl, (Same.new np) _ _ ((Same.new nq) _ _ hR), upd_same, ft, fun ln lvs H3 b3 nln hr3 fx pr => ?_⟩
    have nln : H ln = none := (Same.new nq).free ((Same.new np).free nln)
    have b3 : But [r] H H3 := ((But.of (Same.new nq)).trans (But.of (Same.new np))).trans b3
    refine ⟨(by show 0 ≤ sizeLine; decide), fun kl nkl => ?_⟩
    obtain ⟨klr, kl1, kl2, bkl⟩ := st_step (o := .lst []) (ob := .ins C dx (putF "kinds" (.ref kl) _)) hr3 nkl
    refine ⟨_, rfl, r, C, dx, _, rfl, (Same.new nkl) _ _ hr3, T.cl, T.kinds, (by show 2 < 1000; decide), ?_⟩
    generalize hH4 : upd (upd H3 kl _) r _ = H4 at kl1 kl2 bkl ⊢
    intro cd ncd
    obtain ⟨cdr, cd1, cd2, bcd⟩ := st_step (o := .dK []) (ob := .ins C dx (putF "chains" (.ref cd) _)) kl2 ncd
    refine ⟨_, rfl, r, C, dx, _, rfl, (Same.new ncd) _ _ kl2, T.cl, T.chains, (by show 3 < 1000; decide), ?_⟩
    generalize hH5 : upd (upd H4 cd _) r _ = H5 at cd1 cd2 bcd ⊢
    intro fd nfd
    obtain ⟨fdr, fd1, fd2, bfd⟩ := st_step (o := .dK []) (ob := .ins C dx (putF "fields" (.ref fd) _)) cd2 nfd
    refine ⟨_, rfl, r, C, dx, _, rfl, (Same.new nfd) _ _ cd2, T.cl, T.fields, (by show 4 < 1000; decide), ?_⟩
    generalize hH6 : upd (upd H5 fd _) r _ = H6 at fd1 fd2 bfd ⊢
    refine ⟨(by show 0 ≤ sizeLine; decide), fun ll nll => ?_⟩
    obtain ⟨llr, ll1, ll2, bll⟩ := st_step (o := .lst []) (ob := .ins C dx (putF "labels" (.ref ll) _)) fd2 nll
    refine ⟨_, rfl, r, C, dx, _, rfl, (Same.new nll) _ _ fd2, T.cl, T.labels, (by show 5 < 1000; decide), ?_⟩
    generalize hH7 : upd (upd H6 ll _) r _ = H7 at ll1 ll2 bll ⊢
    refine ⟨(by show 0 ≤ sizeLine; decide), fun pl npl => ?_⟩
    obtain ⟨plr, pl1, pl2, bpl⟩ := st_step (o := .lst []) (ob := .ins C dx (putF "parts" (.ref pl) _)) ll2 npl
    refine ⟨_, rfl, r, C, dx, _, rfl, (Same.new npl) _ _ ll2, T.cl, T.parts, (by show 6 < 1000; decide), ?_⟩
    generalize hH8 : upd (upd H7 pl _) r _ = H8 at pl1 pl2 bpl ⊢
    refine ⟨(by show 0 ≤ sizeLine; decide), fun cl_ ncl_ => ?_⟩
    obtain ⟨cl_r, cl_1, cl_2, bcl_⟩ := st_step (o := .lst []) (ob := .ins C dx (putF "cells" (.ref cl_) _)) pl2 ncl_
    refine ⟨_, rfl, r, C, dx, _, rfl, (Same.new ncl_) _ _ pl2, T.cl, T.cells, (by show 7 < 1000; decide), ?_⟩
    generalize hH9 : upd (upd H8 cl_ _) r _ = H9 at cl_1 cl_2 bcl_ ⊢
    refine ⟨(by show 0 ≤ sizeLine; decide), fun wl nwl => ?_⟩
    obtain ⟨wlr, wl1, wl2, bwl⟩ := st_step (o := .lst []) (ob := .ins C dx (putF "worths" (.ref wl) _)) cl_2 nwl
    refine ⟨_, rfl, r, C, dx, _, rfl, (Same.new nwl) _ _ cl_2, T.cl, T.worths, (by show 8 < 1000; decide), ?_⟩
    generalize hH10 : upd (upd H9 wl _) r _ = H10 at wl1 wl2 bwl ⊢
    refine ⟨(by show 0 ≤ sizeLine; decide), fun nr nnr => ?_⟩
    obtain ⟨nrr, nr1, nr2, bnr⟩ := st_step (o := .tup []) (ob := .ins C dx (putF "near" (.ref nr) _)) wl2 nnr
    refine ⟨_, rfl, r, C, dx, _, rfl, (Same.new nnr) _ _ wl2, T.cl, T.near, (by show 9 < 1000; decide), ?_⟩
    generalize hH11 : upd (upd H10 nr _) r _ = H11 at nr1 nr2 bnr ⊢
    have mkl : ∀ q ∈ [r], kl ≠ q := fun q hq => by rw [List.mem_singleton.mp hq]; exact klr
    have hkl : kl ∉ [r] := by simpa using klr
    have fkl : H3 kl = none := (But.refl (M := [r])).free _ nkl
    have kkl : H11 kl = some (.lst []) := ((((((bcd.trans bfd).trans bll).trans bpl).trans bcl_).trans bwl).trans bnr).keep _ _ kl1 hkl
    have mcd : ∀ q ∈ [r], cd ≠ q := fun q hq => by rw [List.mem_singleton.mp hq]; exact cdr
    have hcd : cd ∉ [r] := by simpa using cdr
    have fcd : H3 cd = none := bkl.free _ ncd
    have kcd : H11 cd = some (.dK []) := (((((bfd.trans bll).trans bpl).trans bcl_).trans bwl).trans bnr).keep _ _ cd1 hcd
    have mfd : ∀ q ∈ [r], fd ≠ q := fun q hq => by rw [List.mem_singleton.mp hq]; exact fdr
    have hfd : fd ∉ [r] := by simpa using fdr
    have ffd : H3 fd = none := (bkl.trans bcd).free _ nfd
    have kfd : H11 fd = some (.dK []) := ((((bll.trans bpl).trans bcl_).trans bwl).trans bnr).keep _ _ fd1 hfd
    have mll : ∀ q ∈ [r], ll ≠ q := fun q hq => by rw [List.mem_singleton.mp hq]; exact llr
    have hll : ll ∉ [r] := by simpa using llr
    have fll : H3 ll = none := ((bkl.trans bcd).trans bfd).free _ nll
    have kll : H11 ll = some (.lst []) := (((bpl.trans bcl_).trans bwl).trans bnr).keep _ _ ll1 hll
    have mpl : ∀ q ∈ [r], pl ≠ q := fun q hq => by rw [List.mem_singleton.mp hq]; exact plr
    have hpl : pl ∉ [r] := by simpa using plr
    have fpl : H3 pl = none := (((bkl.trans bcd).trans bfd).trans bll).free _ npl
    have kpl : H11 pl = some (.lst []) := ((bcl_.trans bwl).trans bnr).keep _ _ pl1 hpl
    have mcl_ : ∀ q ∈ [r], cl_ ≠ q := fun q hq => by rw [List.mem_singleton.mp hq]; exact cl_r
    have hcl_ : cl_ ∉ [r] := by simpa using cl_r
    have fcl_ : H3 cl_ = none := ((((bkl.trans bcd).trans bfd).trans bll).trans bpl).free _ ncl_
    have kcl_ : H11 cl_ = some (.lst []) := (bwl.trans bnr).keep _ _ cl_1 hcl_
    have mwl : ∀ q ∈ [r], wl ≠ q := fun q hq => by rw [List.mem_singleton.mp hq]; exact wlr
    have hwl : wl ∉ [r] := by simpa using wlr
    have fwl : H3 wl = none := (((((bkl.trans bcd).trans bfd).trans bll).trans bpl).trans bcl_).free _ nwl
    have kwl : H11 wl = some (.lst []) := bnr.keep _ _ wl1 hwl
    have mnr : ∀ q ∈ [r], nr ≠ q := fun q hq => by rw [List.mem_singleton.mp hq]; exact nrr
    have hnr : nr ∉ [r] := by simpa using nrr
    have fnr : H3 nr = none := ((((((bkl.trans bcd).trans bfd).trans bll).trans bpl).trans bcl_).trans bwl).free _ nnr
    have knr : H11 nr = some (.tup []) := (But.refl (M := [r])).keep _ _ nr1 hnr
    have e_kl_cd : kl ≠ cd := ne_of_none ((But.refl (M := [r])).keep _ _ kl1 hkl) ncd
    have e_kl_fd : kl ≠ fd := ne_of_none (bcd.keep _ _ kl1 hkl) nfd
    have e_kl_ll : kl ≠ ll := ne_of_none ((bcd.trans bfd).keep _ _ kl1 hkl) nll
    have e_kl_pl : kl ≠ pl := ne_of_none (((bcd.trans bfd).trans bll).keep _ _ kl1 hkl) npl
    have e_kl_cl_ : kl ≠ cl_ := ne_of_none ((((bcd.trans bfd).trans bll).trans bpl).keep _ _ kl1 hkl) ncl_
    have e_kl_wl : kl ≠ wl := ne_of_none (((((bcd.trans bfd).trans bll).trans bpl).trans bcl_).keep _ _ kl1 hkl) nwl
    have e_kl_nr : kl ≠ nr := ne_of_none ((((((bcd.trans bfd).trans bll).trans bpl).trans bcl_).trans bwl).keep _ _ kl1 hkl) nnr
    have e_cd_fd : cd ≠ fd := ne_of_none ((But.refl (M := [r])).keep _ _ cd1 hcd) nfd
    have e_cd_ll : cd ≠ ll := ne_of_none (bfd.keep _ _ cd1 hcd) nll
    have e_cd_pl : cd ≠ pl := ne_of_none ((bfd.trans bll).keep _ _ cd1 hcd) npl
    have e_cd_cl_ : cd ≠ cl_ := ne_of_none (((bfd.trans bll).trans bpl).keep _ _ cd1 hcd) ncl_
    have e_cd_wl : cd ≠ wl := ne_of_none ((((bfd.trans bll).trans bpl).trans bcl_).keep _ _ cd1 hcd) nwl
    have e_cd_nr : cd ≠ nr := ne_of_none (((((bfd.trans bll).trans bpl).trans bcl_).trans bwl).keep _ _ cd1 hcd) nnr
    have e_fd_ll : fd ≠ ll := ne_of_none ((But.refl (M := [r])).keep _ _ fd1 hfd) nll
    have e_fd_pl : fd ≠ pl := ne_of_none (bll.keep _ _ fd1 hfd) npl
    have e_fd_cl_ : fd ≠ cl_ := ne_of_none ((bll.trans bpl).keep _ _ fd1 hfd) ncl_
    have e_fd_wl : fd ≠ wl := ne_of_none (((bll.trans bpl).trans bcl_).keep _ _ fd1 hfd) nwl
    have e_fd_nr : fd ≠ nr := ne_of_none ((((bll.trans bpl).trans bcl_).trans bwl).keep _ _ fd1 hfd) nnr
    have e_ll_pl : ll ≠ pl := ne_of_none ((But.refl (M := [r])).keep _ _ ll1 hll) npl
    have e_ll_cl_ : ll ≠ cl_ := ne_of_none (bpl.keep _ _ ll1 hll) ncl_
    have e_ll_wl : ll ≠ wl := ne_of_none ((bpl.trans bcl_).keep _ _ ll1 hll) nwl
    have e_ll_nr : ll ≠ nr := ne_of_none (((bpl.trans bcl_).trans bwl).keep _ _ ll1 hll) nnr
    have e_pl_cl_ : pl ≠ cl_ := ne_of_none ((But.refl (M := [r])).keep _ _ pl1 hpl) ncl_
    have e_pl_wl : pl ≠ wl := ne_of_none (bcl_.keep _ _ pl1 hpl) nwl
    have e_pl_nr : pl ≠ nr := ne_of_none ((bcl_.trans bwl).keep _ _ pl1 hpl) nnr
    have e_cl__wl : cl_ ≠ wl := ne_of_none ((But.refl (M := [r])).keep _ _ cl_1 hcl_) nwl
    have e_cl__nr : cl_ ≠ nr := ne_of_none (bwl.keep _ _ cl_1 hcl_) nnr
    have e_wl_nr : wl ≠ nr := ne_of_none ((But.refl (M := [r])).keep _ _ wl1 hwl) nnr
    have ball : But [r] H3 H11 := (((((((bkl.trans bcd).trans bfd).trans bll).trans bpl).trans bcl_).trans bwl).trans bnr)
    have own : ∀ q, q ∈ [r, kl, cd, fd, ll, pl, cl_, wl] → q = r ∨ H3 q = none := fun q hq => by
      simp only [List.mem_cons, List.not_mem_nil, or_false] at hq
      rcases hq with z | z | z | z | z | z | z | z
      · exact .inl z
      all_goals (right; rw [z]; assumption)
    have ca : Carry H3 H11 [r] [r, kl, cd, fd, ll, pl, cl_, wl] := ⟨fun a o hf => ⟨ball.keep _ _ hf.1 hf.2, fun z => (own a z).elim (fun e => hf.2 (by simp [e])) fun e => by rw [hf.1] at e; cases e⟩⟩
    refine k ⟨ln, kl, cd, fd, ll, pl, cl_, wl, nr, []⟩ H11 (b3.trans ball) ⟨⟨dx, nr2⟩, ?_, ⟨lvs, ca.fx _ _ fx, Pr.mono (fun _ _ => ca.ln) pr⟩, ⟨[], kkl, .nil⟩, ⟨[], kcd, .nil⟩, ⟨[], kfd, .nil⟩, kll, ⟨[], kpl, rfl⟩, kcl_, kwl, ⟨knr, ?_⟩, fun x hx => by cases hx⟩ fun q hq => (own q hq).imp id fun z => b3.free _ z
    · show [r, kl, cd, fd, ll, pl, cl_, wl].Nodup
      simp only [List.nodup_cons, List.mem_cons, not_or, List.not_mem_nil, not_false_eq_true, and_true, List.nodup_nil]
      exact ⟨⟨klr.symm, cdr.symm, fdr.symm, llr.symm, plr.symm, cl_r.symm, wlr.symm⟩, ⟨e_kl_cd, e_kl_fd, e_kl_ll, e_kl_pl, e_kl_cl_, e_kl_wl⟩, ⟨e_cd_fd, e_cd_ll, e_cd_pl, e_cd_cl_, e_cd_wl⟩, ⟨e_fd_ll, e_fd_pl, e_fd_cl_, e_fd_wl⟩, ⟨e_ll_pl, e_ll_cl_, e_ll_wl⟩, ⟨e_pl_cl_, e_pl_wl⟩, e_cl__wl⟩
    · show nr ∉ [r, kl, cd, fd, ll, pl, cl_, wl] ++ []
      simp only [List.append_nil, List.mem_cons, not_or, List.not_mem_nil, not_false_eq_true, and_true]
      exact ⟨nrr, e_kl_nr.symm, e_cd_nr.symm, e_fd_nr.symm, e_ll_nr.symm, e_pl_nr.symm, e_cl__nr.symm, e_wl_nr.symm⟩
end
end K7

set_option Elab.async false
set_option linter.all false
set_option maxRecDepth 100000
namespace K7
open PySem L2 Rdr LcX
abbrev sPgInit : Stmt := inClass (top 23) 0
def pgF (t : Str) (a b : Addr) (n : Int) (c : Addr) : List (Str × V) := [("text", .str t), ("kinds", .ref a), ("labels", .ref b), ("passes", .int n), ("parts", .ref c)]
/-- what is no string -/
def NotStr (K : PySem.W.Frag) (H : Hp) (v : V) : Prop := ∃ t, TyX K H v t ∧ PySem.W.kitOne K t (.type "str") = some false
def spPgInit (K : PySem.W.Frag) (CP cB : Addr) : Sp := fun vs H Q E => ∃ (x dx : Addr) (v : V), vs = [.ref x, v] ∧ H x = some (.ins CP dx []) ∧
  ((∃ t, v = .str t ∧ Fits t ∧ match (readM (start t)).isBad with
    | none => ∀ (a b : Addr) (n : Int) (c : Addr) (H' : Hp), But [x] H H' → H' x = some (.ins CP dx (pgF t a b n c)) → Q .non H'
    | some n => Bad cB E [x] H n) ∨ (NotStr K H v ∧ Bad cB E [x] H 0))
structure RG (K : PySem.W.Frag) (mg : Str → Option Value) (C CP fR : Addr) (fdR : FuncData) : Prop where
  cl : Cls K CP
  text : NoAttr K CP "text"
  kinds : NoAttr K CP "kinds"
  labels : NoAttr K CP "labels"
  passes : NoAttr K CP "passes"
  parts : NoAttr K CP "parts"
  mgR : mg "ProgramReader" = some (.ref C)
  MR : Mk K C fR
  bR : Binds K fdR ["self", "text"] []
section
variable {P : Program} {w : World} {K : PySem.W.Frag} {mg : Str → Option Value} {base : Heap} {C CP cB fB fR : Addr} {fdB fdR : FuncData}
theorem sc_pgInit : FnScope ["self", "text", "reader"] ["self", "text"] (defScope sPgInit) := ⟨rfl, rfl, rfl, by decide +kernel, rfl, by decide +kernel, by decide +kernel⟩
theorem ok_pgInit {f : Addr} {fd : FuncData} {k : Nat} (hk : 4 ≤ k) (F : Fun K "__init__" "Program.__init__" sPgInit f fd) (T : RT K mg C cB fB fdB) (TG : RG K mg C CP fR fdR) (GR : FnOk P w K mg base (L2.CX P w) 3 fR fdR ["self", "text"] (spRdInit C)) (Gr : MOk P w K mg base k C "read" (spRead C cB)) :
    FnOk P w K mg base (L2.CX P w) (k + 1) f fd ["self", "text"] (spPgInit K CP cB) := by
  have GB : FnOk P w K mg base (L2.CX P w) 1 fB fdB ["self", "line"] (spBadInit K) := ok_badInit T.FB
  refine F.okX sc_pgInit (fun vs H Q E h => ?_) (fun cdv A outer s H vs Q E hr h => ?_)
  · obtain ⟨x, dx, v, rfl, _⟩ := h
    rfl
  · obtain ⟨x, dx, v, rfl, hx, kk⟩ := h
    have hr3 : Room 4 _ := hr.mono (by omega)
    have hr2 : Room 2 _ := hr.mono (by omega)
    refine ⟨_, pss_cons (ps_if (pt_not (pt_val (pe_callB call_isi (by rfl) T.isinstance (by decide +kernel) (pa_cons (pv 1) (pa_cons (pe_bltn (v := .ty "str") (by rfl) T.str (by decide +kernel) rfl) pa_nil)))))
        (pss_one (ps_raise rfl (takes_of rfl rfl rfl rfl) (pmk_oex T.oB T.iB T.tB GB hr2 T.bB .nil passL rfl T.mgB (pa_cons pe_int pa_nil)))) pss_nil)
      (pss_cons (ps_set (i := 2) sc_pgInit.nd rfl (Or.inl rfl) (pe_make TG.MR GR hr3 rfl TG.mgR TG.bR .nil passL (pa_cons (pv 1) pa_nil)))
      (pss_cons (ps_expr (m_meth0 (pv 2) T.cl Gr hr (passes_call (takes_of rfl rfl rfl rfl) (fun _ _ _ _ z => z))))
      (pss_cons (ps_fld (pv 0) (pv 1) rfl)
      (pss_cons (ps_fld (pv 0) (pe_callTy call_tuple_of (by rfl) T.tuple (by decide +kernel) (pa_cons (pe_fld (pv 2) rfl) pa_nil)) rfl)
      (pss_cons (ps_fld (pv 0) (pe_callTy call_tuple_of (by rfl) T.tuple (by decide +kernel) (pa_cons (pe_fld (pv 2) rfl) pa_nil)) rfl)
      (pss_cons (ps_fld (pv 0) (pe_callB call_len_seq (by rfl) T.len PySem.boot_len (pa_cons (pe_fld (pv 2) rfl) pa_nil)) rfl)
      (pss_one (ps_fld (pv 0) (pe_callTy call_tuple_of (by rfl) T.tuple (by decide +kernel) (pa_cons (pe_fld (pv 2) rfl) pa_nil)) rfl)))))))), ?_⟩
    rcases kk with ⟨t, rfl, ft, kk⟩ | ⟨⟨tt, ty, ki⟩, kk⟩
    · refine ⟨_, rfl, _, .ty "str", .type "str", .type "str", true, rfl, .ty _, .base (.str _), kit_ty (by decide +kernel), _, rfl, ?_⟩
      refine iteF ?_
      refine ⟨_, rfl, fun r dr nr ndr ner => ⟨r, dr, t, rfl, upd_same, ft, fun A H1 b1 R1 o1 => ⟨rfl, ?_⟩⟩⟩
      have s1 : Same H H1 := fun b o hb => by
        have br : b ≠ r := ne_of_none hb nr
        have bd : b ≠ dr := ne_of_none hb ndr
        exact b1.keep _ _ (by rw [upd_ne br, upd_ne bd]; exact hb) (by simpa using br)
      have o1 : ∀ q ∈ A.own r, H q = none := fun q hq => (o1 q hq).elim (fun e => by rw [e]; exact nr) fun z => upd_none (upd_none z)
      obtain ⟨dx1, ob1⟩ := R1.ob
      refine ⟨_, rfl, r, dx1, _, rfl, ob1, noMeth (by decide +kernel), r, A, start t, rfl, R1, start_fine ft, rfl, ?_⟩
      cases e : readM (start t) with
      | bad n =>
        rw [e] at kk
        have kk : Bad cB E [x] H n := kk
        exact fun d H' hd hb hx' => kk d H' (s1.free hd) ⟨fun b o h _ => hb.keep _ _ (s1 _ _ h) fun z => (by rw [o1 b z] at h; cases h), fun b h => s1.free (hb.free b h)⟩ hx'
      | ok S' =>
        rw [e] at kk
        have kk : ∀ (a b : Addr) (n : Int) (c : Addr) (H' : Hp), But [x] H H' → H' x = some (.ins CP dx (pgF t a b n c)) → Q .non H' := kk
        intro A' H2 b2 o2 R2 F2
        have o2 : ∀ q ∈ A'.own r, H q = none := fun q hq => (o2 q hq).elim (fun z => o1 q z) fun z => s1.free z
        have ox : ∀ q ∈ A'.own r, q ≠ x := fun q hq z => by have := o2 q hq; rw [z, hx] at this; cases this
        have s2 : Same H H2 := fun b o h => b2.keep _ _ (s1 _ _ h) fun z => by rw [o1 b z] at h; cases h
        have hx2 := s2 _ _ hx
        obtain ⟨dx2, ob2⟩ := R2.ob
        obtain ⟨kv, k2, _⟩ := R2.kl
        have l2 := R2.ll
        obtain ⟨pv, p2, _⟩ := R2.pl
        have r_x : r ≠ x := ox r (by simp [Adr.own])
        have kl_x : A'.kl ≠ x := ox _ (by simp [Adr.own])
        have ll_x : A'.ll ≠ x := ox _ (by simp [Adr.own])
        have pl_x : A'.pl ≠ x := ox _ (by simp [Adr.own])
        -- text
        refine ⟨_, rfl, _, rfl, x, CP, dx, [], rfl, hx2, TG.cl, TG.text, (by show 0 < 1000; decide), ?_⟩
        have b3 : But [x] H (upd H2 x (.ins CP dx (putF "text" (.str t) []))) := (But.of s2).trans (.upd (by simp))
        have ob3 : upd H2 x (.ins CP dx (putF "text" (.str t) [])) r = _ := (upd_ne r_x).trans ob2
        have k3 : upd H2 x (.ins CP dx (putF "text" (.str t) [])) A'.kl = _ := (upd_ne kl_x).trans k2
        have l3 : upd H2 x (.ins CP dx (putF "text" (.str t) [])) A'.ll = _ := (upd_ne ll_x).trans l2
        have p3 : upd H2 x (.ins CP dx (putF "text" (.str t) [])) A'.pl = _ := (upd_ne pl_x).trans p2
        have hx3 : upd H2 x (.ins CP dx (putF "text" (.str t) [])) x = _ := upd_same
        generalize upd H2 x _ = H3 at b3 ob3 k3 l3 p3 hx3 ⊢
        -- kinds
        refine ⟨_, rfl, r, C, dx2, _, _, rfl, ob3, T.cl, T.kinds, rfl, A'.kl, _, rfl, .inl ⟨SqL.of k3, fun a na => ⟨_, rfl, x, CP, dx, _, rfl, (Same.new na) _ _ hx3, TG.cl, TG.kinds, (by show 1 < 1000; decide), ?_⟩⟩⟩
        have sa := Same.new (o := .tup kv) na
        have b4 := (b3.trans (.of sa)).trans (But.upd (H := upd H3 a (.tup kv)) (o := .ins CP dx (putF "kinds" (.ref a) (putF "text" (.str t) []))) (List.mem_singleton.mpr (rfl : x = x)))
        have ob4 := (upd_ne (o := .ins CP dx (putF "kinds" (.ref a) (putF "text" (.str t) []))) r_x).trans (sa _ _ ob3)
        have l4 := (upd_ne (o := .ins CP dx (putF "kinds" (.ref a) (putF "text" (.str t) []))) ll_x).trans (sa _ _ l3)
        have p4 := (upd_ne (o := .ins CP dx (putF "kinds" (.ref a) (putF "text" (.str t) []))) pl_x).trans (sa _ _ p3)
        have hx4 := upd_same (H := upd H3 a (.tup kv)) (a := x) (o := .ins CP dx (putF "kinds" (.ref a) (putF "text" (.str t) [])))
        generalize upd (upd H3 a (.tup kv)) x _ = H4 at b4 ob4 l4 p4 hx4 ⊢
        -- labels
        refine ⟨_, rfl, r, C, dx2, _, _, rfl, ob4, T.cl, T.labels, rfl, A'.ll, _, rfl, .inl ⟨SqL.of l4, fun b nb => ⟨_, rfl, x, CP, dx, _, rfl, (Same.new nb) _ _ hx4, TG.cl, TG.labels, (by show 2 < 1000; decide), ?_⟩⟩⟩
        have sb := Same.new (o := .tup (wlist S'.labels)) nb
        have b5 := (b4.trans (.of sb)).trans (But.upd (H := upd H4 b (.tup (wlist S'.labels))) (o := .ins CP dx (putF "labels" (.ref b) (putF "kinds" (.ref a) (putF "text" (.str t) [])))) (List.mem_singleton.mpr (rfl : x = x)))
        have ob5 := (upd_ne (o := .ins CP dx (putF "labels" (.ref b) (putF "kinds" (.ref a) (putF "text" (.str t) [])))) r_x).trans (sb _ _ ob4)
        have p5 := (upd_ne (o := .ins CP dx (putF "labels" (.ref b) (putF "kinds" (.ref a) (putF "text" (.str t) [])))) pl_x).trans (sb _ _ p4)
        have hx5 := upd_same (H := upd H4 b (.tup (wlist S'.labels))) (a := x) (o := .ins CP dx (putF "labels" (.ref b) (putF "kinds" (.ref a) (putF "text" (.str t) []))))
        generalize upd (upd H4 b (.tup (wlist S'.labels))) x _ = H5 at b5 ob5 p5 hx5 ⊢
        -- passes
        refine ⟨_, rfl, r, C, dx2, _, _, rfl, ob5, T.cl, T.parts, rfl, A'.pl, _, rfl, .inl (SqL.of p5), _, rfl, x, CP, dx, _, rfl, hx5, TG.cl, TG.passes, (by show 3 < 1000; decide), ?_⟩
        generalize (pv.length : Int) = n
        have b6 := b5.trans (But.upd (H := H5) (o := .ins CP dx (putF "passes" (.int n) (putF "labels" (.ref b) (putF "kinds" (.ref a) (putF "text" (.str t) []))))) (List.mem_singleton.mpr (rfl : x = x)))
        have ob6 := (upd_ne (o := .ins CP dx (putF "passes" (.int n) (putF "labels" (.ref b) (putF "kinds" (.ref a) (putF "text" (.str t) []))))) r_x).trans ob5
        have p6 := (upd_ne (o := .ins CP dx (putF "passes" (.int n) (putF "labels" (.ref b) (putF "kinds" (.ref a) (putF "text" (.str t) []))))) pl_x).trans p5
        have hx6 := upd_same (H := H5) (a := x) (o := .ins CP dx (putF "passes" (.int n) (putF "labels" (.ref b) (putF "kinds" (.ref a) (putF "text" (.str t) [])))))
        generalize upd H5 x _ = H6 at b6 ob6 p6 hx6 ⊢
        -- parts
        refine ⟨_, rfl, r, C, dx2, _, _, rfl, ob6, T.cl, T.parts, rfl, A'.pl, _, rfl, .inl ⟨SqL.of p6, fun c nc => ⟨_, rfl, x, CP, dx, _, rfl, (Same.new nc) _ _ hx6, TG.cl, TG.parts, (by show 4 < 1000; decide), ?_⟩⟩⟩
        exact kk a b n c _ ((b6.trans (.of (Same.new nc))).trans (.upd (by simp))) upd_same
    · refine ⟨_, rfl, _, .ty "str", tt, .type "str", false, rfl, .ty _, ty, ki, _, rfl, ?_⟩
      refine iteT ?_
      refine ⟨(by show 1 ≤ 1000; decide), fun a na => ?_⟩
      refine ⟨a, cB, _, rfl, T.oB, T.nB, upd_same, fun d nd hd => ⟨rfl, d, _, upd_same, by rw [upd_ne hd]; exact upd_same, ?_, ?_⟩⟩
      · rwa [upd_ne hd] at nd
      · have nd' : H d = none := by rwa [upd_ne hd] at nd
        refine kk d _ nd' ⟨fun b o hb _ => ?_, fun b hb => ?_⟩ upd_same
        · have ba : b ≠ a := ne_of_none hb na
          have bd : b ≠ d := ne_of_none hb nd'
          rw [upd_ne bd, del_ne ba, upd_ne ba, upd_ne bd, upd_ne ba]
          exact hb
        · by_cases ba : b = a
          · rw [ba]; exact na
          · by_cases bd : b = d
            · rw [bd]; exact nd'
            · rwa [upd_ne bd, del_ne ba, upd_ne ba, upd_ne bd, upd_ne ba] at hb
end
end K7

set_option Elab.async false
set_option linter.all false
set_option maxRecDepth 100000
set_option maxHeartbeats 2000000
/-! == and != of an instance whose class has an own == alone, beside any value. -/
namespace NeX
open PySem PySem.Spec PyProof.Rows
section
variable {M : Model} {prog : Program} {w : World} {A : Around} {E : Value → Shared → Prop} {s : Shared} {K : PySem.W.Frag} {x C f : Addr} {ox : Obj} {od : Option Obj} {b tb : Value}
theorem ifBound_objNe {args : List Value} {Q : Option Value → Shared → Prop} (X : K.In s.heap) (I : PySem.W.InstAt s.heap x ox C od) (hs : PySem.W.findIn K (.ref C) "__ne__" = some (some (.builtin "object.__ne__")))
    (h : wpAny M A (call (.builtin "object.__ne__") (.ref x :: args)) (fun v => Q (some v)) E s) : wpAny M A (callSpecialIfBound? (.ref x) "__ne__" args) Q E s := by
  simp only [callSpecialIfBound?, bindSpecialIfBound?]
  refine wpAny_holding (wpAny_bind (wpAny_bind (wpAny_bind (I.type.here ((PySem.W.looks_findIn X hs).here ?_)))))
  refine wpAny_bind (wpAny_askSetting (wpAny_ite ?_))
  have fin : wpAny M A (call (.builtin "object.__ne__") ([.ref x] ++ args) >>= fun v => pure (some v)) Q E s := wpAny_bind (wpAny_mono h (fun v s' h' => wpAny_pure h') fun _ _ h' => h')
  split
  · exact wpAny_bind (wpAny_of_eq (F.cmp_object.ne.bind _) (wpAny_pure (by exact fin)))
  · exact wpAny_tryCatch (wpAny_bind (wpAny_of_eq (F.cmp_object.ne.bind _) (wpAny_pure (by exact fin))))
theorem entry_ne {Q : Fin → Shared → Prop} (X : K.In s.heap) (I : PySem.W.InstAt s.heap x ox C od) (hu : A.units < cLine) (hs : PySem.W.findIn K (.ref C) "__eq__" = some (some (.ref f))) (hf : PySem.W.isFn K (.ref f) = true)
    (hcall : wpAny (model prog w) A (call (.ref f) [.ref x, b]) (fun v s' => ∃ r, v = .bool r ∧ Q (.done (.ret (.bool (!r)))) s') E s) : wpAny (model prog w) A (Builtin.«object.__ne__» ⟨[.ref x, b], []⟩) Q E s := by
  unfold Builtin.«object.__ne__»
  repeat (first
    | with_reducible refine wpAny_cRoomFor hu ?_
    | (refine wpAny_bind (m := callSpecialIfBound? (.ref x) (Str.ofString "__eq__") [b])
        (PySem.W.ifBound_K X I hs hf (wpAny_mono hcall (fun v s' hr => by
          obtain ⟨r, rfl, hq⟩ := hr
          repeat (first | exact hq | exact wpAny_pure hq | exact wpAny_truthy_bool hq | (refine wpAny_bind (m := truthy (.bool _)) (wpAny_truthy_bool ?_)) | wp_step)) fun _ _ e => e)))
    | wp_step)
theorem call_objNe {Q : Value → Shared → Prop} (X : K.In s.heap) (I : PySem.W.InstAt s.heap x ox C od) (hu : A.in1.units < cLine) (hm : PySem.W.mroIn K C (.type "object") = some true) (hs : PySem.W.findIn K (.ref C) "__eq__" = some (some (.ref f))) (hf : PySem.W.isFn K (.ref f) = true)
    (hcall : wpAny (model prog w) A.in1 (call (.ref f) [.ref x, b]) (fun v s' => ∃ r, v = .bool r ∧ Q (.bool (!r)) s') E s) : wpAny (model prog w) A (call (.builtin "object.__ne__") [.ref x, b]) Q E s := by
  refine wpAny_call (codeAny_call_builtin F.cmp_object.ne.plain F.cmpEntry_ne (PySem.W.check_slot F.cmpKind_ne F.cmpSplit_ne (I.type.andThen (PySem.W.looks_mroIn X hm)) (F.cmpArgs_ne _ _) (entry_ne (A := A.in1) X I hu hs hf (wpAny_mono hcall (fun v s' z => ?_) fun _ _ e => e))))
  obtain ⟨r, e, q⟩ := z
  exact ⟨r, e, q⟩
theorem cmp_ne {Q : Value → Shared → Prop} (hu : A.units + 1 < cLine) (X : K.In s.heap) (I : PySem.W.InstAt s.heap x ox C od) (hb : PySem.W.Looks (model prog w) s.heap (typeOf b) tb) (hn : PySem.W.notFirst K C tb = true) (hm : PySem.W.mroIn K C (.type "object") = some true)
    (hse : PySem.W.findIn K (.ref C) "__eq__" = some (some (.ref f))) (hsn : PySem.W.findIn K (.ref C) "__ne__" = some (some (.builtin "object.__ne__"))) (hf : PySem.W.isFn K (.ref f) = true)
    (h : wpAny (model prog w) A.in1 (call (.ref f) [.ref x, b]) (fun v s' => ∃ r, v = .bool r ∧ Q (.bool (!r)) s') E s) : wpAny (model prog w) A (richCompare .NotEq (.ref x) b) Q E s := by
  have one : wpAny (model prog w) A (tryCompare (.ref x) "__ne__" b) (fun r s' => ∃ v, r = some v ∧ Q v s') E s := by
    unfold tryCompare
    refine wpAny_bind (ifBound_objNe X I hsn (call_objNe X I (by exact hu) hm hse hf (wpAny_mono h (fun v s' hv => ?_) fun _ _ e => e)))
    obtain ⟨r, e, q⟩ := hv
    exact ⟨r, e, wpAny_pure ⟨_, rfl, q⟩⟩
  simp only [richCompare, cmpInfo_NotEq, oneThing_ref]
  refine wpAny_holding (wpAny_bind (wpAny_cRoomFor (Nat.lt_of_succ_lt hu) ?_))
  refine wpAny_bind (I.type.here (wpAny_bind (hb.here ?_)))
  split
  · rename_i q
    have e : PySem.W.subIn K tb (.ref C) = some false := by
      rcases Bool.or_eq_true_iff.mp hn with e | e
      · rw [beq_iff_eq.mp e] at q; simp at q
      · exact beq_iff_eq.mp e
    refine wpAny_bind ((PySem.W.looks_subIn X e).here ?_)
    simp only [Bool.false_eq_true, if_false]
    refine wpAny_bind (wpAny_mono one (fun r s' z => ?_) fun _ _ e => e)
    obtain ⟨v, rfl, hq⟩ := z
    exact wpAny_pure hq
  · refine wpAny_bind (wpAny_pure ?_)
    simp only [Bool.false_eq_true, if_false]
    refine wpAny_bind (wpAny_mono one (fun r s' z => ?_) fun _ _ e => e)
    obtain ⟨v, rfl, hq⟩ := z
    exact wpAny_pure hq
end
end NeX
namespace NeX
open PySem PySem.Spec PyProof.Rows L2
section
variable {X : Cx} {n : Nat} {CX : CXT} {C f : Addr} {fd : FuncData} {ps : List Str} {sp : Sp} {E : XK}
/-- x == y, x of the class C with an own ==, y any value -/
def rOwn (K : PySem.W.Frag) (C : Addr) (sp : Sp) (g : Bool → Bool) (E : XK) : R2 := fun x y H Q => ∃ (a dx : Addr) (fs : List (Str × V)) (t : Value), x = .ref a ∧ H a = some (.ins C dx fs) ∧ TyX K H y t ∧ PySem.W.notFirst K C t = true ∧
  sp [.ref a, y] H (fun v H' => ∃ b, v = .bl b ∧ Q (.bl (g b)) H') E
theorem env_at {pins : List (Addr × Obj)} {σ : L2.St} {H : Hp} {s : Shared} (I : Inv X pins σ H s) {A : Around} (hf : A.frames = X.A.frames) : Env0 X.prog X.w X.K X.mg X.base A X.stack s H := by
  have e := I.env0
  exact ⟨by rw [hf]; exact e.frames, e.mod, e.bs, e.bsz, e.funs, e.frf, e.hok, e.bare⟩
theorem run_own (F : FnOk X.prog X.w X.K X.mg X.base CX n f fd ps sp) (hb : Binds X.K fd ps []) (hx : Passes CX X E) {A : Around} (hr : Room n A) (hfr : A.frames = X.A.frames) {pins : List (Addr × Obj)} {σ : L2.St} {H : Hp} {s : Shared} (I : Inv X pins σ H s)
    {a : Addr} {y : V} {u : Value} (ry : RelV y u) {Q : Bool → Hp → Prop} (h : sp [.ref a, y] H (fun v H' => ∃ b, v = .bl b ∧ Q b H') E) :
    wpAny (model X.prog X.w) A (call (.ref f) [.ref a, u]) (fun v s' => ∃ b H', v = .bool b ∧ Inv X pins σ H' s' ∧ Q b H') X.xe s := by
  have hl := F.len _ _ _ _ h
  have r2 : Vals [V.ref a, y] [Value.ref a, u] := .cons rfl (.cons ry .nil)
  refine wpAny_call (codeAny_mono (F.run A X.stack s H ⟨[.ref a, u], []⟩ [.ref a, u] [.ref a, y] _ E hr (env_at I hfr) (by
    have := hb s [.ref a, u] I.kIn (by simpa using hl)
    simpa using this) r2 h) fun r s' hq => ?_)
  cases r with
  | error e => exact hx pins σ H s e s' I hq
  | ok fl =>
    cases fl with
    | ret w =>
      obtain ⟨z, H', I', rz, b, ez, q⟩ := I.after hq
      subst ez
      cases rz
      exact ⟨b, H', rfl, I', q⟩
    | next => exact False.elim hq
    | brk => exact False.elim hq
    | cont => exact False.elim hq
theorem op_eqO (F : FnOk X.prog X.w X.K X.mg X.base CX n f fd ps sp) (hs : PySem.W.findIn X.K (.ref C) "__eq__" = some (some (.ref f))) (hf : PySem.W.isFn X.K (.ref f) = true) (hb : Binds X.K fd ps []) (hx : Passes CX X E) (hr : Room n X.A) :
    OpR X (compareOp .Eq) (rOwn X.K C sp id E) := by
  intro pins s σ H x y v u Q I rx ry hq
  obtain ⟨a, dx, fs, t, rfl, ha, ty, nf, q⟩ := hq
  cases rx
  obtain ⟨mA, J, _⟩ := ins_get I.hok ha
  obtain ⟨od, J, _⟩ := J.look
  obtain ⟨m, hF⟩ := I.fr
  obtain ⟨P, Z, p, _⟩ := kit_of I ry ty
  show wpAny (model X.prog X.w) X.A (richCompare .Eq (.ref a) u) (EP X pins σ Q) X.xe s
  refine PySem.W.cmp_K (op := .Eq) (tb := t) hr.units0 hF I.ok.mod.kin J (Z.ty _ _ I.kIn p) nf hs hf (wpAny_mono (run_own F hb hx hr rfl I ry q) (fun v s' z => ?_) fun _ _ e => e)
  obtain ⟨b, H', rfl, I', q⟩ := z
  exact ⟨.bl b, H', I', rfl, q⟩
theorem op_neO (F : FnOk X.prog X.w X.K X.mg X.base CX n f fd ps sp) (hs : PySem.W.findIn X.K (.ref C) "__eq__" = some (some (.ref f))) (hsn : PySem.W.findIn X.K (.ref C) "__ne__" = some (some (.builtin "object.__ne__"))) (hm : PySem.W.mroIn X.K C (.type "object") = some true)
    (hf : PySem.W.isFn X.K (.ref f) = true) (hb : Binds X.K fd ps []) (hx : Passes CX X E) (hr : Room (n + 1) X.A) : OpR X (compareOp .NotEq) (rOwn X.K C sp (!·) E) := by
  intro pins s σ H x y v u Q I rx ry hq
  obtain ⟨a, dx, fs, t, rfl, ha, ty, nf, q⟩ := hq
  cases rx
  obtain ⟨mA, J, _⟩ := ins_get I.hok ha
  obtain ⟨od, J, _⟩ := J.look
  obtain ⟨P, Z, p, _⟩ := kit_of I ry ty
  show wpAny (model X.prog X.w) X.A (richCompare .NotEq (.ref a) u) (EP X pins σ Q) X.xe s
  refine cmp_ne (tb := t) (by have := hr.units; omega) I.kIn J (Z.ty _ _ I.kIn p) nf hm hs hsn hf (wpAny_mono (run_own F hb hx hr.in1 rfl I ry q) (fun v s' z => ?_) fun _ _ e => e)
  obtain ⟨b, H', rfl, I', q⟩ := z
  exact ⟨b, rfl, .bl (!b), H', I', rfl, q⟩
end
end NeX

set_option Elab.async false
set_option linter.all false
set_option maxRecDepth 100000
namespace K7
open PySem L2 Rdr LcX
abbrev sPgEq : Stmt := inClass (top 23) 1
/-- a Program of the text t -/
def PgAt (CP : Addr) (H : Hp) (x : Addr) (t : Str) : Prop := ∃ (dx a b : Addr) (n : Int) (c : Addr), H x = some (.ins CP dx (pgF t a b n c))
def spPgEq (K : PySem.W.Frag) (CP : Addr) : Sp := fun vs H Q _ => ∃ (x : Addr) (t : Str) (y : V) (tt : Value) (b : Bool), vs = [.ref x, y] ∧ PgAt CP H x t ∧ TyX K H y tt ∧ PySem.W.kitOne K tt (.ref CP) = some b ∧
  (b = true → ∃ (z : Addr) (u : Str), y = .ref z ∧ PgAt CP H z u ∧ Q (.bl (decide (t = u))) H) ∧ (b = false → Q (.bl false) H)
section
variable {P : Program} {w : World} {K : PySem.W.Frag} {mg : Str → Option Value} {base : Heap} {C CP cB fB fR : Addr} {fdB fdR : FuncData}
theorem sc_pgEq : FnScope ["self", "other"] ["self", "other"] (defScope sPgEq) := ⟨rfl, rfl, rfl, by decide +kernel, rfl, by decide +kernel, by decide +kernel⟩
theorem ok_pgEq {f : Addr} {fd : FuncData} (F : Fun K "__eq__" "Program.__eq__" sPgEq f fd) (T : RT K mg C cB fB fdB) (TG : RG K mg C CP fR fdR) (mgP : mg "Program" = some (.ref CP)) : FnOk P w K mg base (L2.CX P w) 1 f fd ["self", "other"] (spPgEq K CP) := by
  refine F.okX sc_pgEq (fun vs H Q E h => ?_) (fun cdv A outer s H vs Q E hr h => ?_)
  · obtain ⟨x, t, y, tt, b, rfl, _⟩ := h
    rfl
  · obtain ⟨x, t, y, tt, b, rfl, ⟨dx, a1, a2, a3, a4, hx⟩, ty, ki, k1, k2⟩ := h
    refine ⟨_, pss_one (ps_ret (pe_and (pe_callB call_isi (by rfl) T.isinstance (by decide +kernel) (pa_cons (pv 1) (pa_cons (pe_glob (v := .ref CP) rfl mgP rfl) pa_nil))) (pe_one (pe_cmpR op_eq (pe_fld (pv 0) rfl) (pe_fld (pv 1) rfl) (nomark _))))), ?_⟩
    refine ⟨_, rfl, _, .ref CP, tt, .ref CP, b, rfl, .own _, ty, ki, _, rfl, ?_⟩
    cases b with
    | true =>
      obtain ⟨z, u, rfl, ⟨dz, b1, b2, b3, b4, hz⟩, q⟩ := k1 rfl
      refine iteT ?_
      refine ⟨_, rfl, x, CP, dx, _, _, rfl, hx, TG.cl, TG.text, rfl, _, rfl, z, CP, dz, _, _, rfl, hz, TG.cl, TG.text, rfl, ?_⟩
      have e : decide (V.str t = V.str u) = decide (t = u) := by
        by_cases h : t = u
        · subst h; simp
        · rw [decide_eq_false h]; exact decide_eq_false fun z => h (V.str.inj z)
      refine ⟨rfl, ?_⟩
      rw [e]
      exact q
    | false =>
      refine iteF ?_
      exact k2 rfl
end
end K7

set_option Elab.async false
set_option linter.all false
set_option maxRecDepth 100000
set_option maxHeartbeats 4000000
/-! isinstance of a caught error that has a dict of its own. -/
namespace ErrD
open PySem PySem.Spec PySem.Calls PyProof.Rows PySem.W
section
variable {prog : Program} {w : World} {A : Around} {E : Value → Shared → Prop} {s : Shared} {K : Frag} {x D : Addr} {ox : Obj} {od : Option Obj}
theorem find_data {C : Addr} {name : Str} {a g : Value} (hc : (clsIn K C).isSome = true) (ha : findIn K (.ref C) name = some (some a)) (hg : specialIn K a "__get__" = some (some g)) (ht : takesIn K a = some true) : findObj K C od name = some (.bind g a) := by
  obtain ⟨cd, hc⟩ := Option.isSome_iff_exists.mp hc
  unfold findObj
  rw [hc, Option.bind_some, ha, Option.bind_some]
  simp [hg, ht]
theorem cls_of {Q : Option Value → Shared → Prop} (T : L2.ExcC K D) (X : K.In s.heap) (I : InstAt s.heap x ox D od) (h : Q (some (.ref D)) { s with toks := s.toks + 1 }) : wpAny (model prog w) A (getAttr? (.ref x) "__class__") Q E s := by
  have hc : (clsIn K D).isSome = true := by
    obtain ⟨cd, hc, _⟩ := any_some T.hd
    rw [hc]
    rfl
  have hf : findObj K D od "__class__" = some (.bind (.builtin "getset_descriptor.__get__") (.builtin "object.__class__")) := find_data hc T.ha T.hn T.ht
  obtain ⟨hp, g, d, t, os⟩ := s
  have L0 := I.type (M := model prog w)
  have L1 := looks_findIn (M := model prog w) X T.hg
  have L2 := looks_findIn (M := model prog w) X T.hk
  have L3 := looks_find (M := model prog w) X I hf
  have sub : Looks (model prog w) hp (isInstance (.ref x) (.type "BaseException")) true := L0.andThen (looks_subIn X T.hs)
  have e2 : (Value.builtin "BaseException.__getattribute__" == Value.builtin "object.__getattribute__") = false := by decide +kernel
  have e1 : (onTheHeap (Value.ref D) && Value.builtin "BaseException.__getattribute__" == Value.builtin "object.__getattribute__") = false := by rw [e2]; rfl
  have e0 : (false && onTheHeap (Value.builtin "BaseException.__getattribute__")) = false := rfl
  unfold getAttr? getAttrBy? getAttrBy
  refine wpAny_bind (wpAny_mkText (wpAny_bind (wpAny_attempt (wpAny_holding (wpAny_bind (L0.at (wpAny_bind (L1.at ?_))))))))
  show wpAny _ _ (if (onTheHeap (Value.ref D) && Value.builtin "BaseException.__getattribute__" == Value.builtin "object.__getattribute__") = true then _ else _) _ _ _
  rw [e1, if_neg Bool.false_ne_true]
  unfold getAttrByItsOwn hookBefore
  refine wpAny_bind ?_
  rw [if_pos (show onTheHeap (Value.ref D) = true from rfl)]
  refine L2.at ?_
  refine wpAny_bind (wpAny_attempt (wpAny_holding ?_))
  unfold callGetattribute
  rw [e0, if_neg Bool.false_ne_true]
  unfold boundAndCalled
  rw [PySem.F.excAttr_ValueError.ga.bind (.ref x)]
  refine wpAny_bind (wpAny_pure ?_)
  show wpAny _ _ (call (.builtin "BaseException.__getattribute__") [.ref x, .str "__class__" t]) _ _ _
  refine wpAny_call (codeAny_call_builtin PySem.F.excAttr_ValueError.ga.plain PySem.F.entry_bexc_ga ?_)
  refine @check_slot (model prog w) _ _ ⟨hp, g, d, t + 1, os⟩ "BaseException.__getattribute__" "BaseException" "__getattribute__" (.ref x) [.str "__class__" t] [] _ (by decide +kernel) (by decide +kernel) sub (PySem.F.args_bexc_ga (.ref x) (.str "__class__" t)) ?_
  unfold Builtin.«object.__getattribute__»
  refine wpAny_bind (wpAny_of_eq (a := ((Value.ref x : Value), [Value.str "__class__" t])) (by first | rfl | (simp only [slotArgs]; rfl)) ?_)
  refine wpAny_bind (wpAny_pure (wpAny_bind (L0.at (wpAny_bind (L3.at ?_)))))
  show wpAny _ _ (holding [Value.builtin "object.__class__"] (call (.builtin "getset_descriptor.__get__") [.builtin "object.__class__", .ref x, .ref D]) >>= ret) _ _ _
  refine wpAny_bind (wpAny_holding (wpAny_call (class_get (s := ⟨hp, g, d, t + 1, os⟩) (ox := ox) (od := od) X I T.hm ?_)))
  refine wpAny_pure ?_
  show wpAny _ _ (handedOut (.ref D)) _ _ _
  rw [handedOut_of (v := .ref D) rfl]
  first
    | exact wpAny_pure (wpAny_pure h)
    | exact wpAny_pure h
    | exact wpAny_pure (wpAny_bind (wpAny_pure (wpAny_pure h)))
theorem kit_exd (T : L2.ExcC K D) : KitX K (.ref x) (.ref D) (fun h => ∃ od, InstAt h x ox D od) := by
  have Z := handS_kitx_exc (x := x) (ox := ox) T.hg T.hk T.hs T.hd T.ha T.hn T.ht T.hm
  have no : ∀ h : Heap, K.In h → ∃ o, h.get? D = some o ∧ ∃ cd, o.data = .cls cd := fun h X => by
    obtain ⟨cd, hc, _⟩ := any_some T.hd
    unfold clsIn at hc
    split at hc
    · rename_i c d cd' sl ho
      exact ⟨_, X _ _ ho, cd', rfl⟩
    · cases hc
  refine ⟨fun _ _ _ ⟨_, I⟩ => I.type, fun M h X _ => ?_, fun h tp dd its n sl X htp => ?_, fun X ⟨_, I⟩ k => cls_of T X I k⟩
  · obtain ⟨o, ho, cd, hd⟩ := no h X
    intro A' Q' E' s' k q
    unfold isType loadHead
    refine wpAny_bind (wpAny_loadPart (k _ _ ho) (wpAny_pure ?_))
    rw [hd]
    exact q
  · refine Bool.eq_false_iff.mpr fun q => ?_
    have e : D = tp := Value.ref.inj (beq_iff_eq.mp q)
    obtain ⟨o, ho, cd, hd⟩ := no h X
    rw [e, htp] at ho
    cases ho
    cases hd
end
end ErrD
namespace ErrD
open PySem PySem.Spec PyProof.Rows L2
theorem inst_xd {X : Cx} {a D dd : Addr} {oe : Obj} {pn pins : List (Addr × Obj)} {σ : L2.St} {H : Hp} {s : Shared} {fs : List (Str × V)} (I : Inv (X.suite a ((a, oe) :: pn)) pins σ H s) (hz : Zc (.ref D) (some dd) oe) (hf : ∃ vs, oe.data = .fields vs) (hd : H dd = some (.xd fs)) :
    ∃ od, PySem.W.InstAt s.heap a oe D od := by
  obtain ⟨ha, _⟩ := I.pin (a, oe) (List.mem_append_left _ List.mem_cons_self)
  obtain ⟨vs, hv⟩ := hf
  obtain ⟨mA, hns, hr⟩ := (show ObjOk X.prog X.w H s.heap dd (.xd fs) from I.hok dd _ hd)
  obtain ⟨od, ho, hl⟩ := lookIn_ns hns
  exact ⟨some od, ha, hz.1, by unfold PySem.W.notCls; rw [hv] <;> rfl, by rw [hz.2]; exact ho⟩
/-- isinstance(e, c), e the caught error of the class D, with a dict -/
def rIsD (K : PySem.W.Frag) (D a : Addr) (cls : Value) (d : Option Addr) : List V → Hp → VK → Prop := fun xs H Q => ∃ (dd : Addr) (c : V) (cv : Value) (b : Bool) (fs : List (Str × V)), cls = .ref D ∧ d = some dd ∧ xs = [.ref a, c] ∧ (∀ u, RelV c u → u = cv) ∧ H dd = some (.xd fs) ∧ PySem.W.kitOne K (.ref D) cv = some b ∧ Q (.bl b) H
theorem call_isD {X : Cx} {a D : Addr} {cls : Value} {d : Option Addr} {oe : Obj} {pn : List (Addr × Obj)} (C : ExcC X.K D) (hz : Zc cls d oe) (hf : ∃ vs, oe.data = .fields vs) : CallR (X.suite a ((a, oe) :: pn)) (.builtin "isinstance") (rIsD X.K D a cls d) := by
  intro pins s σ H xs us Q I r h
  obtain ⟨dd, c, cv, b, fs, rfl, rfl, rfl, hcv, hd, e, q⟩ := h
  cases r with
  | cons rx rr =>
    cases rr with
    | cons rt rr =>
      cases rr
      cases rx
      have ec := hcv _ rt
      subst ec
      exact PySem.W.kia_one (kit_exd C) I.kIn (inst_xd I hz hf hd) e (fun z => nomatch z) fun tk => ⟨.bl b, H, I.kept (t' := tk) fun _ _ z => z, rfl, q⟩
end ErrD

set_option Elab.async false
set_option linter.all false
set_option maxRecDepth 100000
set_option maxHeartbeats 4000000
/-! An object made in a try: what its __init__ may let out depends upon the slots. -/
namespace MakeS
open PySem PySem.Spec PyProof.Rows L2
section
variable {X : Cx} {CX : CXT} {k : Nat} {f C : Addr} {fd : FuncData} {ps : List Str} {sp : Sp} {E : L2.St → XK} {x : Str} {p pos : Pos} {e : Expr} {es : List Expr} {t : TA}
def tMakeS (C : Addr) (sp : Sp) (E : L2.St → XK) (t : TA) : TE := fun σ H Q => t σ H fun vs H1 => ∀ x dx, H1 x = none → H1 dx = none → dx ≠ x → sp (.ref x :: vs) (upd (upd H1 dx (.own x)) x (.ins C dx [])) (fun v H2 => v = .non ∧ Q (.ref x) H2) (E σ)
theorem pe_makeS (M : Mk X.K C f) (F : FnOk X.prog X.w X.K X.mg X.base CX k f fd ps sp) (hr : Room (k + 1) X.A) (hg : Gl X x) (hm : X.mg x = some (.ref C)) (hb : Binds X.K fd ps []) (hx : ∀ σ, PassesAt CX X σ (E σ))
    (ha : PA X (e :: es) t) (hdb : (x == ("__debug__" : Str)) = false := by decide) (he : starEach (e :: es) X.env = (false, eval e X.env) :: starEach es X.env := by rfl) (hpl : (backTo pos (starEach es X.env)).any (·.1) = false := by rfl) :
    PE X (.Call (.Name x p) (e :: es) [] pos) (tMakeS C sp E t) := by
  refine ⟨fun pins s σ H Q I h => wpAny_Call_Name_kw (ld_glob I hg hm ?_ hdb)⟩
  refine PySem.W.callWith_K (h₀ := X.base) I.ok.mod.kin M.kp (thn (ha.run pos pins s σ H _ I h) fun us s1 z => ?_) he hpl
  obtain ⟨vs, H1, I1, r, q⟩ := z
  refine ⟨I1.kIn, ?_⟩
  generalize hy : s1.heap.objs.size = y
  have n0 : H1 y = none := by rw [← hy]; exact I1.hok.fresh (Nat.le_refl _)
  have n1 : H1 (y + 1) = none := by rw [← hy]; exact I1.hok.fresh (Nat.le_succ _)
  have q' := q (y + 1) y n1 n0 (Nat.ne_of_lt (Nat.lt_succ_self _))
  have I2 := Inv.made (C := C) I1
  rw [hy] at I2
  have r2 : Vals (V.ref (y + 1) :: vs) (Value.ref (y + 1) :: us) := .cons rfl r
  have hl : (Value.ref (y + 1) :: us).length = ps.length := r2.length.symm.trans (F.len _ _ _ _ q')
  have bb := hb _ (Value.ref (y + 1) :: us) I2.kIn (by rw [List.append_nil]; exact hl)
  rw [List.append_nil] at bb
  have run := F.run _ X.stack _ _ ⟨Value.ref (y + 1) :: us, []⟩ (Value.ref (y + 1) :: us) _ _ (E σ) (hr.make C us []) (I2.env0.make C us []) bb r2 q'
  subst hy
  refine wpAny_call (make_map (f := f) I1.kIn M.makes M.init (beq_iff_eq.mp M.fn) (codeAny_mono run fun r s' hq => ?_))
  cases r with
  | error e => exact hx σ pins _ _ e s' I2 hq
  | ok fl =>
    cases fl with
    | ret u =>
      obtain ⟨v, H', I3, rv, ev, q3⟩ := I2.after hq
      subst ev
      exact ⟨rv, V.ref (s1.heap.objs.size + 1), H', I3, rfl, q3⟩
    | next => exact False.elim hq
    | brk => exact False.elim hq
    | cont => exact False.elim hq
end
end MakeS


set_option Elab.async false
set_option linter.all false
set_option maxRecDepth 100000
set_option maxHeartbeats 2000000
namespace K7
open PySem L2 Rdr LcX MakeS ErrD
abbrev sCaught : Stmt := top 32
def vdue : Option Int → V
  | none => .non
  | some n => .int n
def told : Option Int → V
  | none => .str "told"
  | some n => .int n
def spCaught : Sp := fun vs H Q _ => ∃ t, vs = [.str t] ∧ Fits t ∧ ∀ H', Same H H' → Q (told (readM (start t)).isBad) H'
/-- the class Program, the errors' classes -/
structure RL (K : PySem.W.Frag) (mg : Str → Option Value) (CP cB cK fP : Addr) (fdP : FuncData) : Prop where
  mgP : mg "Program" = some (.ref CP)
  MP : Mk K CP fP
  bP : Binds K fdP ["self", "text"] []
  mgK : mg "KeptError" = some (.ref cK)
  ex : PySem.W.exmOne K (.ref cB) (.ref cK) = some true
  EC : ExcC K cB
  XC : XfC K cB
  nl : PySem.W.findIn K (.ref cB) "line" = some none
  k1 : PySem.W.kitOne K (.ref cB) (.ref cB) = some true
  k2 : PySem.W.kitOne K (.ref cB) (.type "ValueError") = some true
  ve : mg "ValueError" = none
section
variable {P : Program} {w : World} {K : PySem.W.Frag} {mg : Str → Option Value} {base : Heap} {C CP cB cK fB fP fR : Addr} {fdB fdP fdR : FuncData}
theorem sc_caught : FnScope ["_law_text", "_law_made", "error"] ["_law_text"] (defScope sCaught) := ⟨rfl, rfl, rfl, by decide +kernel, rfl, by decide +kernel, by decide +kernel⟩
theorem ok_caught {f : Addr} {fd : FuncData} {k : Nat} (F : Fun K "_law_caught" "_law_caught" sCaught f fd) (T : RT K mg C cB fB fdB) (TG : RG K mg C CP fR fdR) (TL : RL K mg CP cB cK fP fdP) (GP : FnOk P w K mg base (L2.CX P w) k fP fdP ["self", "text"] (spPgInit K CP cB)) :
    FnOk P w K mg base CX0 (k + 2) f fd ["_law_text"] spCaught := by
  refine F.ok sc_caught (fun vs H Q E h => ?_) (fun cdv A outer s H vs Q E hr h => ?_)
  · obtain ⟨t, rfl, _⟩ := h
    rfl
  · obtain ⟨t, rfl, ft, kk⟩ := h
    refine ⟨_, pss_cons (ps_try_as (i := 2) (Wout := fun _ _ _ _ => False) rfl rfl sc_caught.nd rfl rfl ⟨rfl, by decide, Or.inl TL.mgK⟩ takes0
          (fun W pn xe tk _ => pss_one (ps_set (i := 1) sc_caught.nd rfl (Or.inl rfl) (pe_makeS TL.MP GP hr rfl TL.mgP TL.bP (fun σ => passAt tk σ) (pa_cons (pv 0) pa_nil))))
          (fun a oe cls d pn hz hf => pss_one (ps_ret (pe_ifExp (PW.pt (pw_and (pt_val (pe_callB (call_isD TL.EC hz hf) (by rfl) T.isinstance (by decide +kernel) (pa_cons (pv 2) (pa_cons (pe_glob (v := .ref cB) rfl T.mgB rfl) pa_nil))))
              (pw_and1 (pt_val (pe_callB (call_isD TL.EC hz hf) (by rfl) T.isinstance (by decide +kernel) (pa_cons (pv 2) (pa_cons (pe_bltn (v := .ty "ValueError") (by rfl) TL.ve (by decide +kernel) rfl) pa_nil)))))))
            (pe_xf TL.XC TL.nl hz hf (pv 2)) pe_non))))
      (pss_one (ps_ret (pe_ifExp (pt_cmpR op_eq (pe_fld (pv 1) rfl) (pv 0) (nomark _)) pe_str pe_non))), ?_⟩
    have ind : ∀ (x dx : Addr) (H' : Hp), H x = none → H dx = none → But [x] (upd (upd H dx (.own x)) x (.ins CP dx [])) H' → Same H H' := fun x dx H' nx nd b q o hq => by
      have qx : q ≠ x := ne_of_none hq nx
      have qd : q ≠ dx := ne_of_none hq nd
      exact b.keep _ _ (by rw [upd_ne qx, upd_ne qd]; exact hq) (by simpa using qx)
    refine ⟨_, rfl, fun x dx nx nd ne => ⟨x, dx, _, rfl, upd_same, .inl ⟨t, rfl, ft, ?_⟩⟩⟩
    cases e : (readM (start t)).isBad with
    | none =>
      rw [e] at kk
      intro a b n c H' bb hx
      refine ⟨rfl, _, rfl, x, CP, dx, _, _, rfl, hx, TG.cl, TG.text, rfl, _, rfl, rfl, _, rfl, ?_⟩
      refine ite2 (fun h => ?_) (fun h => absurd (by simp) h)
      exact kk H' (ind x dx H' nx nd bb)
    | some n =>
      rw [e] at kk
      intro d H' hd bb hx
      refine ⟨true, TL.ex, fun _ a0 _ => ?_, fun q => Bool.noConfusion q⟩
      refine ⟨_, rfl, d, _, .ref cB, true, _, rfl, rfl, rfl, fun _ z => z, hx, TL.k1, _, rfl, ?_⟩
      refine iteT ?_
      refine ⟨_, rfl, d, _, .type "ValueError", true, _, rfl, rfl, rfl, fun _ z => z, hx, TL.k2, _, rfl, ?_⟩
      refine iteT ?_
      exact ⟨_, rfl, rfl, rfl, d, _, _, rfl, hx, rfl, kk H' (ind x dx H' nx nd bb)⟩
end
end K7

set_option Elab.async false
set_option linter.all false
set_option maxRecDepth 100000
/-! Q06: what _law_caught tells, by data. -/
namespace Rf
open PySem L2
def toldD : Option Int → D
  | none => .str "told"
  | some n => .int n
def caughtM : FA := fun ds S => match ds with
  | [.str t] => if Rdr.fits t = true then .ok (toldD (Rdr.readM (Rdr.start t)).isBad) S else .stuck
  | _ => .stuck
theorem toldD_rp {Y : Yt} {as : List Addr} {F : Hp} (o : Option Int) : Rp Y as F (toldD o) (K7.told o) := by
  cases o with
  | none => exact .str _
  | some n => exact .int n
theorem caught_sp {Y : Yt} {vs : List V} {H : Hp} {Q : VK} (h : spM Y 1 caughtM vs H Q E0) : K7.spCaught vs H Q E0 := by
  obtain ⟨F, as, S, ds, st, r, e, q⟩ := h
  cases r with
  | nil => cases e
  | @cons d v ds vs r1 r2 =>
    cases r2 with
    | cons _ _ => cases e
    | nil =>
      cases r1 with
      | str t =>
        obtain ⟨h, q⟩ := ite_stuck (show After Y E0 (Rp Y) as F H (if Rdr.fits t = true then .ok (toldD (Rdr.readM (Rdr.start t)).isBad) S else .stuck) Q from q)
        exact ⟨t, rfl, Rdr.fits_of h, fun H' same => q as F H' _ (Xt.keep same) (st.keep same) (toldD_rp _)⟩
      | _ => exact q.elim
end Rf

set_option Elab.async false
set_option linter.all false
set_option maxRecDepth 100000
set_option maxHeartbeats 4000000
namespace K04
open PySem L2 Rf
def top (i : Nat) : Stmt := PySem.Challenge.pw_handkept_k04_what_is_open_where.main.body.getD i (.Pass ⟨0, 0, 0, 0⟩)
abbrev s__law_pot : Stmt := top 25
abbrev s__law_take : Stmt := top 26
abbrev s__law_of : Stmt := top 27
abbrev s__law_names : Stmt := top 28
abbrev s__law_kinds : Stmt := top 29
abbrev s__law_open : Stmt := top 30
abbrev s__law_refs : Stmt := top 31
abbrev s__law_asking : Stmt := top 33
abbrev s__law_right : Stmt := top 34
abbrev s_law : Stmt := top 35
theorem sc__law_pot : FnScope ["_law_script", "_law_k", "_law_cell", "_law_own", "_law_mixed"] ["_law_script", "_law_k"] (defScope s__law_pot) := ⟨rfl, rfl, rfl, by decide +kernel, rfl, by decide +kernel, by decide +kernel⟩
theorem sc__law_take : FnScope ["_law_pot_here", "_law_upto", "_law_digit", "_law_prime", "_law_mixed"] ["_law_pot_here", "_law_upto"] (defScope s__law_take) := ⟨rfl, rfl, rfl, by decide +kernel, rfl, by decide +kernel, by decide +kernel⟩
theorem sc__law_of : FnScope ["_law_pot_here", "_law_some"] ["_law_pot_here", "_law_some"] (defScope s__law_of) := ⟨rfl, rfl, rfl, by decide +kernel, rfl, by decide +kernel, by decide +kernel⟩
theorem sc__law_names : FnScope ["_law_pot_here", "_law_many", "_law_some", "_law_found", "_law_turn"] ["_law_pot_here", "_law_many"] (defScope s__law_names) := ⟨rfl, rfl, rfl, by decide +kernel, rfl, by decide +kernel, by decide +kernel⟩
theorem sc__law_kinds : FnScope ["_law_pot_here", "_law_found", "_law_deep", "_law_name", "_law_outer", "_law_one"] ["_law_pot_here"] (defScope s__law_kinds) := ⟨rfl, rfl, rfl, by decide +kernel, rfl, by decide +kernel, by decide +kernel⟩
theorem sc__law_open : FnScope ["_law_m", "_law_home", "_law_found", "_law_name", "_law_outer", "_law_fields"] ["_law_m", "_law_home"] (defScope s__law_open) := ⟨rfl, rfl, rfl, by decide +kernel, rfl, by decide +kernel, by decide +kernel⟩
theorem sc__law_refs : FnScope ["_law_m", "_law_home", "_law_found", "_law_name", "_law_outer", "_law_fields", "_law_field"] ["_law_m", "_law_home"] (defScope s__law_refs) := ⟨rfl, rfl, rfl, by decide +kernel, rfl, by decide +kernel, by decide +kernel⟩
theorem sc__law_asking : FnScope ["_law_pot_here", "_law_m", "_law_every", "_law_name", "_law_outer", "_law_fields", "_law_kinds_here", "_law_ref", "_law_way", "_law_label", "_law_kind", "_law_one", "_law_field"] ["_law_pot_here", "_law_m"] (defScope s__law_asking) := ⟨rfl, rfl, rfl, by decide +kernel, rfl, by decide +kernel, by decide +kernel⟩
theorem sc__law_right : FnScope ["_law_pot_here", "_law_m", "_law_page", "_law_name", "_law_outer", "_law_fields", "_law_home", "_law_head", "_law_due", "_law_turn", "_law_said", "_law_refs_here", "_law_kinds_here", "_law_fine", "_law_is_open", "_law_told", "_law_field", "_law_ref", "_law_kind", "_law_line", "_law_one"] ["_law_pot_here"] (defScope s__law_right) := ⟨rfl, rfl, rfl, by decide +kernel, rfl, by decide +kernel, by decide +kernel⟩
theorem sc_law : FnScope ["_law_script", "_law_k", "_law_pot_here", "_law_turn"] ["_law_script"] (defScope s_law) := ⟨rfl, rfl, rfl, by decide +kernel, rfl, by decide +kernel, by decide +kernel⟩
/-- what the module holds -/
structure Facts (mg : Str → Option Value) : Prop where
  abs : mg "abs" = none
  all : mg "all" = none
  bool : mg "bool" = none
  int : mg "int" = none
  isinstance : mg "isinstance" = none
  len : mg "len" = none
  max : mg "max" = none
  min : mg "min" = none
  range : mg "range" = none
  tuple : mg "tuple" = none
def b__law_pot (C : Nat → FA) : MS := (sSeq (sAsg (mIf (mB (mOp dLt (mV 1) (mA bLen (mCons (mV 0) mNil)))) (mOp dIx (mV 0) (mV 1)) (mOp dAdd (mOp dMul (mC (.int 51)) (mV 1)) (mC (.int 21)))) (gV 2))
    (sSeq (sAsg (mOp dMul (mOp dMod (mA bInt (mCons (mA bAbs (mCons (mV 2) mNil)) mNil)) (mOp dPow (mOp dPow (mC (.int 10)) (mC (.int 60))) (mC (.int 5)))) (mA bInt (mCons (mOp dGe (mA bAbs (mCons (mV 2) mNil)) (mOp dPow (mC (.int 10)) (mC (.int 18)))) mNil))) (gV 3))
    (sSeq (sAsg (mOp dAdd (mOp dAdd (mOp dMul (mOp dMod (mA bInt (mCons (mV 2) mNil)) (mC (.int 2305843009213693951))) (mC (.int 69737))) (mOp dMul (mOp dMul (mC (.int 7549)) (mV 1)) (mV 1))) (mC (.int 59))) (gV 4))
    (sRet (mLstC (mCons (mV 3) (mCons (mOp dMod (mA bInt (mCons (mV 4) mNil)) (mC (.int 2305843009213693921))) (mCons (mC (.int 0)) mNil))))))))
def b__law_take (C : Nat → FA) : MS := (sSeq (sIf (mB (mOp dGt (mOp dIx (mV 0) (mC (.int 0))) (mC (.int 0))))
    (sSeq (sAsg (mOp dMod (mA bInt (mCons (mOp dIx (mV 0) (mC (.int 0))) mNil)) (mV 1)) (gV 2))
    (sSeq (sAsg (mOp dDiv (mOp dIx (mV 0) (mC (.int 0))) (mV 1)) (gIx (mV 0) (mC (.int 0))))
    (sRet (mV 2))))
    sNil)
    (sSeq (sAsg (mOp dAdd (mOp dIx (mV 0) (mC (.int 2))) (mC (.int 1))) (gIx (mV 0) (mC (.int 2))))
    (sSeq (sAsg (mOp dIx (mLst (mCons (mC (.int 2147483647)) (mCons (mC (.int 2147483629)) (mCons (mC (.int 2147483587)) (mCons (mC (.int 2147483579)) (mCons (mC (.int 2147483563)) mNil)))))) (mOp dMod (mA bInt (mCons (mOp dIx (mV 0) (mC (.int 2))) mNil)) (mC (.int 5)))) (gV 3))
    (sSeq (sAsg (mOp dMod (mA bInt (mCons (mOp dPow (mA bInt (mCons (mOp dAdd (mOp dAdd (mOp dIx (mV 0) (mC (.int 1))) (mOp dMul (mOp dMul (mC (.int 99041)) (mOp dIx (mV 0) (mC (.int 2)))) (mOp dIx (mV 0) (mC (.int 2))))) (mC (.int 37))) mNil)) (mC (.int 3))) mNil)) (mV 3)) (gV 4))
    (sSeq (sAsg (mOp dMod (mA bInt (mCons (mOp dMul (mV 4) (mOp dAdd (mOp dMod (mA bInt (mCons (mV 4) mNil)) (mC (.int 10007))) (mOp dMul (mC (.int 83)) (mOp dIx (mV 0) (mC (.int 2)))))) mNil)) (mC (.int 2305843009213693907))) (gV 4))
    (sRet (mOp dMod (mA bInt (mCons (mOp dDiv (mV 4) (mC (.int 103))) mNil)) (mV 1))))))))
def b__law_of (C : Nat → FA) : MS := (sRet (mOp dIx (mV 1) (mA (C 1) (mCons (mV 0) (mCons (mA bLen (mCons (mV 1) mNil)) mNil)))))
def b__law_names (C : Nat → FA) : MS := (clean (sSeq (sAsg (mLstC (mCons (mC (.str "a")) (mCons (mC (.str "line")) (mCons (mC (.str "x")) (mCons (mC (.str "kind")) (mCons (mC (.str "is")) (mCons (mC (.str "pass")) (mCons (mC (.str "zzzzzzzz")) (mCons (mC (.str "in")) (mCons (mC (.str "end")) (mCons (mC (.str "open")) (mCons (mC (.str "cell")) (mCons (mC (.str "if")) (mCons (mC (.str "else")) (mCons (mC (.str "head")) (mCons (mC (.str "b")) mNil)))))))))))))))) (gV 2))
    (sSeq (sAsg (mLstC mNil) (gV 3))
    (sSeq (sFor (mRange1 (mCons (mV 1) mNil)) (gV 4)
    (sExpr (mApp (mV 3) (mPop (mV 2) (mA (C 1) (mCons (mV 0) (mCons (mA bLen (mCons (mV 2) mNil)) mNil)))))))
    (sRet (mV 3))))))
def b__law_kinds (C : Nat → FA) : MS := (clean (sSeq (sAsg (mTup (mCons (mLstC mNil) (mCons (mDisp [""] (mCons (mC (.int 0)) mNil)) mNil))) (gTp 2 (gsCons (gV 1) (gsCons (gV 2) gsNil))))
    (sSeq (sFor (mVal (mA (C 3) (mCons (mV 0) (mCons (mOp dAddL (mC (.int 1)) (mA (C 1) (mCons (mV 0) (mCons (mC (.int 4)) mNil)))) mNil)))) (gV 3)
    (sSeq (sAsg (mA (C 2) (mCons (mV 0) (mCons (mStill 2 (mLc (mKeys (mV 2)) (gV 5) (mB (mOp dLt (mDGet (mV 2) (mV 5)) (mC (.int 3)))) (mV 5) (([("_law_one", 5)] : List (Str × Nat)).map (·.2)))) mNil))) (gV 4))
    (sSeq (sAsg (mOp dAddL (mDGet (mV 2) (mV 4)) (mC (.int 1))) (gDk (mV 2) (mV 3)))
    (sExpr (mApp (mV 1) (mTup (mCons (mV 3) (mCons (mV 4) (mCons (mA bTuple (mCons (mA (C 3) (mCons (mV 0) (mCons (mA (C 1) (mCons (mV 0) (mCons (mC (.int 3)) mNil))) mNil))) mNil)) mNil)))))))))
    (sRet (mV 1)))))
def b__law_open (C : Nat → FA) : MS := (clean (sSeq (sAsg (mLstC mNil) (gV 2))
    (sSeq (whileL 40 (mB (mOp dNe (mV 1) (mC (.str ""))))
    (sSeq (sExpr (mApp (mV 2) (mV 1)))
    (sAsg (mOp dIx (mLc (mVal (mDGet (mV 0) (mC (.str "kinds")))) (gTp 3 (gsCons (gV 3) (gsCons (gV 4) (gsCons (gV 5) gsNil)))) (mB (mOp dEqS (mV 3) (mV 1))) (mV 4) (([("_law_name", 3), ("_law_outer", 4), ("_law_fields", 5)] : List (Str × Nat)).map (·.2))) (mC (.int 0))) (gV 1))))
    (sRet (mV 2)))))
def b__law_refs (C : Nat → FA) : MS := (clean (sSeq (sAsg (mLstC mNil) (gV 2))
    (sSeq (sFor (mVal (mDGet (mV 0) (mC (.str "kinds")))) (gTp 3 (gsCons (gV 3) (gsCons (gV 4) (gsCons (gV 5) gsNil))))
    (sIf (mB (mOp dIn (mV 3) (mA (C 5) (mCons (mV 0) (mCons (mV 1) mNil)))))
    (sExpr (mExt (mV 2) (mLc (mVal (mOp dAddL (mTup (mCons (mC (.str "key")) mNil)) (mV 5))) (gV 6) mYes (mOp dAddL (mOp dAddL (mV 3) (mC (.str "."))) (mV 6)) (([("_law_field", 6)] : List (Str × Nat)).map (·.2)))))
    sNil))
    (sRet (mV 2)))))
def b__law_asking (C : Nat → FA) : MS := (sSeq (sAsg (mLst mNil) (gV 2))
    (sSeq (sFor (mVal (mDGet (mV 1) (mC (.str "kinds")))) (gTp 3 (gsCons (gV 3) (gsCons (gV 4) (gsCons (gV 5) gsNil))))
    (sAsg (mOp dAddL (mV 2) (mLc (mVal (mOp dAddL (mTup (mCons (mC (.str "key")) (mCons (mC (.str "zz")) mNil))) (mV 5))) (gV 12) mYes (mOp dAddL (mOp dAddL (mV 3) (mC (.str "."))) (mV 12)) (([("_law_field", 12)] : List (Str × Nat)).map (·.2)))) (gV 2)))
    (sSeq (sAsg (mLc (mVal (mDGet (mV 1) (mC (.str "kinds")))) (gV 11) mYes (mOp dIx (mV 11) (mC (.int 0))) (([("_law_one", 11)] : List (Str × Nat)).map (·.2))) (gV 6))
    (sSeq (sPar [7, 8] (mCons (mA (C 2) (mCons (mV 0) (mCons (mV 2) mNil))) (mCons (mA (C 1) (mCons (mV 0) (mCons (mC (.int 4)) mNil))) mNil)))
    (sSeq (sAsg (mOp dAddL (mDGet (mV 1) (mC (.str "count"))) (mC (.int 1))) (gDk (mV 1) (mC (.str "count"))))
    (sSeq (sAsg (mOp dIx (mC (.str "abcdefghijklm")) (mDGet (mV 1) (mC (.str "count")))) (gV 9))
    (sSeq (sIf (mB (mOp dEqS (mV 8) (mC (.int 0))))
    (sRet (mTup (mCons (mLst (mCons (mOp dAddL (mOp dAddL (mC (.str "if ")) (mV 7)) (mC (.str " is x"))) (mCons (mOp dAddL (mOp dAddL (mC (.str "  line ")) (mV 9)) (mC (.str " x"))) mNil))) (mCons (mLst (mCons (mV 7) mNil)) (mCons (mLst mNil) mNil)))))
    sNil)
    (sSeq (sIf (mB (mOp dEqS (mV 8) (mC (.int 1))))
    (sSeq (sAsg (mA (C 2) (mCons (mV 0) (mCons (mOp dAddL (mV 6) (mLst (mCons (mC (.str "qq")) mNil))) mNil))) (gV 10))
    (sRet (mTup (mCons (mLst (mCons (mOp dAddL (mOp dAddL (mOp dAddL (mOp dAddL (mOp dAddL (mC (.str "head ")) (mV 9)) (mC (.str " "))) (mV 10)) (mC (.str " x "))) (mV 7)) mNil)) (mCons (mLst (mCons (mV 7) mNil)) (mCons (mLst (mCons (mV 10) mNil)) mNil))))))
    sNil)
    (sSeq (sIf (mB (mOp dEqS (mV 8) (mC (.int 2))))
    (sRet (mTup (mCons (mLst (mCons (mOp dAddL (mOp dAddL (mOp dAddL (mC (.str "head ")) (mV 9)) (mC (.str " - "))) (mV 7)) mNil)) (mCons (mLst (mCons (mV 7) mNil)) (mCons (mLst mNil) mNil)))))
    sNil)
    (sRet (mTup (mCons (mLst (mCons (mOp dAddL (mOp dAddL (mOp dAddL (mC (.str "line ")) (mV 9)) (mC (.str " y "))) (mV 7)) mNil)) (mCons (mLst (mCons (mV 7) mNil)) (mCons (mLst mNil) mNil))))))))))))))
def b__law_right (C : Nat → FA) : MS := (sSeq (sAsg (mDisp ["kinds", "count"] (mCons (mA (C 4) (mCons (mV 0) mNil)) (mCons (mU dNeg (mC (.int 1))) mNil))) (gV 1))
    (sSeq (sAsg (mLstC mNil) (gV 2))
    (sSeq (sFor (mVal (mDGet (mV 1) (mC (.str "kinds")))) (gTp 3 (gsCons (gV 3) (gsCons (gV 4) (gsCons (gV 5) gsNil))))
    (sSeq (sExpr (mApp (mV 2) (mOp dAddL (mOp dAddL (mC (.str "kind ")) (mV 3)) (mIf (mB (mOp dNe (mV 4) (mC (.str "")))) (mOp dAddL (mC (.str " in ")) (mV 4)) (mC (.str ""))))))
    (sAsg (mOp dAddC (mV 2) (mLc (mVal (mV 5)) (gV 16) mYes (mOp dAddL (mC (.str "  field ")) (mV 16)) (([("_law_field", 16)] : List (Str × Nat)).map (·.2)))) (gV 2))))
    (sSeq (sAsg (mA (C 2) (mCons (mV 0) (mCons (mOp dAddL (mOp dMulS (mLc (mVal (mDGet (mV 1) (mC (.str "kinds")))) (gV 20) mYes (mOp dIx (mV 20) (mC (.int 0))) (([("_law_one", 20)] : List (Str × Nat)).map (·.2))) (mC (.int 2))) (mLst (mCons (mC (.str "")) mNil))) mNil))) (gV 6))
    (sSeq (sAsg (mIf (mB (mOp dNe (mV 6) (mC (.str "")))) (mA (C 2) (mCons (mV 0) (mCons (mLst (mCons (mOp dAddL (mC (.str "open ")) (mV 6)) (mCons (mOp dAddL (mC (.str "close ")) (mV 6)) mNil))) mNil))) (mA (C 2) (mCons (mV 0) (mCons (mLst (mCons (mC (.str "begin")) (mCons (mC (.str "end")) mNil))) mNil)))) (gV 7))
    (sSeq (sPar [2, 8] (mCons (mOp dAddL (mV 2) (mLst (mCons (mC (.str "pass")) (mCons (mOp dAddL (mC (.str "  ")) (mV 7)) mNil)))) (mCons (mC .non) mNil)))
    (sSeq (sFor (mRange1 (mCons (mOp dAddL (mC (.int 1)) (mA (C 1) (mCons (mV 0) (mCons (mC (.int 6)) mNil)))) mNil)) (gV 9)
    (sSeq (sAsg (mA (C 8) (mCons (mV 0) (mCons (mV 1) mNil))) (gTp 3 (gsCons (gV 10) (gsCons (gV 11) (gsCons (gV 12) gsNil)))))
    (sSeq (sAsg (mA (bAllAny fun bs => bs.all id) (mCons (mLc (mVal (mV 11)) (gV 17) mYes (mOp dIn (mV 17) (mA (C 6) (mCons (mV 1) (mCons (mV 6) mNil)))) (([("_law_ref", 17)] : List (Str × Nat)).map (·.2))) mNil)) (gV 13))
    (sSeq (sAsg (mA (bAllAny fun bs => bs.all id) (mCons (mLc (mVal (mV 12)) (gV 18) mYes (mOp dIn (mV 18) (mA (C 5) (mCons (mV 1) (mCons (mV 6) mNil)))) (([("_law_kind", 18)] : List (Str × Nat)).map (·.2))) mNil)) (gV 14))
    (sSeq (sIf (mAnd (mB (mOp dIsN (mV 8) (mC .non))) (mNot (mAnd (mB (mV 13)) (mB (mV 14)))))
    (sAsg (mOp dAddL (mA bLen (mCons (mV 2) mNil)) (mC (.int 1))) (gV 8))
    sNil)
    (sAsg (mOp dAddL (mV 2) (mLc (mVal (mV 10)) (gV 19) mYes (mOp dAddL (mC (.str "    ")) (mV 19)) (([("_law_line", 19)] : List (Str × Nat)).map (·.2)))) (gV 2)))))))
    (sSeq (sAsg (mA (C 7) (mCons (mJoin (mC (.str "\n")) (mV 2)) mNil)) (gV 15))
    (sRet (mAndV (mOp dEqS (mV 15) (mIf (mB (mOp dNotN (mV 8) (mC .non))) (mV 8) (mC (.str "told")))) (mNotV (mA bIsi (mCons (mV 15) (mCons (mC (.ty "bool")) mNil))))))))))))))
def b_law (C : Nat → FA) : MS := (sSeq (sFor (mRange1 (mCons (mA bMax2 (mCons (mC (.int 1)) (mCons (mA bMin2 (mCons (mC (.int 3)) (mCons (mA bLen (mCons (mV 0) mNil)) mNil))) mNil))) mNil)) (gV 1)
    (sSeq (sAsg (mA (C 0) (mCons (mV 0) (mCons (mV 1) mNil))) (gV 2))
    (sIf (mNot (mB (mA (bAllAny fun bs => bs.all id) (mCons (mLc (mRange1 (mCons (mC (.int 6)) mNil)) (gV 3) mYes (mA (C 9) (mCons (mV 2) mNil)) (([("_law_turn", 3)] : List (Str × Nat)).map (·.2))) mNil))))
    (sRet (mC (.bl false)))
    sNil)))
    (sRet (mC (.bl true))))
/-- the defs keep what they promise, at a level -/
structure Cs (P : Program) (w : World) (K : PySem.W.Frag) (mg : Str → Option Value) (base : Heap) (Y : Yt) (k : Nat) (C : Nat → FA) : Prop where
  _law_pot : DefG P w K mg base Y k "_law_pot" 2 (C 0)
  _law_take : DefG P w K mg base Y k "_law_take" 2 (C 1)
  _law_of : DefG P w K mg base Y k "_law_of" 2 (C 2)
  _law_names : DefG P w K mg base Y k "_law_names" 2 (C 3)
  _law_kinds : DefG P w K mg base Y k "_law_kinds" 1 (C 4)
  _law_open : DefG P w K mg base Y k "_law_open" 2 (C 5)
  _law_refs : DefG P w K mg base Y k "_law_refs" 2 (C 6)
  _law_caught : DefG P w K mg base Y k "_law_caught" 1 (C 7)
  _law_asking : DefG P w K mg base Y k "_law_asking" 2 (C 8)
  _law_right : DefG P w K mg base Y k "_law_right" 1 (C 9)
  law : DefG P w K mg base Y k "law" 1 (C 10)
def runF : Nat → Nat → FA
  | 0, _ => fun _ _ => .stuck
  | k + 1, i => match i with
    | 0 => runB 5 (b__law_pot (runF k))
    | 1 => runB 5 (b__law_take (runF k))
    | 2 => runB 2 (b__law_of (runF k))
    | 3 => runB 5 (b__law_names (runF k))
    | 4 => runB 6 (b__law_kinds (runF k))
    | 5 => runB 6 (b__law_open (runF k))
    | 6 => runB 7 (b__law_refs (runF k))
    | 7 => extM 19 caughtM (k + 1)
    | 8 => runB 13 (b__law_asking (runF k))
    | 9 => runB 21 (b__law_right (runF k))
    | 10 => runB 4 (b_law (runF k))
    | _ => fun _ _ => .stuck
section
variable {P : Program} {w : World} {K : PySem.W.Frag} {mg : Str → Option Value} {base : Heap} {Y : Yt} {k : Nat} {C : Nat → FA}
theorem p__law_pot {f : Addr} {cdv : Value} {A : Around} {outer : List Env} {s : Shared} {H : Hp} (T : Facts mg) (G : Cs P w K mg base Y k C) (hr : Room k (cxG P w K mg base ["_law_script", "_law_k", "_law_cell", "_law_own", "_law_mixed"] "_law_pot" s__law_pot f cdv A outer s H).A) (o : On (cxG P w K mg base ["_law_script", "_law_k", "_law_cell", "_law_own", "_law_mixed"] "_law_pot" s__law_pot f cdv A outer s H) Y) :
    PSs (cxG P w K mg base ["_law_script", "_law_k", "_law_cell", "_law_own", "_law_mixed"] "_law_pot" s__law_pot f cdv A outer s H) (defBody s__law_pot) (iS Y E0 (b__law_pot C)) := by
  exact (is_cons (is_set (i := 2) sc__law_pot.nd rfl (Or.inl rfl) (i_ifExp (it_cmp (o_lt) (i_var (pv 1)) (i_callB (c_len o) (by rfl) T.len (by decide +kernel) (ia_cons (i_var (pv 0)) ia_nil)) (nomark _)) (i_ix (x_ix o.K) (i_var (pv 0)) (i_var (pv 1)) (fun _ _ => rfl)) (i_op (o_add o.K) (i_op (o_mul) i_int (i_var (pv 1))) i_int)))
    (is_cons (is_set (i := 3) sc__law_pot.nd rfl (Or.inl rfl) (i_op (o_mul) (i_op (o_mod) (i_callTy (c_int) (by rfl) T.int (by decide +kernel) (ia_cons (i_callB (c_abs) (by rfl) T.abs (by decide +kernel) (ia_cons (i_var (pv 2)) ia_nil)) ia_nil)) (i_op (o_pow) (i_op (o_pow) i_int i_int) i_int)) (i_callTy (c_int) (by rfl) T.int (by decide +kernel) (ia_cons (i_cmp (o_ge) (i_callB (c_abs) (by rfl) T.abs (by decide +kernel) (ia_cons (i_var (pv 2)) ia_nil)) (i_op (o_pow) i_int i_int) (nomark _)) ia_nil))))
    (is_cons (is_set (i := 4) sc__law_pot.nd rfl (Or.inl rfl) (i_op (o_add o.K) (i_op (o_add o.K) (i_op (o_mul) (i_op (o_mod) (i_callTy (c_int) (by rfl) T.int (by decide +kernel) (ia_cons (i_var (pv 2)) ia_nil)) i_int) i_int) (i_op (o_mul) (i_op (o_mul) i_int (i_var (pv 1))) (i_var (pv 1)))) i_int))
    (is_one (is_ret (i_lstC (ia_cons (i_var (pv 3)) (ia_cons (i_op (o_mod) (i_callTy (c_int) (by rfl) T.int (by decide +kernel) (ia_cons (i_var (pv 4)) ia_nil)) i_int) (ia_cons i_int ia_nil)))))))))
theorem p__law_take {f : Addr} {cdv : Value} {A : Around} {outer : List Env} {s : Shared} {H : Hp} (T : Facts mg) (G : Cs P w K mg base Y k C) (hr : Room k (cxG P w K mg base ["_law_pot_here", "_law_upto", "_law_digit", "_law_prime", "_law_mixed"] "_law_take" s__law_take f cdv A outer s H).A) (o : On (cxG P w K mg base ["_law_pot_here", "_law_upto", "_law_digit", "_law_prime", "_law_mixed"] "_law_take" s__law_take f cdv A outer s H) Y) :
    PSs (cxG P w K mg base ["_law_pot_here", "_law_upto", "_law_digit", "_law_prime", "_law_mixed"] "_law_take" s__law_take f cdv A outer s H) (defBody s__law_take) (iS Y E0 (b__law_take C)) := by
  exact (is_cons (is_if (it_cmp (o_gt) (i_ix (x_ix o.K) (i_var (pv 0)) i_int (fun _ _ => rfl)) i_int (nomark _))
    (is_cons (is_set (i := 2) sc__law_take.nd rfl (Or.inl rfl) (i_op (o_mod) (i_callTy (c_int) (by rfl) T.int (by decide +kernel) (ia_cons (i_ix (x_ix o.K) (i_var (pv 0)) i_int (fun _ _ => rfl)) ia_nil)) (i_var (pv 1))))
    (is_cons (is_asg (vs := []) (i_op (o_div) (i_ix (x_ix o.K) (i_var (pv 0)) i_int (fun _ _ => rfl)) (i_var (pv 1))) (ig_ix (E := E0) (i_var (pv 0)) i_int))
    (is_one (is_ret (i_var (pv 2))))))
    is_nil)
    (is_cons (is_asg (vs := []) (i_op (o_add o.K) (i_ix (x_ix o.K) (i_var (pv 0)) i_int (fun _ _ => rfl)) i_int) (ig_ix (E := E0) (i_var (pv 0)) i_int))
    (is_cons (is_set (i := 3) sc__law_take.nd rfl (Or.inl rfl) (i_ix (x_ix o.K) (i_lst (ia_cons i_int (ia_cons i_int (ia_cons i_int (ia_cons i_int (ia_cons i_int ia_nil)))))) (i_op (o_mod) (i_callTy (c_int) (by rfl) T.int (by decide +kernel) (ia_cons (i_ix (x_ix o.K) (i_var (pv 0)) i_int (fun _ _ => rfl)) ia_nil)) i_int) (fun _ _ => rfl)))
    (is_cons (is_set (i := 4) sc__law_take.nd rfl (Or.inl rfl) (i_op (o_mod) (i_callTy (c_int) (by rfl) T.int (by decide +kernel) (ia_cons (i_op (o_pow) (i_callTy (c_int) (by rfl) T.int (by decide +kernel) (ia_cons (i_op (o_add o.K) (i_op (o_add o.K) (i_ix (x_ix o.K) (i_var (pv 0)) i_int (fun _ _ => rfl)) (i_op (o_mul) (i_op (o_mul) i_int (i_ix (x_ix o.K) (i_var (pv 0)) i_int (fun _ _ => rfl))) (i_ix (x_ix o.K) (i_var (pv 0)) i_int (fun _ _ => rfl)))) i_int) ia_nil)) i_int) ia_nil)) (i_var (pv 3))))
    (is_cons (is_set (i := 4) sc__law_take.nd rfl (Or.inl rfl) (i_op (o_mod) (i_callTy (c_int) (by rfl) T.int (by decide +kernel) (ia_cons (i_op (o_mul) (i_var (pv 4)) (i_op (o_add o.K) (i_op (o_mod) (i_callTy (c_int) (by rfl) T.int (by decide +kernel) (ia_cons (i_var (pv 4)) ia_nil)) i_int) (i_op (o_mul) i_int (i_ix (x_ix o.K) (i_var (pv 0)) i_int (fun _ _ => rfl))))) ia_nil)) i_int))
    (is_one (is_ret (i_op (o_mod) (i_callTy (c_int) (by rfl) T.int (by decide +kernel) (ia_cons (i_op (o_div) (i_var (pv 4)) i_int) ia_nil)) (i_var (pv 1))))))))))
theorem p__law_of {f : Addr} {cdv : Value} {A : Around} {outer : List Env} {s : Shared} {H : Hp} (T : Facts mg) (G : Cs P w K mg base Y k C) (hr : Room k (cxG P w K mg base ["_law_pot_here", "_law_some"] "_law_of" s__law_of f cdv A outer s H).A) (o : On (cxG P w K mg base ["_law_pot_here", "_law_some"] "_law_of" s__law_of f cdv A outer s H) Y) :
    PSs (cxG P w K mg base ["_law_pot_here", "_law_some"] "_law_of" s__law_of f cdv A outer s H) (defBody s__law_of) (iS Y E0 (b__law_of C)) := by
  exact (is_one (is_ret (i_ix (x_ix o.K) (i_var (pv 1)) (i_call G._law_take hr o (by rfl) (ia_cons (i_var (pv 0)) (ia_cons (i_callB (c_len o) (by rfl) T.len (by decide +kernel) (ia_cons (i_var (pv 1)) ia_nil)) ia_nil)) rfl (len_cons (len_cons len_nil))) (fun _ _ => rfl))))
theorem p__law_names {f : Addr} {cdv : Value} {A : Around} {outer : List Env} {s : Shared} {H : Hp} (T : Facts mg) (G : Cs P w K mg base Y k C) (hr : Room k (cxG P w K mg base ["_law_pot_here", "_law_many", "_law_some", "_law_found", "_law_turn"] "_law_names" s__law_names f cdv A outer s H).A) (o : On (cxG P w K mg base ["_law_pot_here", "_law_many", "_law_some", "_law_found", "_law_turn"] "_law_names" s__law_names f cdv A outer s H) Y) :
    PSs (cxG P w K mg base ["_law_pot_here", "_law_many", "_law_some", "_law_found", "_law_turn"] "_law_names" s__law_names f cdv A outer s H) (defBody s__law_names) (iS Y E0 (b__law_names C)) := by
  exact (is_clean (is_cons (is_set (i := 2) sc__law_names.nd rfl (Or.inl rfl) (i_lstC (ia_cons i_str (ia_cons i_str (ia_cons i_str (ia_cons i_str (ia_cons i_str (ia_cons i_str (ia_cons i_str (ia_cons i_str (ia_cons i_str (ia_cons i_str (ia_cons i_str (ia_cons i_str (ia_cons i_str (ia_cons i_str (ia_cons i_str ia_nil)))))))))))))))))
    (is_cons (is_set (i := 3) sc__law_names.nd rfl (Or.inl rfl) (i_lstC ia_nil))
    (is_cons (is_for (vs := [4]) PassesOwn.never o (ii_range1 (by rfl) T.range (ia_cons (i_var (pv 1)) ia_nil)) (ig_name (pg_name (i := 4) sc__law_names.nd rfl (Or.inl rfl)) (by decide))
    (is_one (is_expr (i_app (i_var (pv 3)) (i_pop (i_var (pv 2)) (i_call G._law_take hr o (by rfl) (ia_cons (i_var (pv 0)) (ia_cons (i_callB (c_len o) (by rfl) T.len (by decide +kernel) (ia_cons (i_var (pv 2)) ia_nil)) ia_nil)) rfl (len_cons (len_cons len_nil))))))))
    (is_one (is_ret (i_var (pv 3))))))))
theorem p__law_kinds {f : Addr} {cdv : Value} {A : Around} {outer : List Env} {s : Shared} {H : Hp} (T : Facts mg) (G : Cs P w K mg base Y k C) (hr : Room k (cxG P w K mg base ["_law_pot_here", "_law_found", "_law_deep", "_law_name", "_law_outer", "_law_one"] "_law_kinds" s__law_kinds f cdv A outer s H).A) (o : On (cxG P w K mg base ["_law_pot_here", "_law_found", "_law_deep", "_law_name", "_law_outer", "_law_one"] "_law_kinds" s__law_kinds f cdv A outer s H) Y) :
    PSs (cxG P w K mg base ["_law_pot_here", "_law_found", "_law_deep", "_law_name", "_law_outer", "_law_one"] "_law_kinds" s__law_kinds f cdv A outer s H) (defBody s__law_kinds) (iS Y E0 (b__law_kinds C)) := by
  exact (is_clean (is_cons (is_asg (vs := [1, 2]) (i_tup (ia_cons (i_lstC ia_nil) (ia_cons (i_disp (.cons i_int Prs.nil)) ia_nil))) (ig_tup o.K o.calm (igs_cons (ig_name (pg_name (i := 1) sc__law_kinds.nd rfl (Or.inl rfl)) (by decide)) (igs_cons (ig_name (pg_name (i := 2) sc__law_kinds.nd rfl (Or.inr rfl)) (by decide)) igs_nil))))
    (is_cons (is_for (vs := [3]) PassesOwn.never o (ii_val o.K (i_call G._law_names hr o (by rfl) (ia_cons (i_var (pv 0)) (ia_cons (i_op (o_addL o.K) i_int (i_call G._law_take hr o (by rfl) (ia_cons (i_var (pv 0)) (ia_cons i_int ia_nil)) rfl (len_cons (len_cons len_nil)))) ia_nil)) rfl (len_cons (len_cons len_nil)))) (ig_name (pg_name (i := 3) sc__law_kinds.nd rfl (Or.inl rfl)) (by decide))
    (is_cons (is_set (i := 4) sc__law_kinds.nd rfl (Or.inl rfl) (i_call G._law_of hr o (by rfl) (ia_cons (i_var (pv 0)) (ia_cons (i_still (v := 2) (i_lc (own := [("_law_one", 5)]) o sc__law_kinds.nd (ii_keys (i_var (pv 2))) (blkOk_by (N := ["_law_pot_here", "_law_found", "_law_deep", "_law_name", "_law_outer", "_law_one"]) (sc := defScope s__law_kinds) (by decide +kernel)) (fun _ _ _ _ _ => (ig_name (pg_name (i := 5) sc__law_kinds.nd rfl (Or.inl rfl)) (by decide))) (fun _ _ _ _ _ => (its_one (it_cmp (o_lt) (i_dget (on_blk o) (i_var (pv 2)) (i_var (pv 5)) (fun _ _ => rfl)) i_int (nomark _)))) (fun _ _ _ _ _ => (i_var (pv 5))))) ia_nil)) rfl (len_cons (len_cons len_nil))))
    (is_cons (is_asg (vs := []) (i_op (o_addL o.K) (i_dget o (i_var (pv 2)) (i_var (pv 4)) (fun _ _ => rfl)) i_int) (ig_dk (E := E0) o (i_var (pv 2)) (i_var (pv 3))))
    (is_one (is_expr (i_app (i_var (pv 1)) (i_tup (ia_cons (i_var (pv 3)) (ia_cons (i_var (pv 4)) (ia_cons (i_callTy (c_tuple o) (by rfl) T.tuple (by decide +kernel) (ia_cons (i_call G._law_names hr o (by rfl) (ia_cons (i_var (pv 0)) (ia_cons (i_call G._law_take hr o (by rfl) (ia_cons (i_var (pv 0)) (ia_cons i_int ia_nil)) rfl (len_cons (len_cons len_nil))) ia_nil)) rfl (len_cons (len_cons len_nil))) ia_nil)) ia_nil))))))))))
    (is_one (is_ret (i_var (pv 1)))))))
theorem p__law_open {f : Addr} {cdv : Value} {A : Around} {outer : List Env} {s : Shared} {H : Hp} (T : Facts mg) (G : Cs P w K mg base Y k C) (hr : Room k (cxG P w K mg base ["_law_m", "_law_home", "_law_found", "_law_name", "_law_outer", "_law_fields"] "_law_open" s__law_open f cdv A outer s H).A) (o : On (cxG P w K mg base ["_law_m", "_law_home", "_law_found", "_law_name", "_law_outer", "_law_fields"] "_law_open" s__law_open f cdv A outer s H) Y) :
    PSs (cxG P w K mg base ["_law_m", "_law_home", "_law_found", "_law_name", "_law_outer", "_law_fields"] "_law_open" s__law_open f cdv A outer s H) (defBody s__law_open) (iS Y E0 (b__law_open C)) := by
  exact (is_clean (is_cons (is_set (i := 2) sc__law_open.nd rfl (Or.inl rfl) (i_lstC ia_nil))
    (is_cons (is_while PassesOwn.never 40 (it_cmp (oo_ne o) (i_var (pv 1)) i_str (nomark _))
    (is_cons (is_expr (i_app (i_var (pv 2)) (i_var (pv 1))))
    (is_one (is_set (i := 1) sc__law_open.nd rfl (Or.inr rfl) (i_ix (x_ix o.K) (i_lc (own := [("_law_name", 3), ("_law_outer", 4), ("_law_fields", 5)]) o sc__law_open.nd (ii_val o.K (i_dget o (i_var (pv 0)) i_str (fun _ _ => rfl))) (blkOk_by (N := ["_law_m", "_law_home", "_law_found", "_law_name", "_law_outer", "_law_fields"]) (sc := defScope s__law_open) (by decide +kernel)) (fun _ _ _ _ _ => (ig_tup (on_blk o).K (on_blk o).calm (igs_cons (ig_name (pg_name (i := 3) sc__law_open.nd rfl (Or.inl rfl)) (by decide)) (igs_cons (ig_name (pg_name (i := 4) sc__law_open.nd rfl (Or.inl rfl)) (by decide)) (igs_cons (ig_name (pg_name (i := 5) sc__law_open.nd rfl (Or.inl rfl)) (by decide)) igs_nil))))) (fun _ _ _ _ _ => (its_one (it_cmp (o_eqS (on_blk o)) (i_var (pv 3)) (i_var (pv 1)) (nomark _)))) (fun _ _ _ _ _ => (i_var (pv 4)))) i_int (fun _ _ => rfl))))))
    (is_one (is_ret (i_var (pv 2)))))))
theorem p__law_refs {f : Addr} {cdv : Value} {A : Around} {outer : List Env} {s : Shared} {H : Hp} (T : Facts mg) (G : Cs P w K mg base Y k C) (hr : Room k (cxG P w K mg base ["_law_m", "_law_home", "_law_found", "_law_name", "_law_outer", "_law_fields", "_law_field"] "_law_refs" s__law_refs f cdv A outer s H).A) (o : On (cxG P w K mg base ["_law_m", "_law_home", "_law_found", "_law_name", "_law_outer", "_law_fields", "_law_field"] "_law_refs" s__law_refs f cdv A outer s H) Y) :
    PSs (cxG P w K mg base ["_law_m", "_law_home", "_law_found", "_law_name", "_law_outer", "_law_fields", "_law_field"] "_law_refs" s__law_refs f cdv A outer s H) (defBody s__law_refs) (iS Y E0 (b__law_refs C)) := by
  exact (is_clean (is_cons (is_set (i := 2) sc__law_refs.nd rfl (Or.inl rfl) (i_lstC ia_nil))
    (is_cons (is_for (vs := [3, 4, 5]) PassesOwn.never o (ii_val o.K (i_dget o (i_var (pv 0)) i_str (fun _ _ => rfl))) (ig_tup o.K o.calm (igs_cons (ig_name (pg_name (i := 3) sc__law_refs.nd rfl (Or.inr rfl)) (by decide)) (igs_cons (ig_name (pg_name (i := 4) sc__law_refs.nd rfl (Or.inl rfl)) (by decide)) (igs_cons (ig_name (pg_name (i := 5) sc__law_refs.nd rfl (Or.inl rfl)) (by decide)) igs_nil))))
    (is_one (is_if (it_cmp (oo_in o) (i_var (pv 3)) (i_call G._law_open hr o (by rfl) (ia_cons (i_var (pv 0)) (ia_cons (i_var (pv 1)) ia_nil)) rfl (len_cons (len_cons len_nil))) rfl)
    (is_one (is_expr (i_ext (i_var (pv 2)) (i_lc (own := [("_law_field", 6)]) o sc__law_refs.nd (ii_val o.K (i_op (o_addL o.K) (i_tup (ia_cons i_str ia_nil)) (i_var (pv 5)))) (blkOk_by (N := ["_law_m", "_law_home", "_law_found", "_law_name", "_law_outer", "_law_fields", "_law_field"]) (sc := defScope s__law_refs) (by decide +kernel)) (fun _ _ _ _ _ => (ig_name (pg_name (i := 6) sc__law_refs.nd rfl (Or.inl rfl)) (by decide))) (fun _ _ _ _ _ => its_nil) (fun _ _ _ _ _ => (i_op (o_addL (on_blk o).K) (i_op (o_addL (on_blk o).K) (i_var (pv 3)) i_str) (i_var (pv 6))))))))
    is_nil)))
    (is_one (is_ret (i_var (pv 2)))))))
theorem p__law_asking {f : Addr} {cdv : Value} {A : Around} {outer : List Env} {s : Shared} {H : Hp} (T : Facts mg) (G : Cs P w K mg base Y k C) (hr : Room k (cxG P w K mg base ["_law_pot_here", "_law_m", "_law_every", "_law_name", "_law_outer", "_law_fields", "_law_kinds_here", "_law_ref", "_law_way", "_law_label", "_law_kind", "_law_one", "_law_field"] "_law_asking" s__law_asking f cdv A outer s H).A) (o : On (cxG P w K mg base ["_law_pot_here", "_law_m", "_law_every", "_law_name", "_law_outer", "_law_fields", "_law_kinds_here", "_law_ref", "_law_way", "_law_label", "_law_kind", "_law_one", "_law_field"] "_law_asking" s__law_asking f cdv A outer s H) Y) :
    PSs (cxG P w K mg base ["_law_pot_here", "_law_m", "_law_every", "_law_name", "_law_outer", "_law_fields", "_law_kinds_here", "_law_ref", "_law_way", "_law_label", "_law_kind", "_law_one", "_law_field"] "_law_asking" s__law_asking f cdv A outer s H) (defBody s__law_asking) (iS Y E0 (b__law_asking C)) := by
  exact (is_cons (is_set (i := 2) sc__law_asking.nd rfl (Or.inl rfl) (i_lst ia_nil))
    (is_cons (is_for (vs := [3, 4, 5]) PassesOwn.never o (ii_val o.K (i_dget o (i_var (pv 1)) i_str (fun _ _ => rfl))) (ig_tup o.K o.calm (igs_cons (ig_name (pg_name (i := 3) sc__law_asking.nd rfl (Or.inr rfl)) (by decide)) (igs_cons (ig_name (pg_name (i := 4) sc__law_asking.nd rfl (Or.inl rfl)) (by decide)) (igs_cons (ig_name (pg_name (i := 5) sc__law_asking.nd rfl (Or.inl rfl)) (by decide)) igs_nil))))
    (is_one (is_set (i := 2) sc__law_asking.nd rfl (Or.inl rfl) (i_op (o_addL o.K) (i_var (pv 2)) (i_lc (own := [("_law_field", 12)]) o sc__law_asking.nd (ii_val o.K (i_op (o_addL o.K) (i_tup (ia_cons i_str (ia_cons i_str ia_nil))) (i_var (pv 5)))) (blkOk_by (N := ["_law_pot_here", "_law_m", "_law_every", "_law_name", "_law_outer", "_law_fields", "_law_kinds_here", "_law_ref", "_law_way", "_law_label", "_law_kind", "_law_one", "_law_field"]) (sc := defScope s__law_asking) (by decide +kernel)) (fun _ _ _ _ _ => (ig_name (pg_name (i := 12) sc__law_asking.nd rfl (Or.inl rfl)) (by decide))) (fun _ _ _ _ _ => its_nil) (fun _ _ _ _ _ => (i_op (o_addL (on_blk o).K) (i_op (o_addL (on_blk o).K) (i_var (pv 3)) i_str) (i_var (pv 12)))))))))
    (is_cons (is_setLc (own := [("_law_one", 11)]) o sc__law_asking.nd rfl rfl (sw_true rfl rfl rfl (by decide +kernel)) (ii_val o.K (i_dget o (i_var (pv 1)) i_str (fun _ _ => rfl))) (blkOk_by (N := ["_law_pot_here", "_law_m", "_law_every", "_law_name", "_law_outer", "_law_fields", "_law_kinds_here", "_law_ref", "_law_way", "_law_label", "_law_kind", "_law_one", "_law_field"]) (sc := defScope s__law_asking) (by decide +kernel)) (fun _ _ _ _ _ => (ig_name (pg_name (i := 11) sc__law_asking.nd rfl (Or.inl rfl)) (by decide))) (fun _ _ _ _ _ => its_nil) (fun _ _ _ _ _ => (i_ix (x_ix (on_blk o).K) (i_var (pv 11)) i_int (fun _ _ => rfl))))
    (is_cons (is_par2 o.calm sc__law_asking.nd rfl rfl (by decide) rfl rfl (ia_cons (i_call G._law_of hr o (by rfl) (ia_cons (i_var (pv 0)) (ia_cons (i_var (pv 2)) ia_nil)) rfl (len_cons (len_cons len_nil))) (ia_cons (i_call G._law_take hr o (by rfl) (ia_cons (i_var (pv 0)) (ia_cons i_int ia_nil)) rfl (len_cons (len_cons len_nil))) ia_nil)) rfl)
    (is_cons (is_asg (vs := []) (i_op (o_addL o.K) (i_dget o (i_var (pv 1)) i_str (fun _ _ => rfl)) i_int) (ig_dk (E := E0) o (i_var (pv 1)) i_str))
    (is_cons (is_set (i := 9) sc__law_asking.nd rfl (Or.inl rfl) (i_ix (x_ix o.K) i_str (i_dget o (i_var (pv 1)) i_str (fun _ _ => rfl)) (fun _ _ => rfl)))
    (is_cons (is_if (it_cmp (o_eqS o) (i_var (pv 8)) i_int (nomark _))
    (is_one (is_ret (i_tup (ia_cons (i_lst (ia_cons (i_op (o_addL o.K) (i_op (o_addL o.K) i_str (i_var (pv 7))) i_str) (ia_cons (i_op (o_addL o.K) (i_op (o_addL o.K) i_str (i_var (pv 9))) i_str) ia_nil))) (ia_cons (i_lst (ia_cons (i_var (pv 7)) ia_nil)) (ia_cons (i_lst ia_nil) ia_nil))))))
    is_nil)
    (is_cons (is_if (it_cmp (o_eqS o) (i_var (pv 8)) i_int (nomark _))
    (is_cons (is_set (i := 10) sc__law_asking.nd rfl (Or.inl rfl) (i_call G._law_of hr o (by rfl) (ia_cons (i_var (pv 0)) (ia_cons (i_op (o_addL o.K) (i_var (pv 6)) (i_lst (ia_cons i_str ia_nil))) ia_nil)) rfl (len_cons (len_cons len_nil))))
    (is_one (is_ret (i_tup (ia_cons (i_lst (ia_cons (i_op (o_addL o.K) (i_op (o_addL o.K) (i_op (o_addL o.K) (i_op (o_addL o.K) (i_op (o_addL o.K) i_str (i_var (pv 9))) i_str) (i_var (pv 10))) i_str) (i_var (pv 7))) ia_nil)) (ia_cons (i_lst (ia_cons (i_var (pv 7)) ia_nil)) (ia_cons (i_lst (ia_cons (i_var (pv 10)) ia_nil)) ia_nil)))))))
    is_nil)
    (is_cons (is_if (it_cmp (o_eqS o) (i_var (pv 8)) i_int (nomark _))
    (is_one (is_ret (i_tup (ia_cons (i_lst (ia_cons (i_op (o_addL o.K) (i_op (o_addL o.K) (i_op (o_addL o.K) i_str (i_var (pv 9))) i_str) (i_var (pv 7))) ia_nil)) (ia_cons (i_lst (ia_cons (i_var (pv 7)) ia_nil)) (ia_cons (i_lst ia_nil) ia_nil))))))
    is_nil)
    (is_one (is_ret (i_tup (ia_cons (i_lst (ia_cons (i_op (o_addL o.K) (i_op (o_addL o.K) (i_op (o_addL o.K) i_str (i_var (pv 9))) i_str) (i_var (pv 7))) ia_nil)) (ia_cons (i_lst (ia_cons (i_var (pv 7)) ia_nil)) (ia_cons (i_lst ia_nil) ia_nil)))))))))))))))
theorem p__law_right {f : Addr} {cdv : Value} {A : Around} {outer : List Env} {s : Shared} {H : Hp} (T : Facts mg) (G : Cs P w K mg base Y k C) (hr : Room k (cxG P w K mg base ["_law_pot_here", "_law_m", "_law_page", "_law_name", "_law_outer", "_law_fields", "_law_home", "_law_head", "_law_due", "_law_turn", "_law_said", "_law_refs_here", "_law_kinds_here", "_law_fine", "_law_is_open", "_law_told", "_law_field", "_law_ref", "_law_kind", "_law_line", "_law_one"] "_law_right" s__law_right f cdv A outer s H).A) (o : On (cxG P w K mg base ["_law_pot_here", "_law_m", "_law_page", "_law_name", "_law_outer", "_law_fields", "_law_home", "_law_head", "_law_due", "_law_turn", "_law_said", "_law_refs_here", "_law_kinds_here", "_law_fine", "_law_is_open", "_law_told", "_law_field", "_law_ref", "_law_kind", "_law_line", "_law_one"] "_law_right" s__law_right f cdv A outer s H) Y) :
    PSs (cxG P w K mg base ["_law_pot_here", "_law_m", "_law_page", "_law_name", "_law_outer", "_law_fields", "_law_home", "_law_head", "_law_due", "_law_turn", "_law_said", "_law_refs_here", "_law_kinds_here", "_law_fine", "_law_is_open", "_law_told", "_law_field", "_law_ref", "_law_kind", "_law_line", "_law_one"] "_law_right" s__law_right f cdv A outer s H) (defBody s__law_right) (iS Y E0 (b__law_right C)) := by
  exact (is_cons (is_set (i := 1) sc__law_right.nd rfl (Or.inr rfl) (i_disp (.cons (i_call G._law_kinds hr o (by rfl) (ia_cons (i_var (pv 0)) ia_nil) rfl (len_cons len_nil)) (.cons (i_neg i_int) Prs.nil))))
    (is_cons (is_set (i := 2) sc__law_right.nd rfl (Or.inl rfl) (i_lstC ia_nil))
    (is_cons (is_for (vs := [3, 4, 5]) PassesOwn.never o (ii_val o.K (i_dget o (i_var (pv 1)) i_str (fun _ _ => rfl))) (ig_tup o.K o.calm (igs_cons (ig_name (pg_name (i := 3) sc__law_right.nd rfl (Or.inl rfl)) (by decide)) (igs_cons (ig_name (pg_name (i := 4) sc__law_right.nd rfl (Or.inl rfl)) (by decide)) (igs_cons (ig_name (pg_name (i := 5) sc__law_right.nd rfl (Or.inl rfl)) (by decide)) igs_nil))))
    (is_cons (is_expr (i_app (i_var (pv 2)) (i_op (o_addL o.K) (i_op (o_addL o.K) i_str (i_var (pv 3))) (i_ifExp (it_cmp (oo_ne o) (i_var (pv 4)) i_str (nomark _)) (i_op (o_addL o.K) i_str (i_var (pv 4))) i_str))))
    (is_one (is_set (i := 2) sc__law_right.nd rfl (Or.inl rfl) (i_op (o_addC) (i_var (pv 2)) (i_lc (own := [("_law_field", 16)]) o sc__law_right.nd (ii_val o.K (i_var (pv 5))) (blkOk_by (N := ["_law_pot_here", "_law_m", "_law_page", "_law_name", "_law_outer", "_law_fields", "_law_home", "_law_head", "_law_due", "_law_turn", "_law_said", "_law_refs_here", "_law_kinds_here", "_law_fine", "_law_is_open", "_law_told", "_law_field", "_law_ref", "_law_kind", "_law_line", "_law_one"]) (sc := defScope s__law_right) (by decide +kernel)) (fun _ _ _ _ _ => (ig_name (pg_name (i := 16) sc__law_right.nd rfl (Or.inl rfl)) (by decide))) (fun _ _ _ _ _ => its_nil) (fun _ _ _ _ _ => (i_op (o_addL (on_blk o).K) i_str (i_var (pv 16))))))))))
    (is_cons (is_set (i := 6) sc__law_right.nd rfl (Or.inr rfl) (i_call G._law_of hr o (by rfl) (ia_cons (i_var (pv 0)) (ia_cons (i_op (o_addL o.K) (i_op (o_mulS) (i_lc (own := [("_law_one", 20)]) o sc__law_right.nd (ii_val o.K (i_dget o (i_var (pv 1)) i_str (fun _ _ => rfl))) (blkOk_by (N := ["_law_pot_here", "_law_m", "_law_page", "_law_name", "_law_outer", "_law_fields", "_law_home", "_law_head", "_law_due", "_law_turn", "_law_said", "_law_refs_here", "_law_kinds_here", "_law_fine", "_law_is_open", "_law_told", "_law_field", "_law_ref", "_law_kind", "_law_line", "_law_one"]) (sc := defScope s__law_right) (by decide +kernel)) (fun _ _ _ _ _ => (ig_name (pg_name (i := 20) sc__law_right.nd rfl (Or.inl rfl)) (by decide))) (fun _ _ _ _ _ => its_nil) (fun _ _ _ _ _ => (i_ix (x_ix (on_blk o).K) (i_var (pv 20)) i_int (fun _ _ => rfl)))) i_int) (i_lst (ia_cons i_str ia_nil))) ia_nil)) rfl (len_cons (len_cons len_nil))))
    (is_cons (is_set (i := 7) sc__law_right.nd rfl (Or.inl rfl) (i_ifExp (it_cmp (oo_ne o) (i_var (pv 6)) i_str (nomark _)) (i_call G._law_of hr o (by rfl) (ia_cons (i_var (pv 0)) (ia_cons (i_lst (ia_cons (i_op (o_addL o.K) i_str (i_var (pv 6))) (ia_cons (i_op (o_addL o.K) i_str (i_var (pv 6))) ia_nil))) ia_nil)) rfl (len_cons (len_cons len_nil))) (i_call G._law_of hr o (by rfl) (ia_cons (i_var (pv 0)) (ia_cons (i_lst (ia_cons i_str (ia_cons i_str ia_nil))) ia_nil)) rfl (len_cons (len_cons len_nil)))))
    (is_cons (is_par2 o.calm sc__law_right.nd rfl rfl (by decide) rfl rfl (ia_cons (i_op (o_addL o.K) (i_var (pv 2)) (i_lst (ia_cons i_str (ia_cons (i_op (o_addL o.K) i_str (i_var (pv 7))) ia_nil)))) (ia_cons i_non ia_nil)) rfl)
    (is_cons (is_for (vs := [9]) PassesOwn.never o (ii_range1 (by rfl) T.range (ia_cons (i_op (o_addL o.K) i_int (i_call G._law_take hr o (by rfl) (ia_cons (i_var (pv 0)) (ia_cons i_int ia_nil)) rfl (len_cons (len_cons len_nil)))) ia_nil)) (ig_name (pg_name (i := 9) sc__law_right.nd rfl (Or.inl rfl)) (by decide))
    (is_cons (is_asg (vs := [10, 11, 12]) (i_call G._law_asking hr o (by rfl) (ia_cons (i_var (pv 0)) (ia_cons (i_var (pv 1)) ia_nil)) rfl (len_cons (len_cons len_nil))) (ig_tup o.K o.calm (igs_cons (ig_name (pg_name (i := 10) sc__law_right.nd rfl (Or.inl rfl)) (by decide)) (igs_cons (ig_name (pg_name (i := 11) sc__law_right.nd rfl (Or.inl rfl)) (by decide)) (igs_cons (ig_name (pg_name (i := 12) sc__law_right.nd rfl (Or.inl rfl)) (by decide)) igs_nil)))))
    (is_cons (is_set (i := 13) sc__law_right.nd rfl (Or.inl rfl) (i_callB (c_all o) (by rfl) T.all (by decide +kernel) (ia_cons (i_lc (own := [("_law_ref", 17)]) o sc__law_right.nd (ii_val o.K (i_var (pv 11))) (blkOk_by (N := ["_law_pot_here", "_law_m", "_law_page", "_law_name", "_law_outer", "_law_fields", "_law_home", "_law_head", "_law_due", "_law_turn", "_law_said", "_law_refs_here", "_law_kinds_here", "_law_fine", "_law_is_open", "_law_told", "_law_field", "_law_ref", "_law_kind", "_law_line", "_law_one"]) (sc := defScope s__law_right) (by decide +kernel)) (fun _ _ _ _ _ => (ig_name (pg_name (i := 17) sc__law_right.nd rfl (Or.inl rfl)) (by decide))) (fun _ _ _ _ _ => its_nil) (fun _ _ _ _ _ => (i_cmp (oo_in (on_blk o)) (i_var (pv 17)) (i_call G._law_refs hr (on_blk o) (by rfl) (ia_cons (i_var (pv 1)) (ia_cons (i_var (pv 6)) ia_nil)) rfl (len_cons (len_cons len_nil))) rfl))) ia_nil)))
    (is_cons (is_set (i := 14) sc__law_right.nd rfl (Or.inl rfl) (i_callB (c_all o) (by rfl) T.all (by decide +kernel) (ia_cons (i_lc (own := [("_law_kind", 18)]) o sc__law_right.nd (ii_val o.K (i_var (pv 12))) (blkOk_by (N := ["_law_pot_here", "_law_m", "_law_page", "_law_name", "_law_outer", "_law_fields", "_law_home", "_law_head", "_law_due", "_law_turn", "_law_said", "_law_refs_here", "_law_kinds_here", "_law_fine", "_law_is_open", "_law_told", "_law_field", "_law_ref", "_law_kind", "_law_line", "_law_one"]) (sc := defScope s__law_right) (by decide +kernel)) (fun _ _ _ _ _ => (ig_name (pg_name (i := 18) sc__law_right.nd rfl (Or.inl rfl)) (by decide))) (fun _ _ _ _ _ => its_nil) (fun _ _ _ _ _ => (i_cmp (oo_in (on_blk o)) (i_var (pv 18)) (i_call G._law_open hr (on_blk o) (by rfl) (ia_cons (i_var (pv 1)) (ia_cons (i_var (pv 6)) ia_nil)) rfl (len_cons (len_cons len_nil))) rfl))) ia_nil)))
    (is_cons (is_if (PW.pt (iw_and (it_cmp (o_isN) (i_var (pv 8)) i_non (nomark _)) (iw_and1 (it_not (PW.pt (iw_and (it_val (i_var (pv 13))) (iw_and1 (it_val (i_var (pv 14))))))))))
    (is_one (is_set (i := 8) sc__law_right.nd rfl (Or.inl rfl) (i_op (o_addL o.K) (i_callB (c_len o) (by rfl) T.len (by decide +kernel) (ia_cons (i_var (pv 2)) ia_nil)) i_int)))
    is_nil)
    (is_one (is_set (i := 2) sc__law_right.nd rfl (Or.inl rfl) (i_op (o_addL o.K) (i_var (pv 2)) (i_lc (own := [("_law_line", 19)]) o sc__law_right.nd (ii_val o.K (i_var (pv 10))) (blkOk_by (N := ["_law_pot_here", "_law_m", "_law_page", "_law_name", "_law_outer", "_law_fields", "_law_home", "_law_head", "_law_due", "_law_turn", "_law_said", "_law_refs_here", "_law_kinds_here", "_law_fine", "_law_is_open", "_law_told", "_law_field", "_law_ref", "_law_kind", "_law_line", "_law_one"]) (sc := defScope s__law_right) (by decide +kernel)) (fun _ _ _ _ _ => (ig_name (pg_name (i := 19) sc__law_right.nd rfl (Or.inl rfl)) (by decide))) (fun _ _ _ _ _ => its_nil) (fun _ _ _ _ _ => (i_op (o_addL (on_blk o).K) i_str (i_var (pv 19)))))))))))))
    (is_cons (is_set (i := 15) sc__law_right.nd rfl (Or.inl rfl) (i_call G._law_caught hr o (by rfl) (ia_cons (i_join o.K i_str (i_var (pv 2))) ia_nil) rfl (len_cons len_nil)))
    (is_one (is_ret (i_and (i_cmp (o_eqS o) (i_var (pv 15)) (i_ifExp (it_cmp (o_notN) (i_var (pv 8)) i_non (nomark _)) (i_var (pv 8)) i_str) (nomark _)) (i_one (i_not (i_callB (c_isi o) (by rfl) T.isinstance (by decide +kernel) (ia_cons (i_var (pv 15)) (ia_cons (i_ty "bool" (by rfl) T.bool (by decide +kernel)) ia_nil))))))))))))))))
theorem p_law {f : Addr} {cdv : Value} {A : Around} {outer : List Env} {s : Shared} {H : Hp} (T : Facts mg) (G : Cs P w K mg base Y k C) (hr : Room k (cxG P w K mg base ["_law_script", "_law_k", "_law_pot_here", "_law_turn"] "law" s_law f cdv A outer s H).A) (o : On (cxG P w K mg base ["_law_script", "_law_k", "_law_pot_here", "_law_turn"] "law" s_law f cdv A outer s H) Y) :
    PSs (cxG P w K mg base ["_law_script", "_law_k", "_law_pot_here", "_law_turn"] "law" s_law f cdv A outer s H) (defBody s_law) (iS Y E0 (b_law C)) := by
  exact (is_cons (is_for (vs := [1]) PassesOwn.never o (ii_range1 (by rfl) T.range (ia_cons (i_callB (c_max2 o) (by rfl) T.max (by decide +kernel) (ia_cons i_int (ia_cons (i_callB (c_min2 o) (by rfl) T.min (by decide +kernel) (ia_cons i_int (ia_cons (i_callB (c_len o) (by rfl) T.len (by decide +kernel) (ia_cons (i_var (pv 0)) ia_nil)) ia_nil))) ia_nil))) ia_nil)) (ig_name (pg_name (i := 1) sc_law.nd rfl (Or.inl rfl)) (by decide))
    (is_cons (is_set (i := 2) sc_law.nd rfl (Or.inr rfl) (i_call G._law_pot hr o (by rfl) (ia_cons (i_var (pv 0)) (ia_cons (i_var (pv 1)) ia_nil)) rfl (len_cons (len_cons len_nil))))
    (is_one (is_if (it_not (it_val (i_callB (c_all o) (by rfl) T.all (by decide +kernel) (ia_cons (i_lc (own := [("_law_turn", 3)]) o sc_law.nd (ii_range1 (by rfl) T.range (ia_cons i_int ia_nil)) (blkOk_by (N := ["_law_script", "_law_k", "_law_pot_here", "_law_turn"]) (sc := defScope s_law) (by decide +kernel)) (fun _ _ _ _ _ => (ig_name (pg_name (i := 3) sc_law.nd rfl (Or.inl rfl)) (by decide))) (fun _ _ _ _ _ => its_nil) (fun _ _ _ _ _ => (i_call G._law_right hr (on_blk o) (by rfl) (ia_cons (i_var (pv 2)) ia_nil) rfl (len_cons len_nil)))) ia_nil))))
    (is_one (is_ret i_bl))
    is_nil))))
    (is_one (is_ret i_bl)))
/-- where each def stands -/
structure Ds (K : PySem.W.Frag) (mg : Str → Option Value) : Prop where
  _law_pot : ∃ f fd, mg "_law_pot" = some (.ref f) ∧ Fun K "_law_pot" "_law_pot" s__law_pot f fd
  _law_take : ∃ f fd, mg "_law_take" = some (.ref f) ∧ Fun K "_law_take" "_law_take" s__law_take f fd
  _law_of : ∃ f fd, mg "_law_of" = some (.ref f) ∧ Fun K "_law_of" "_law_of" s__law_of f fd
  _law_names : ∃ f fd, mg "_law_names" = some (.ref f) ∧ Fun K "_law_names" "_law_names" s__law_names f fd
  _law_kinds : ∃ f fd, mg "_law_kinds" = some (.ref f) ∧ Fun K "_law_kinds" "_law_kinds" s__law_kinds f fd
  _law_open : ∃ f fd, mg "_law_open" = some (.ref f) ∧ Fun K "_law_open" "_law_open" s__law_open f fd
  _law_refs : ∃ f fd, mg "_law_refs" = some (.ref f) ∧ Fun K "_law_refs" "_law_refs" s__law_refs f fd
  _law_asking : ∃ f fd, mg "_law_asking" = some (.ref f) ∧ Fun K "_law_asking" "_law_asking" s__law_asking f fd
  _law_right : ∃ f fd, mg "_law_right" = some (.ref f) ∧ Fun K "_law_right" "_law_right" s__law_right f fd
  law : ∃ f fd, mg "law" = some (.ref f) ∧ Fun K "law" "law" s_law f fd
theorem vac {f : Addr} {fd : FuncData} {ps : List Str} {n : Nat} (h : ps.length = n) : FnG P w K mg base 0 f fd ps (spM Y n fun _ _ => .stuck) := ⟨fun vs H Q E z => by rw [spM_len z, h], fun A outer s H args us vs Q _ _ _ _ _ ⟨F, as, S, ds, st, r, e, q⟩ => q.elim⟩
theorem bd__law_pot {f : Addr} {fd : FuncData} (F : Fun K "_law_pot" "_law_pot" s__law_pot f fd) : Binds K fd ["_law_script", "_law_k"] [] := F.binds fun _ _ _ _ _ _ us hl => match us, hl with | [_, _], _ => rfl
theorem bd__law_take {f : Addr} {fd : FuncData} (F : Fun K "_law_take" "_law_take" s__law_take f fd) : Binds K fd ["_law_pot_here", "_law_upto"] [] := F.binds fun _ _ _ _ _ _ us hl => match us, hl with | [_, _], _ => rfl
theorem bd__law_of {f : Addr} {fd : FuncData} (F : Fun K "_law_of" "_law_of" s__law_of f fd) : Binds K fd ["_law_pot_here", "_law_some"] [] := F.binds fun _ _ _ _ _ _ us hl => match us, hl with | [_, _], _ => rfl
theorem bd__law_names {f : Addr} {fd : FuncData} (F : Fun K "_law_names" "_law_names" s__law_names f fd) : Binds K fd ["_law_pot_here", "_law_many"] [] := F.binds fun _ _ _ _ _ _ us hl => match us, hl with | [_, _], _ => rfl
theorem bd__law_kinds {f : Addr} {fd : FuncData} (F : Fun K "_law_kinds" "_law_kinds" s__law_kinds f fd) : Binds K fd ["_law_pot_here"] [] := F.binds fun _ _ _ _ _ _ us hl => match us, hl with | [_], _ => rfl
theorem bd__law_open {f : Addr} {fd : FuncData} (F : Fun K "_law_open" "_law_open" s__law_open f fd) : Binds K fd ["_law_m", "_law_home"] [] := F.binds fun _ _ _ _ _ _ us hl => match us, hl with | [_, _], _ => rfl
theorem bd__law_refs {f : Addr} {fd : FuncData} (F : Fun K "_law_refs" "_law_refs" s__law_refs f fd) : Binds K fd ["_law_m", "_law_home"] [] := F.binds fun _ _ _ _ _ _ us hl => match us, hl with | [_, _], _ => rfl
theorem bd__law_asking {f : Addr} {fd : FuncData} (F : Fun K "_law_asking" "_law_asking" s__law_asking f fd) : Binds K fd ["_law_pot_here", "_law_m"] [] := F.binds fun _ _ _ _ _ _ us hl => match us, hl with | [_, _], _ => rfl
theorem bd__law_right {f : Addr} {fd : FuncData} (F : Fun K "_law_right" "_law_right" s__law_right f fd) : Binds K fd ["_law_pot_here"] [] := F.binds fun _ _ _ _ _ _ us hl => match us, hl with | [_], _ => rfl
theorem bd_law {f : Addr} {fd : FuncData} (F : Fun K "law" "law" s_law f fd) : Binds K fd ["_law_script"] [] := F.binds fun _ _ _ _ _ _ us hl => match us, hl with | [_], _ => rfl
theorem all_ok (hK : K = Y.K) (hw : w = Y.w) (sm : SysD base) (T : Facts mg) (D : Ds K mg) (X__law_caught : ∀ k, DefG P w K mg base Y k "_law_caught" 1 (extM 19 caughtM k)) : ∀ k, Cs P w K mg base Y k (runF k)
  | 0 => {
    _law_pot := let ⟨f, fd, h1, h2⟩ := D._law_pot; ⟨f, fd, _, h1, h2.kp, vac rfl, bd__law_pot h2⟩
    _law_take := let ⟨f, fd, h1, h2⟩ := D._law_take; ⟨f, fd, _, h1, h2.kp, vac rfl, bd__law_take h2⟩
    _law_of := let ⟨f, fd, h1, h2⟩ := D._law_of; ⟨f, fd, _, h1, h2.kp, vac rfl, bd__law_of h2⟩
    _law_names := let ⟨f, fd, h1, h2⟩ := D._law_names; ⟨f, fd, _, h1, h2.kp, vac rfl, bd__law_names h2⟩
    _law_kinds := let ⟨f, fd, h1, h2⟩ := D._law_kinds; ⟨f, fd, _, h1, h2.kp, vac rfl, bd__law_kinds h2⟩
    _law_open := let ⟨f, fd, h1, h2⟩ := D._law_open; ⟨f, fd, _, h1, h2.kp, vac rfl, bd__law_open h2⟩
    _law_refs := let ⟨f, fd, h1, h2⟩ := D._law_refs; ⟨f, fd, _, h1, h2.kp, vac rfl, bd__law_refs h2⟩
    _law_asking := let ⟨f, fd, h1, h2⟩ := D._law_asking; ⟨f, fd, _, h1, h2.kp, vac rfl, bd__law_asking h2⟩
    _law_right := let ⟨f, fd, h1, h2⟩ := D._law_right; ⟨f, fd, _, h1, h2.kp, vac rfl, bd__law_right h2⟩
    law := let ⟨f, fd, h1, h2⟩ := D.law; ⟨f, fd, _, h1, h2.kp, vac rfl, bd_law h2⟩
    _law_caught := DefG.stuck (X__law_caught 0)
  }
  | k + 1 => have G := all_ok hK hw sm T D X__law_caught k; {
    _law_caught := X__law_caught (k + 1)
    _law_pot := let ⟨f, fd, h1, h2⟩ := D._law_pot; ⟨f, fd, _, h1, h2.kp, fnG_of h2 sc__law_pot rfl hK hw sm fun cdv A outer s H hr o => p__law_pot T G hr o, bd__law_pot h2⟩
    _law_take := let ⟨f, fd, h1, h2⟩ := D._law_take; ⟨f, fd, _, h1, h2.kp, fnG_of h2 sc__law_take rfl hK hw sm fun cdv A outer s H hr o => p__law_take T G hr o, bd__law_take h2⟩
    _law_of := let ⟨f, fd, h1, h2⟩ := D._law_of; ⟨f, fd, _, h1, h2.kp, fnG_of h2 sc__law_of rfl hK hw sm fun cdv A outer s H hr o => p__law_of T G hr o, bd__law_of h2⟩
    _law_names := let ⟨f, fd, h1, h2⟩ := D._law_names; ⟨f, fd, _, h1, h2.kp, fnG_of h2 sc__law_names rfl hK hw sm fun cdv A outer s H hr o => p__law_names T G hr o, bd__law_names h2⟩
    _law_kinds := let ⟨f, fd, h1, h2⟩ := D._law_kinds; ⟨f, fd, _, h1, h2.kp, fnG_of h2 sc__law_kinds rfl hK hw sm fun cdv A outer s H hr o => p__law_kinds T G hr o, bd__law_kinds h2⟩
    _law_open := let ⟨f, fd, h1, h2⟩ := D._law_open; ⟨f, fd, _, h1, h2.kp, fnG_of h2 sc__law_open rfl hK hw sm fun cdv A outer s H hr o => p__law_open T G hr o, bd__law_open h2⟩
    _law_refs := let ⟨f, fd, h1, h2⟩ := D._law_refs; ⟨f, fd, _, h1, h2.kp, fnG_of h2 sc__law_refs rfl hK hw sm fun cdv A outer s H hr o => p__law_refs T G hr o, bd__law_refs h2⟩
    _law_asking := let ⟨f, fd, h1, h2⟩ := D._law_asking; ⟨f, fd, _, h1, h2.kp, fnG_of h2 sc__law_asking rfl hK hw sm fun cdv A outer s H hr o => p__law_asking T G hr o, bd__law_asking h2⟩
    _law_right := let ⟨f, fd, h1, h2⟩ := D._law_right; ⟨f, fd, _, h1, h2.kp, fnG_of h2 sc__law_right rfl hK hw sm fun cdv A outer s H hr o => p__law_right T G hr o, bd__law_right h2⟩
    law := let ⟨f, fd, h1, h2⟩ := D.law; ⟨f, fd, _, h1, h2.kp, fnG_of h2 sc_law rfl hK hw sm fun cdv A outer s H hr o => p_law T G hr o, bd_law h2⟩
  }
end
end K04

set_option Elab.async false
set_option linter.all false
set_option maxRecDepth 100000
set_option maxHeartbeats 4000000
set_option exponentiation.threshold 2000
namespace K04
open PySem L2 Rf
/-! ### draws -/
structure Pot (S : Sto) (p : Nat) (a b c : Int) : Prop where
  at_ : S[p]? = some (.lst [.int a, .int b, .int c])
  a0 : 0 ≤ a
  a1 : a.natAbs < 2 ^ 1000
  b0 : 0 ≤ b
  b1 : b < 2305843009213693952
  c0 : 0 ≤ c
theorem Pot.lt {S : Sto} {p : Nat} {a b c : Int} (h : Pot S p a b c) : p < S.length := (List.getElem?_eq_some_iff.mp h.at_).1
theorem Pot.set {S : Sto} {p : Nat} {a b c a' b' c' : Int} (h : Pot S p a b c) (a0 : 0 ≤ a') (a1 : a'.natAbs < 2 ^ 1000) (b0 : 0 ≤ b') (b1 : b' < 2305843009213693952) (c0 : 0 ≤ c') : Pot (S.set p (.lst [.int a', .int b', .int c'])) p a' b' c' :=
  ⟨by rw [List.getElem?_set_self h.lt], a0, a1, b0, b1, c0⟩
theorem at0 {a b c : D} : atI [a, b, c] 0 = some a := rfl
theorem at1 {a b c : D} : atI [a, b, c] 1 = some b := rfl
theorem at2 {a b c : D} : atI [a, b, c] 2 = some c := rfl
theorem okI_of {x : Int} {n : Nat} (h : x.natAbs < 2 ^ n) (h0 : 0 < n) (h1 : n ≤ 400000) : okI x = true := decide_eq_true (Nat.lt_of_lt_of_le (PySem.Flt.log2_lt_of h0 h) h1)
theorem five (k : Int) : ∃ z : Int, atI [D.int 2147483647, .int 2147483629, .int 2147483587, .int 2147483579, .int 2147483563] (k % 5) = some (.int z) ∧ 0 < z ∧ z < 2147483648 := by
  have h0 : 0 ≤ k % 5 := Int.emod_nonneg _ (by decide)
  have h1 : k % 5 < 5 := Int.emod_lt_of_pos _ (by decide)
  have h : k % 5 = 0 ∨ k % 5 = 1 ∨ k % 5 = 2 ∨ k % 5 = 3 ∨ k % 5 = 4 := by omega
  rcases h with e | e | e | e | e <;> rw [e]
  · exact ⟨_, rfl, by decide, by decide⟩
  · exact ⟨_, rfl, by decide, by decide⟩
  · exact ⟨_, rfl, by decide, by decide⟩
  · exact ⟨_, rfl, by decide, by decide⟩
  · exact ⟨_, rfl, by decide, by decide⟩
theorem log_n {n : Int} (n1 : n < 1000000) (n0 : 0 < n) : n.natAbs.log2 < 9000 := Nat.lt_of_lt_of_le (PySem.Flt.log2_lt_of (k := 20) (by decide) (show n.natAbs < 2 ^ 20 by omega)) (by decide)
theorem take1 {k p : Nat} {S : Sto} {a b c n : Int} (h : Pot S p a b c) (n0 : 0 < n) (n1 : n < 1000000) (ha : 0 < a) : runF (k + 1) 1 [.loc p, .int n] S = .ok (.int (a % n)) (S.set p (.lst [.int (a / n), .int b, .int c])) := by
  have hp := h.at_
  show runB 5 (b__law_take (runF k)) _ _ = _
  have h9 := log_n n1 n0
  have i0 : ixN 3 0 = some 0 := rfl
  simp only [b__law_take, runB, sNil, sSeq, sPass, sRet, sRetN, sExpr, sIf, sAsg, sPar, sFor, outI, forL, stepL, turnL, gV, gIx, gTp, gsCons, gsNil, mV, mC, mOp, mU, mA, mCons, mNil, mTup, mLst, mLstC, mDict0, mSl, mPart, mNoP, mB, mAnd, mOr, mNot, mAndV, mOrV, mNotV, mIf, mChain, mVal, mRange1, mRange2, mLc, mYes, bndI, wipeR, lcL, optR, Res.thn, Res.bnd, Res.out, Rf.cellOf, Rf.intOf, Rf.lstOf, seqOf, srcOf, free, dIx, dSl, dBack, dNeg, dUpper, dAdd, dSub, dMul, dMod, dDiv, dPow, cmpI, dLt, dLe, dGt, dGe, dEq, dNe, dIn, dNotIn, dIsN, dNotN, ofB, bIsi, bLen, lenOf, bInt, bAbs, bMax2, bMin2, bList, bTuple, bAllAny, bRepr, bSet, bSorted, tyOf, List.map_cons, List.map_nil, List.replicate, List.cons_append, List.nil_append, List.getElem?_cons_zero, List.getElem?_cons_succ, List.set_cons_zero, List.set_cons_succ, List.length_cons, List.length_nil, hp, at0, at1, at2, ha, decide_eq_true, n0, h9, i0, ↓reduceIte, and_self]
theorem take2 {k p : Nat} {S : Sto} {a b c n : Int} (h : Pot S p a b c) (n0 : 0 < n) (n1 : n < 1000000) (c1 : c < 1000000) (ha : ¬ 0 < a) : ∃ d, runF (k + 1) 1 [.loc p, .int n] S = .ok (.int d) (S.set p (.lst [.int a, .int b, .int (c + 1)])) ∧ 0 ≤ d ∧ d < n := by
  obtain ⟨hp, a0, a1, b0, b1, c0⟩ := id h
  obtain ⟨z5, h5, z0, z1⟩ := five (c + 1)
  have hp2 : (S.set p (.lst [.int a, .int b, .int (c + 1)]))[p]? = some (.lst [.int a, .int b, .int (c + 1)]) := List.getElem?_set_self h.lt
  have hF : decide (0 < a) = false := decide_eq_false ha
  have i2 : ixN 3 2 = some 2 := rfl
  have f5 : (0 : Int) < 5 := by decide
  have q0 : 0 ≤ (c + 1) * (c + 1) := Int.mul_nonneg (by omega) (by omega)
  have q1 : (c + 1) * (c + 1) ≤ 1000000 * 1000000 := Int.mul_le_mul (by omega) (by omega) (by omega) (by omega)
  have q2 : 99041 * (c + 1) * (c + 1) = 99041 * ((c + 1) * (c + 1)) := Int.mul_assoc _ _ _
  have k1 : okI 99041 = true := okI_of (n := 64) (by decide) (by decide) (by decide)
  have k2 : okI (c + 1) = true := okI_of (n := 64) (by omega) (by decide) (by decide)
  have k3 : okI (99041 * (c + 1)) = true := okI_of (n := 64) (by omega) (by decide) (by decide)
  have pw : (0 : Int) ≤ 3 ∧ (Builtin.Int.intBits (b + 99041 * (c + 1) * (c + 1) + 37) : Int) * 3 ≤ 2 ^ 27 := by
    refine ⟨by decide, ?_⟩
    have hb : Builtin.Int.intBits (b + 99041 * (c + 1) * (c + 1) + 37) ≤ 63 := by
      have y := PySem.Flt.log2_lt_of (k := 63) (by decide) (show (b + 99041 * (c + 1) * (c + 1) + 37).natAbs < 2 ^ 63 by rw [q2]; omega)
      unfold Builtin.Int.intBits
      split <;> omega
    omega
  have tt : (3 : Int).toNat = 3 := rfl
  generalize hbig : (b + 99041 * (c + 1) * (c + 1) + 37) ^ (3 : Int).toNat = big
  have m0 : 0 ≤ big % z5 := Int.emod_nonneg _ (by omega)
  have m1 : big % z5 < z5 := Int.emod_lt_of_pos _ z0
  have k4 : okI (big % z5) = true := okI_of (n := 64) (by omega) (by decide) (by decide)
  have k5 : okI 83 = true := okI_of (n := 64) (by decide) (by decide) (by decide)
  have r0 : 0 ≤ big % z5 % 10007 := Int.emod_nonneg _ (by decide)
  have r1 : big % z5 % 10007 < 10007 := Int.emod_lt_of_pos _ (by decide)
  have k6 : okI (big % z5 % 10007 + 83 * (c + 1)) = true := okI_of (n := 64) (by omega) (by decide) (by decide)
  have f1 : (0 : Int) < 10007 := by decide
  have f2 : (0 : Int) < 2305843009213693907 := by decide
  have f3 : (0 : Int) < 103 ∧ (103 : Int).natAbs.log2 < 9000 := by decide
  have few5 : few 5 = true := rfl
  refine ⟨big % z5 * (big % z5 % 10007 + 83 * (c + 1)) % 2305843009213693907 / 103 % n, ?_, Int.emod_nonneg _ (by omega), Int.emod_lt_of_pos _ n0⟩
  show runB 5 (b__law_take (runF k)) _ _ = _
  simp only [b__law_take, runB, sNil, sSeq, sPass, sRet, sRetN, sExpr, sIf, sAsg, sPar, sFor, outI, forL, stepL, turnL, gV, gIx, gTp, gsCons, gsNil, mV, mC, mOp, mU, mA, mCons, mNil, mTup, mLst, mLstC, mDict0, mSl, mPart, mNoP, mB, mAnd, mOr, mNot, mAndV, mOrV, mNotV, mIf, mChain, mVal, mRange1, mRange2, mLc, mYes, bndI, wipeR, lcL, optR, Res.thn, Res.bnd, Res.out, Rf.cellOf, Rf.intOf, Rf.lstOf, seqOf, srcOf, free, dIx, dSl, dBack, dNeg, dUpper, dAdd, dSub, dMul, dMod, dDiv, dPow, cmpI, dLt, dLe, dGt, dGe, dEq, dNe, dIn, dNotIn, dIsN, dNotN, ofB, bIsi, bLen, lenOf, bInt, bAbs, bMax2, bMin2, bList, bTuple, bAllAny, bRepr, bSet, bSorted, tyOf, List.map_cons, List.map_nil, List.replicate, List.cons_append, List.nil_append, List.getElem?_cons_zero, List.getElem?_cons_succ, List.set_cons_zero, List.set_cons_succ, List.length_cons, List.length_nil, hp, hp2, at0, at1, at2, hF, n0, i2, h5, z0, k1, k2, k3, k4, k5, k6, pw, f1, f2, f3, f5, hbig, Nat.reduceAdd, few5, Bool.false_eq_true, ↓reduceIte, and_self]
/-- a draw: a digit below n -/
theorem take_ok {k p : Nat} {S : Sto} {a b c n : Int} (h : Pot S p a b c) (n0 : 0 < n) (n1 : n < 1000000) (c1 : c < 1000000) : ∃ d a' c', runF (k + 1) 1 [.loc p, .int n] S = .ok (.int d) (S.set p (.lst [.int a', .int b, .int c'])) ∧ 0 ≤ d ∧ d < n ∧ Pot (S.set p (.lst [.int a', .int b, .int c'])) p a' b c' ∧ c' ≤ c + 1 := by
  obtain ⟨hp, a0, a1, b0, b1, c0⟩ := id h
  by_cases ha : 0 < a
  · have e0 : 0 ≤ a / n := Int.ediv_nonneg a0 (by omega)
    have e1 : a / n ≤ a := Int.ediv_le_self _ a0
    exact ⟨_, _, _, take1 h n0 n1 ha, Int.emod_nonneg _ (by omega), Int.emod_lt_of_pos _ n0, h.set e0 (by omega) b0 b1 c0, by omega⟩
  · obtain ⟨d, e, d0, d1⟩ := take2 (k := k) h n0 n1 c1 ha
    exact ⟨d, _, _, e, d0, d1, h.set a0 a1 b0 b1 (by omega), Int.le_refl _⟩
theorem atI_mem {α : Type} {xs : List α} {d : Int} (h0 : 0 ≤ d) (h1 : d < xs.length) : ∃ v, atI xs d = some v ∧ v ∈ xs := by
  obtain ⟨n, rfl⟩ := Int.eq_ofNat_of_zero_le h0
  have hn : n < xs.length := by omega
  exact ⟨xs[n], atI_nat (by rw [List.getElem?_eq_getElem hn]), List.getElem_mem hn⟩
/-- an item of a list -/
theorem of_ok {k p : Nat} {S : Sto} {a b c : Int} {xs : List D} (h : Pot S p a b c) (x0 : 0 < xs.length) (x1 : xs.length < 1000000) (c1 : c < 1000000) : ∃ v a' c', runF (k + 2) 2 [.loc p, .lst xs] S = .ok v (S.set p (.lst [.int a', .int b, .int c'])) ∧ v ∈ xs ∧ Pot (S.set p (.lst [.int a', .int b, .int c'])) p a' b c' ∧ c' ≤ c + 1 := by
  obtain ⟨d, a', c', e, d0, d1, P, hc⟩ := take_ok (k := k) (n := (xs.length : Int)) h (by omega) (by omega) c1
  obtain ⟨v, hv, hm⟩ := atI_mem (xs := xs) d0 d1
  refine ⟨v, a', c', ?_, hm, P, hc⟩
  show runB 2 (b__law_of (runF (k + 1))) _ _ = _
  simp only [b__law_of, runB, sNil, sSeq, sPass, sRet, sRetN, sExpr, sIf, sAsg, sPar, sFor, outI, forL, stepL, turnL, gV, gIx, gTp, gsCons, gsNil, mV, mC, mOp, mU, mA, mCons, mNil, mTup, mLst, mLstC, mDict0, mSl, mPart, mNoP, mB, mAnd, mOr, mNot, mAndV, mOrV, mNotV, mIf, mChain, mVal, mRange1, mRange2, mLc, mYes, bndI, wipeR, lcL, optR, Res.thn, Res.bnd, Res.out, Rf.cellOf, Rf.intOf, Rf.lstOf, seqOf, srcOf, free, dIx, dSl, dBack, dNeg, dUpper, dAdd, dSub, dMul, dMod, dDiv, dPow, cmpI, dLt, dLe, dGt, dGe, dEq, dNe, dIn, dNotIn, dIsN, dNotN, ofB, bIsi, bLen, lenOf, bInt, bAbs, bMax2, bMin2, bList, bTuple, bAllAny, bRepr, bSet, bSorted, tyOf, List.map_cons, List.map_nil, List.replicate, List.cons_append, List.nil_append, List.getElem?_cons_zero, List.getElem?_cons_succ, List.set_cons_zero, List.set_cons_succ, List.length_cons, List.length_nil, Option.map_some, e, hv]
theorem atI_map {ns : List Int} {j : Int} (h0 : 0 ≤ j) (h1 : j < ns.length) : ∃ x : Int, atI (ns.map D.int) j = some (.int x) := by
  obtain ⟨v, hv, hm⟩ := atI_mem (xs := ns.map D.int) h0 (by rw [List.length_map]; exact h1)
  obtain ⟨x, _, rfl⟩ := List.mem_map.mp hm
  exact ⟨x, hv⟩
theorem own_ok (x : Int) (q : Bool) : 0 ≤ x % ((10 : Int) ^ 60) ^ 5 ∧ (x % ((10 : Int) ^ 60) ^ 5).natAbs < 2 ^ 1000 ∧ 0 ≤ x % ((10 : Int) ^ 60) ^ 5 * (if q = true then 1 else 0) ∧ (x % ((10 : Int) ^ 60) ^ 5 * (if q = true then 1 else 0)).natAbs < 2 ^ 1000 := by
  have o0 : 0 ≤ x % ((10 : Int) ^ 60) ^ 5 := Int.emod_nonneg _ (by decide)
  have o1 : x % ((10 : Int) ^ 60) ^ 5 < ((10 : Int) ^ 60) ^ 5 := Int.emod_lt_of_pos _ (by decide)
  have o2 : (((10 : Int) ^ 60) ^ 5).natAbs < 2 ^ 1000 := by decide
  generalize (((10 : Int) ^ 60) ^ 5) = M at *
  generalize x % M = y at *
  have h : y.natAbs < 2 ^ 1000 := by omega
  cases q
  · simpa using ⟨o0, h⟩
  · simp only [if_true, Int.mul_one]
    exact ⟨o0, h, o0, h⟩
theorem pot_ok {k : Nat} {S : Sto} {ns : List Int} {j : Int} (hl : ns.length ≤ 63) (j0 : 0 ≤ j) (j1 : j < 100) : ∃ a b, runF (k + 1) 0 [.fro (ns.map D.int), .int j] S = .ok (.loc S.length) (S ++ [.lst [.int a, .int b, .int 0]]) ∧ Pot (S ++ [.lst [.int a, .int b, .int 0]]) S.length a b 0 := by
  have pot : ∀ cell : Int, ∃ a b, (Res.ok (D.loc S.length) (S ++ [.lst [.int (((if cell < 0 then -cell else cell) % ((10 : Int) ^ 60) ^ 5) * (if decide ((10 : Int) ^ 18 ≤ (if cell < 0 then -cell else cell)) = true then 1 else 0)), .int ((cell % 2305843009213693951 * 69737 + 7549 * j * j + 59) % 2305843009213693921), .int 0]])) = .ok (.loc S.length) (S ++ [.lst [.int a, .int b, .int 0]]) ∧ Pot (S ++ [.lst [.int a, .int b, .int 0]]) S.length a b 0 := fun cell => by
    refine ⟨_, _, rfl, by simp, (own_ok _ _).2.2.1, (own_ok _ _).2.2.2, Int.emod_nonneg _ (by decide), Int.lt_trans (Int.emod_lt_of_pos _ (by decide)) (by decide), by decide⟩
  have k1 : okI 69737 = true := okI_of (n := 64) (by decide) (by decide) (by decide)
  have k2 : okI 7549 = true := okI_of (n := 64) (by decide) (by decide) (by decide)
  have k3 : okI j = true := okI_of (n := 64) (by omega) (by decide) (by decide)
  have k4 : okI (7549 * j) = true := okI_of (n := 64) (by omega) (by decide) (by decide)
  have k5 : okI 51 = true := okI_of (n := 64) (by decide) (by decide) (by decide)
  have k6 : ∀ x : Int, okI (x % 2305843009213693951) = true := fun x => okI_of (n := 64) (by have := Int.emod_nonneg x (show (2305843009213693951 : Int) ≠ 0 by decide); have := Int.emod_lt_of_pos x (show (0 : Int) < 2305843009213693951 by decide); omega) (by decide) (by decide)
  have k7 : ∀ x : Int, okI (x % ((10 : Int) ^ 60) ^ 5) = true := fun x => okI_of (n := 1000) (own_ok x true).2.1 (by decide) (by decide)
  have k8 : ∀ q : Bool, okI (if q = true then 1 else 0) = true := fun q => by cases q <;> exact okI_of (n := 64) (by decide) (by decide) (by decide)
  have p1 : (0 : Int) ≤ 60 ∧ (Builtin.Int.intBits 10 : Int) * 60 ≤ 2 ^ 27 := by decide
  have p2 : (0 : Int) ≤ 5 ∧ (Builtin.Int.intBits ((10 : Int) ^ 60) : Int) * 5 ≤ 2 ^ 27 := by decide +kernel
  have p3 : (0 : Int) ≤ 18 ∧ (Builtin.Int.intBits 10 : Int) * 18 ≤ 2 ^ 27 := by decide
  have t1 : (60 : Int).toNat = 60 := rfl
  have t2 : (5 : Int).toNat = 5 := rfl
  have t3 : (18 : Int).toNat = 18 := rfl
  have f1 : (0 : Int) < ((10 : Int) ^ 60) ^ 5 := by decide
  have f2 : (0 : Int) < 2305843009213693951 := by decide
  have f3 : (0 : Int) < 2305843009213693921 := by decide
  have few3 : few 3 = true := rfl
  show ∃ a b, runB 5 (b__law_pot (runF k)) _ _ = _ ∧ _
  by_cases hj : j < ns.length
  · obtain ⟨x, hx⟩ := atI_map j0 hj
    obtain ⟨a, b, e, P⟩ := pot x
    refine ⟨a, b, ?_, P⟩
    rw [← e]
    have hd : decide (j < (ns.length : Int)) = true := decide_eq_true hj
    simp only [b__law_pot, runB, sNil, sSeq, sPass, sRet, sRetN, sExpr, sIf, sAsg, sPar, sFor, outI, forL, stepL, turnL, gV, gIx, gTp, gsCons, gsNil, mV, mC, mOp, mU, mA, mCons, mNil, mTup, mLst, mLstC, mDict0, mSl, mPart, mNoP, mB, mAnd, mOr, mNot, mAndV, mOrV, mNotV, mIf, mChain, mVal, mRange1, mRange2, mLc, mYes, bndI, wipeR, lcL, optR, Res.thn, Res.bnd, Res.out, Rf.cellOf, Rf.intOf, Rf.lstOf, seqOf, srcOf, free, dIx, dSl, dBack, dNeg, dUpper, dAdd, dSub, dMul, dMod, dDiv, dPow, cmpI, dLt, dLe, dGt, dGe, dEq, dNe, dIn, dNotIn, dIsN, dNotN, ofB, bIsi, bLen, lenOf, bInt, bAbs, bMax2, bMin2, bList, bTuple, bAllAny, bRepr, bSet, bSorted, tyOf, List.map_cons, List.map_nil, List.replicate, List.cons_append, List.nil_append, List.getElem?_cons_zero, List.getElem?_cons_succ, List.set_cons_zero, List.set_cons_succ, List.length_cons, List.length_nil, List.length_map, Option.map_some, hd, hx, k1, k2, k3, k4, k5, k6, k7, k8, p1, p2, p3, t1, t2, t3, f1, f2, f3, Nat.reduceAdd, few3, ↓reduceIte, and_self]
  · obtain ⟨a, b, e, P⟩ := pot (51 * j + 21)
    refine ⟨a, b, ?_, P⟩
    rw [← e]
    have hd : decide (j < (ns.length : Int)) = false := decide_eq_false hj
    simp only [b__law_pot, runB, sNil, sSeq, sPass, sRet, sRetN, sExpr, sIf, sAsg, sPar, sFor, outI, forL, stepL, turnL, gV, gIx, gTp, gsCons, gsNil, mV, mC, mOp, mU, mA, mCons, mNil, mTup, mLst, mLstC, mDict0, mSl, mPart, mNoP, mB, mAnd, mOr, mNot, mAndV, mOrV, mNotV, mIf, mChain, mVal, mRange1, mRange2, mLc, mYes, bndI, wipeR, lcL, optR, Res.thn, Res.bnd, Res.out, Rf.cellOf, Rf.intOf, Rf.lstOf, seqOf, srcOf, free, dIx, dSl, dBack, dNeg, dUpper, dAdd, dSub, dMul, dMod, dDiv, dPow, cmpI, dLt, dLe, dGt, dGe, dEq, dNe, dIn, dNotIn, dIsN, dNotN, ofB, bIsi, bLen, lenOf, bInt, bAbs, bMax2, bMin2, bList, bTuple, bAllAny, bRepr, bSet, bSorted, tyOf, List.map_cons, List.map_nil, List.replicate, List.cons_append, List.nil_append, List.getElem?_cons_zero, List.getElem?_cons_succ, List.set_cons_zero, List.set_cons_succ, List.length_cons, List.length_nil, List.length_map, Option.map_some, hd, k1, k2, k3, k4, k5, k6, k7, k8, p1, p2, p3, t1, t2, t3, f1, f2, f3, Nat.reduceAdd, few3, Bool.false_eq_true, ↓reduceIte, and_self]
end K04

set_option Elab.async false
set_option linter.all false
set_option maxRecDepth 100000
set_option maxHeartbeats 1000000
/-! L041: lines of words, as the reader parts them. -/
namespace Pk
open PySem L2 Rdr TL PyProof.Rows Builtin Builtin.Str
theorem strip_sp {x : Str} {n : Nat} {c : Nat} {r : List Nat} (hc : c ≠ 32) (h : tl x = List.replicate n 32 ++ (c :: r)) : tl (Txt.lstripChars x " ") = c :: r := by
  unfold Txt.lstripChars
  rw [stripBy_eq]
  have hg : (" " : Str).cps.contains = fun k => decide (k = 32) := by
    funext k
    show (#[32] : Array Nat).contains k = _
    simp
  have hlo : stripLo (" " : Str).cps.contains true x = n := by
    unfold stripLo
    rw [hg]
    show ((tl x).takeWhile _).length = n
    rw [h]
    clear h hg
    induction n with
    | zero => simp [hc]
    | succ n ih => rw [List.replicate_succ, List.cons_append]; simp only [List.takeWhile_cons, decide_true, if_true, List.length_cons, ih]
  rw [hlo]
  show tl (strSub x n x.length) = _
  have e : tl (strSub x n x.length) = ((tl x).drop n).take (x.length - n) := by
    show (x.cps.extract n x.length).toList = _
    rw [Array.toList_extract]
  rw [e, h]
  have hl : x.length = n + (r.length + 1) := by rw [len_tl, h]; simp
  rw [hl, List.drop_left' (by simp)]
  simp
theorem parted_of {x : Str} {n : Nat} {ws : List Str} (hw : ws ≠ []) (h : ∀ w ∈ ws, 32 ∉ tl w) (h0 : ∀ w ∈ ws, w ≠ "") (hx : tl x = List.replicate n 32 ++ joinL [32] (ws.map tl)) : parted x = ((n : Int), ws) := by
  have hj : tl (Txt.join " " ws) = joinL [32] (ws.map tl) := by rw [join_eq, tl_join]; rfl
  obtain ⟨c, r, hc, hcr⟩ : ∃ c r, c ≠ 32 ∧ joinL [32] (ws.map tl) = c :: r := by
    cases ws with
    | nil => exact absurd rfl hw
    | cons w ws =>
      have h1 := h w (List.mem_cons_self ..)
      have h2 := h0 w (List.mem_cons_self ..)
      cases hw' : tl w with
      | nil => exact absurd (ext_tl hw') h2
      | cons c t =>
        have hc : c ≠ 32 := fun e => h1 (by rw [hw', e]; exact List.mem_cons_self ..)
        cases ws with
        | nil => exact ⟨c, t, hc, by rw [List.map_cons, List.map_nil, joinL, hw']⟩
        | cons w2 ws => exact ⟨c, _, hc, by rw [List.map_cons, List.map_cons, joinL, hw']; rfl⟩
  have hs := strip_sp hc (by rw [hx, hcr])
  have es : Txt.lstripChars x " " = Txt.join " " ws := ext_tl (by rw [hs, hj, hcr])
  unfold parted
  rw [es]
  have hsp : Txt.split (Txt.join " " ws) " " = ws := split_join (s := 32) (S := []) (by decide +kernel) (by decide +kernel) hw h
  rw [hsp]
  congr 1
  have l1 : x.length = n + (joinL [32] (ws.map tl)).length := by rw [len_tl, hx]; simp
  have l2 : (Txt.join " " ws).length = (joinL [32] (ws.map tl)).length := by rw [len_tl, hj]
  rw [l1, l2]
  omega
/-! ### words -/
def pool : List Str := ["a", "line", "x", "kind", "is", "pass", "zzzzzzzz", "in", "end", "open", "cell", "if", "else", "head", "b"]
/-- a word as it may stand: letters, few -/
structure W (w : Str) : Prop where
  wd : word w = true
  ok : okw w = true
theorem letter_no {c : Nat} (h : letter c = true) : c ≠ 32 ∧ c ≠ 46 ∧ c ≠ 10 := by
  unfold letter at h
  simp only [Bool.and_eq_true, decide_eq_true_eq] at h
  omega
theorem W.no {w : Str} (h : W w) : 32 ∉ tl w ∧ 46 ∉ tl w ∧ 10 ∉ tl w ∧ w ≠ "" ∧ w.length ≤ 8 := by
  have h1 := h.wd
  unfold word at h1
  simp only [Bool.and_eq_true, decide_eq_true_eq, List.all_eq_true] at h1
  obtain ⟨⟨h1, h2⟩, h3⟩ := h1
  refine ⟨fun z => (letter_no (h3 _ z)).1 rfl, fun z => (letter_no (h3 _ z)).2.1 rfl, fun z => (letter_no (h3 _ z)).2.2 rfl, fun e => ?_, h2⟩
  subst e
  exact absurd h1 (by decide)
theorem pool_w : pool.all (fun w => word w && okw w) = true := by decide +kernel
theorem W.of {w : Str} (h : (word w && okw w) = true) : W w := by
  rw [Bool.and_eq_true] at h
  exact ⟨h.1, h.2⟩
theorem pool_W {w : Str} (h : w ∈ pool) : W w := .of (List.all_eq_true.mp pool_w w h)
/-- a REF -/
def ref (n f : Str) : Str := n ++ "." ++ f
theorem tl_ref (n f : Str) : tl (ref n f) = tl n ++ 46 :: tl f := by
  unfold ref
  rw [tl_append, tl_append]
  show tl n ++ [46] ++ tl f = _
  rw [List.append_assoc]
  rfl
theorem ref_part {n f : Str} (h : W n) : Txt.partition (ref n f) "." = (n, (("." : Str)), f) := partition_app (y := ".") (s := 46) (S := []) (by decide +kernel) h.no.2.1
theorem ref_word {n f : Str} : word (ref n f) = false := by
  unfold word
  rw [show (ref n f).cps.toList = tl (ref n f) from rfl, tl_ref]
  simp [letter]
theorem ref_inj {n f n' f' : Str} (h : W n) (h' : W n') : ref n f = ref n' f' ↔ n = n' ∧ f = f' := by
  constructor
  · intro e
    have e1 := ref_part (f := f) h
    rw [e, ref_part h'] at e1
    injection e1 with e2 e3
    injection e3 with e4 e5
    exact ⟨e2.symm, e5.symm⟩
  · rintro ⟨rfl, rfl⟩; rfl
theorem ref_no {n f : Str} (h : W n) (hf : W f) : 32 ∉ tl (ref n f) ∧ 10 ∉ tl (ref n f) ∧ ref n f ≠ "" ∧ (ref n f).length ≤ 17 := by
  obtain ⟨a1, a2, a3, a4, a5⟩ := h.no
  obtain ⟨b1, b2, b3, b4, b5⟩ := hf.no
  have e := tl_ref n f
  refine ⟨fun z => ?_, fun z => ?_, fun z => ?_, ?_⟩
  · rw [e] at z
    rcases List.mem_append.mp z with y | y
    · exact a1 y
    · rcases List.mem_cons.mp y with y | y
      · cases y
      · exact b1 y
  · rw [e] at z
    rcases List.mem_append.mp z with y | y
    · exact a3 y
    · rcases List.mem_cons.mp y with y | y
      · cases y
      · exact b3 y
  · have := congrArg tl z
    rw [e] at this
    have := congrArg List.length this
    rw [List.length_append, List.length_cons] at this
    have e0 : (tl ("" : Str)).length = 0 := by decide +kernel
    omega
  · rw [len_tl, e]
    rw [len_tl] at a5 b5
    rw [List.length_append, List.length_cons]
    omega
end Pk

set_option Elab.async false
set_option linter.all false
set_option maxRecDepth 100000
set_option maxHeartbeats 1000000
/-! L042: kinds are read. -/
namespace Pk
open PySem L2 Rdr TL
abbrev Kd := Str × Str × List Str
/-- chains and fields as the reader keeps them -/
def addC (C : List (Str × List Str)) (k : Kd) : List (Str × List Str) := C ++ [(k.1, (C.lookup k.2.1).getD [] ++ [k.1])]
def chs (ks : List Kd) : List (Str × List Str) := ks.foldl addC []
def fds (ks : List Kd) : List (Str × List Str) := ks.map fun k => (k.1, ("key" : Str) :: k.2.2)
theorem chs_snoc (ks : List Kd) (k : Kd) : chs (ks ++ [k]) = addC (chs ks) k := by unfold chs; rw [List.foldl_append]; rfl
theorem chs_keys (ks : List Kd) : (chs ks).map (·.1) = ks.map (·.1) := by
  unfold chs
  have key : ∀ (ks : List Kd) (C : List (Str × List Str)), (ks.foldl addC C).map (·.1) = C.map (·.1) ++ ks.map (·.1) := by
    intro ks
    induction ks with
    | nil => intro C; simp
    | cons k ks ih => intro C; rw [List.foldl_cons, ih]; simp [addC]
  simpa using key ks []
theorem lk {α : Type} {p : Str × α} {C : List (Str × α)} {n : Str} : (p :: C).lookup n = if (n == p.1) = true then some p.2 else C.lookup n := by
  obtain ⟨a, b⟩ := p
  simp only [List.lookup]
  cases (n == a) <;> rfl
theorem lookup_none {α : Type} {C : List (Str × α)} {n : Str} (h : n ∉ C.map (·.1)) : C.lookup n = none := by
  induction C with
  | nil => rfl
  | cons p C ih =>
    rw [List.map_cons, List.mem_cons, not_or] at h
    have e : (n == p.1) = false := by simp [h.1]
    rw [lk, e]
    exact ih h.2
theorem lookup_some {α : Type} {C : List (Str × α)} {n : Str} (h : n ∈ C.map (·.1)) : (C.lookup n).isSome = true := by
  induction C with
  | nil => cases h
  | cons p C ih =>
    rw [List.map_cons, List.mem_cons] at h
    rw [lk]
    by_cases e : n = p.1
    · simp [e]
    · rw [if_neg (by simp [e])]
      exact ih (h.resolve_left e)
theorem lookup_app {α : Type} {C D : List (Str × α)} {n : Str} : (C ++ D).lookup n = (C.lookup n).or (D.lookup n) := by
  induction C with
  | nil => rfl
  | cons p C ih =>
    rw [List.cons_append, lk, lk, ih]
    cases (n == p.1) <;> rfl
/-- kinds, one behind the other, as they may stand -/
inductive KOk : List Kd → Prop
  | nil : KOk []
  | snoc {ks : List Kd} {n o : Str} {fs : List Str} : KOk ks → ks.length < 4 → n ∈ pool → n ∉ ks.map (·.1) → (o = "" ∨ o ∈ ks.map (·.1)) → (((chs ks).lookup o).getD []).length < 3 → (∀ f ∈ fs, f ∈ pool) → fs.Nodup → fs.length ≤ 2 → KOk (ks ++ [(n, o, fs)])
def kindLine (n o : Str) : Str := "kind " ++ n ++ (if o = "" then ("" : Str) else " in " ++ o)
def fieldLine (f : Str) : Str := "  field " ++ f
def kRows (k : Kd) : List Str := kindLine k.1 k.2.1 :: k.2.2.map fieldLine
def ksRows (ks : List Kd) : List Str := ks.flatMap kRows
theorem nil_pool : ¬ ("" : Str) ∈ pool := by decide +kernel
theorem kind_pr {n o : Str} (hn : n ∈ pool) (ho : o = "" ∨ o ∈ pool) : parted (kindLine n o) = ((0 : Int), if o = "" then [("kind" : Str), n] else ["kind", n, "in", o]) := by
  have h1 := (pool_W hn).no
  have hk : 32 ∉ tl ("kind" : Str) ∧ ("kind" : Str) ≠ "" ∧ 32 ∉ tl ("in" : Str) ∧ ("in" : Str) ≠ "" := by decide +kernel
  have t1 : tl ("kind " : Str) = tl ("kind" : Str) ++ [32] := by decide +kernel
  have t2 : tl (" in " : Str) = 32 :: (tl ("in" : Str) ++ [32]) := by decide +kernel
  by_cases h : o = ""
  · rw [if_pos h]
    refine parted_of (n := 0) (by simp) (fun w hw => ?_) (fun w hw => ?_) ?_
    · simp only [List.mem_cons, List.not_mem_nil, or_false] at hw
      rcases hw with rfl | rfl
      · exact hk.1
      · exact h1.1
    · simp only [List.mem_cons, List.not_mem_nil, or_false] at hw
      rcases hw with rfl | rfl
      · exact hk.2.1
      · exact h1.2.2.2.1
    · unfold kindLine
      rw [if_pos h, tl_append, tl_append, t1]
      have t0 : tl ("" : Str) = [] := by decide +kernel
      simp [joinL, t0]
  · rw [if_neg h]
    have h2 := (pool_W (ho.resolve_left h)).no
    refine parted_of (n := 0) (by simp) (fun w hw => ?_) (fun w hw => ?_) ?_
    · simp only [List.mem_cons, List.not_mem_nil, or_false] at hw
      rcases hw with rfl | rfl | rfl | rfl
      · exact hk.1
      · exact h1.1
      · exact hk.2.2.1
      · exact h2.1
    · simp only [List.mem_cons, List.not_mem_nil, or_false] at hw
      rcases hw with rfl | rfl | rfl | rfl
      · exact hk.2.1
      · exact h1.2.2.2.1
      · exact hk.2.2.2
      · exact h2.2.2.2.1
    · unfold kindLine
      rw [if_neg h, tl_append, tl_append, tl_append, t1, t2]
      simp [joinL]
theorem field_pr {f : Str} (hf : f ∈ pool) : parted (fieldLine f) = ((2 : Int), [("field" : Str), f]) := by
  have h1 := (pool_W hf).no
  have hk : 32 ∉ tl ("field" : Str) ∧ ("field" : Str) ≠ "" := by decide +kernel
  refine parted_of (n := 2) (by simp) (fun w hw => ?_) (fun w hw => ?_) ?_
  · simp only [List.mem_cons, List.not_mem_nil, or_false] at hw
    rcases hw with rfl | rfl
    · exact hk.1
    · exact h1.1
  · simp only [List.mem_cons, List.not_mem_nil, or_false] at hw
    rcases hw with rfl | rfl
    · exact hk.2
    · exact h1.2.2.2.1
  · unfold fieldLine
    have t1 : tl ("  field " : Str) = [32, 32] ++ (tl ("field" : Str) ++ [32]) := by decide +kernel
    rw [tl_append, t1]
    simp [joinL, List.replicate]
/-! ### suffixes -/
def Sfx (ls : List (Int × List Str)) (pos : Nat) (xs : List (Int × List Str)) : Prop := ls.drop pos = xs ∧ pos ≤ ls.length
theorem Sfx.step {ls : List (Int × List Str)} {pos : Nat} {x : Int × List Str} {xs : List (Int × List Str)} (h : Sfx ls pos (x :: xs)) : ls[pos]? = some x ∧ Sfx ls (pos + 1) xs := by
  obtain ⟨h, hp⟩ := h
  have e : ls[pos]? = some x := by
    have := congrArg (·[0]?) h
    simpa [List.getElem?_drop] using this
  refine ⟨e, ?_, ?_⟩
  · have := congrArg (List.drop 1) h
    simpa [List.drop_drop, Nat.add_comm] using this
  · have := (List.getElem?_eq_some_iff.mp e).1
    omega
theorem Sfx.nil {ls : List (Int × List Str)} {pos : Nat} (h : Sfx ls pos []) : ls[pos]? = none ∧ pos = ls.length := by
  obtain ⟨h, hp⟩ := h
  have := List.drop_eq_nil_iff.mp h
  exact ⟨List.getElem?_eq_none (by omega), by omega⟩
theorem Sfx.len {ls : List (Int × List Str)} {pos : Nat} {xs : List (Int × List Str)} (h : Sfx ls pos xs) : ls.length - pos = xs.length := by rw [← h.1, List.length_drop]
theorem Sfx.skip {ls : List (Int × List Str)} {pos : Nat} {xs ys : List (Int × List Str)} {n : Nat} (h : Sfx ls pos (xs ++ ys)) (hn : xs.length = n) : Sfx ls (pos + n) ys := by
  obtain ⟨h1, h2⟩ := h
  subst hn
  refine ⟨?_, ?_⟩
  · rw [← List.drop_drop, h1]
    simp
  · have := congrArg List.length h1
    simp at this
    omega
theorem wordsAt_cons {S : Rd} {b : Int} {ws : List Str} {d : Int} {xs : List (Int × List Str)} (h : Sfx S.ls S.pos ((b, ws) :: xs)) : S.wordsAt d = if b = 2 * d then ws else [] := by
  unfold Rd.wordsAt
  rw [h.step.1]
theorem wordsAt_nil {S : Rd} {d : Int} (h : Sfx S.ls S.pos []) : S.wordsAt d = [] := by
  unfold Rd.wordsAt
  rw [h.nil.1]
theorem bind_ok {A B : Type} (a : A) (f : A → Res B) : (Res.ok a).bind f = f a := rfl
theorem bind_bind {A B C : Type} (r : Res A) (f : A → Res B) (g : B → Res C) : (r.bind f).bind g = r.bind fun a => (f a).bind g := by
  cases r <;> rfl
/-- the state behind kinds -/
def st (ls : List (Int × List Str)) (pos : Nat) (ks : List Kd) : Rd := { ls := ls, pos := pos, kinds := ks, chains := chs ks, fields := fds ks, labels := [], parts := 0, cells := [], worths := [], near := [] }
theorem fields_read {ls : List (Int × List Str)} {ks : List Kd} {R : List (Int × List Str)} (hR : ∀ x, R.head? = some x → x.1 ≠ 2) : ∀ (fs acc : List Str) (pos fuel : Nat), Sfx ls pos (fs.map (fun f => parted (fieldLine f)) ++ R) → (∀ f ∈ fs, f ∈ pool) → (acc ++ fs).Nodup → acc.length + fs.length ≤ 2 → fs.length ≤ fuel →
    fieldsM fuel (st ls pos ks) acc = .ok (st ls (pos + fs.length) ks, acc ++ fs)
  | [], acc, pos, fuel, hs, _, _, _, _ => by
    rw [List.append_nil, List.length_nil, Nat.add_zero]
    cases fuel with
    | zero => rfl
    | succ n =>
      rw [fieldsM]
      have hw : (st ls pos ks).wordsAt 1 = [] := by
        cases R with
        | nil => exact wordsAt_nil hs
        | cons x R =>
          have hs : Sfx ls pos ((x.1, x.2) :: R) := by simpa using hs
          rw [wordsAt_cons (S := st ls pos ks) hs, if_neg (fun e => hR x rfl (by rw [e]; rfl))]
      simp only [hw, if_true]
  | f :: fs, acc, pos, fuel, hs, hp, hn, hl, hf => by
    cases fuel with
    | zero => simp at hf
    | succ n =>
      rw [List.length_cons] at hl hf
      have hfp := hp f (List.mem_cons_self ..)
      rw [fieldsM]
      have hs' : Sfx ls pos (((2 : Int), [("field" : Str), f]) :: (fs.map (fun f => parted (fieldLine f)) ++ R)) := by rw [← field_pr hfp]; simpa using hs
      have hw : (st ls pos ks).wordsAt 1 = [("field" : Str), f] := by rw [wordsAt_cons hs', if_pos (by decide)]
      have n0 : ¬ ([("field" : Str), f] = []) := by simp
      have i0 : item [("field" : Str), f] 0 = "field" := rfl
      have i1 : item [("field" : Str), f] 1 = f := rfl
      have l2 : [("field" : Str), f].length = 2 := rfl
      have wf := (pool_W hfp).wd
      have kf : decide (f ≠ "key") = true := decide_eq_true fun e => by subst e; exact absurd hfp (by decide +kernel)
      have hnot : f ∉ acc := by
        rw [List.nodup_append] at hn
        exact fun z => hn.2.2 f z f (List.mem_cons_self ..) rfl
      have cf : acc.contains f = false := by simpa using hnot
      have la : decide (acc.length < 2) = true := decide_eq_true (by omega)
      simp only [hw, n0, if_false, i0, i1, l2, wf, kf, cf, la, Rd.need, decide_true, Bool.and_true, Bool.not_false, if_true]
      have ih := fields_read (ks := ks) hR fs (acc ++ [f]) (pos + 1) n hs'.step.2 (fun x hx => hp x (List.mem_cons_of_mem _ hx)) (by simpa using hn) (by rw [List.length_append]; simp; omega) (by omega)
      show fieldsM n (st ls (pos + 1) ks) (acc ++ [f]) = _
      rw [ih, List.length_cons, List.append_assoc, show pos + 1 + fs.length = pos + (fs.length + 1) by omega]
      rfl
/-- what stands behind a kind: another one, or the pass -/
def Hd0 (R : List (Int × List Str)) : Prop := ∀ x, R.head? = some x → x.1 = 0
theorem kind_read {ls : List (Int × List Str)} {ks : List Kd} {pos : Nat} {n o : Str} {fs : List Str} {R : List (Int × List Str)} (hk : ∀ x ∈ ks, x.1 ∈ pool) (h4 : ks.length < 4) (hn : n ∈ pool) (hnn : n ∉ ks.map (·.1)) (ho : o = "" ∨ o ∈ ks.map (·.1)) (h3 : (((chs ks).lookup o).getD []).length < 3)
    (hf : ∀ f ∈ fs, f ∈ pool) (hd : fs.Nodup) (h2 : fs.length ≤ 2) (hs : Sfx ls pos ((kRows (n, o, fs)).map parted ++ R)) (hR : Hd0 R) :
    (st ls pos ks).wordsAt 0 = (if o = "" then [("kind" : Str), n] else ["kind", n, "in", o]) ∧ kindM (st ls pos ks) (if o = "" then [("kind" : Str), n] else ["kind", n, "in", o]) = .ok (st ls (pos + (kRows (n, o, fs)).length) (ks ++ [(n, o, fs)])) := by
  have hop : o = "" ∨ o ∈ pool := ho.imp id fun z => by
    obtain ⟨k, hk1, rfl⟩ := List.mem_map.mp z
    exact hk k hk1
  have hs' : Sfx ls pos (((0 : Int), (if o = "" then [("kind" : Str), n] else ["kind", n, "in", o])) :: (fs.map (fun f => parted (fieldLine f)) ++ R)) := by
    rw [← kind_pr hn hop]
    simpa [kRows, Function.comp_def] using hs
  refine ⟨by rw [wordsAt_cons hs', if_pos (by decide)], ?_⟩
  have hl := hs'.len
  have wn := (pool_W hn).wd
  have hfr : fieldsM (ls.length - pos) (st ls (pos + 1) ks) [] = .ok (st ls (pos + 1 + fs.length) ks, fs) := by
    have := fields_read (ks := ks) (fun x e => by rw [hR x e]; decide) fs [] (pos + 1) (ls.length - pos) hs'.step.2 hf (by simpa using hd) (by simpa using h2) (by simp at hl; omega)
    simpa using this
  have e4 : decide (ks.length < 4) = true := decide_eq_true h4
  have en : (chs ks).lookup n = none := lookup_none (by rw [chs_keys]; exact hnn)
  have fin : ∀ out : Str, out = o → (Res.ok out).bind (fun outer => (fieldsM (ls.length - pos) (st ls pos ks).on []).bind fun p =>
      Res.ok { p.1 with kinds := p.1.kinds ++ [(n, outer, p.2)], chains := p.1.chains ++ [(n, chainOf p.1 outer ++ [n])], fields := p.1.fields ++ [(n, ("key" : Str) :: p.2)] }) = Res.ok (st ls (pos + (kRows (n, o, fs)).length) (ks ++ [(n, o, fs)])) := fun out e => by
    subst e
    rw [bind_ok]
    show (fieldsM (ls.length - pos) (st ls (pos + 1) ks) []).bind _ = _
    rw [hfr, bind_ok]
    have e1 : chs (ks ++ [(n, out, fs)]) = chs ks ++ [(n, ((chs ks).lookup out).getD [] ++ [n])] := chs_snoc ks _
    have e2 : fds (ks ++ [(n, out, fs)]) = fds ks ++ [(n, ("key" : Str) :: fs)] := by unfold fds; rw [List.map_append]; rfl
    have e3 : pos + (kRows (n, out, fs)).length = pos + 1 + fs.length := by simp [kRows]; omega
    rw [e3]
    unfold st
    rw [e1, e2]
    rfl
  unfold kindM
  by_cases h : o = ""
  · subst h
    have l2 : [("kind" : Str), n].length = 2 := rfl
    have i1 : item [("kind" : Str), n] 1 = n := rfl
    simp only [if_true, l2, i1, wn, Rd.need, show (st ls pos ks).kinds.length = ks.length from rfl, show (st ls pos ks).chains.lookup n = none from en, e4, Option.isNone_none, decide_true, Bool.true_or, Bool.and_self, show ¬ ((2 : Nat) = 4) by decide, if_false]
    exact fin "" rfl
  · have hom := ho.resolve_left h
    have l4 : [("kind" : Str), n, "in", o].length = 4 := rfl
    have i1 : item [("kind" : Str), n, "in", o] 1 = n := rfl
    have i2 : item [("kind" : Str), n, "in", o] 2 = "in" := rfl
    have i3 : item [("kind" : Str), n, "in", o] 3 = o := rfl
    have eo : ((chs ks).lookup o).isSome = true := lookup_some (by rw [chs_keys]; exact hom)
    have e3 : decide ((chainOf (st ls pos ks) o).length < 3) = true := decide_eq_true h3
    simp only [h, if_false, l4, i1, i2, i3, wn, Rd.need, show (st ls pos ks).kinds.length = ks.length from rfl, show (st ls pos ks).chains.lookup n = none from en, show ((st ls pos ks).chains.lookup o).isSome = true from eo, e3, e4, Option.isNone_none, decide_true, Bool.or_true, Bool.and_self, if_true]
    exact fin o rfl
end Pk

set_option Elab.async false
set_option linter.all false
set_option maxRecDepth 100000
set_option maxHeartbeats 1000000
/-! L043: statements that ask for REFs and kinds are read; a page. -/
namespace Pk
open PySem L2 Rdr TL
/-! ### all kinds -/
structure Cond (ks : List Kd) (k : Kd) : Prop where
  four : ks.length < 4
  n : k.1 ∈ pool
  nn : k.1 ∉ ks.map (·.1)
  o : k.2.1 = "" ∨ k.2.1 ∈ ks.map (·.1)
  three : (((chs ks).lookup k.2.1).getD []).length < 3
  f : ∀ f ∈ k.2.2, f ∈ pool
  nd : k.2.2.Nodup
  two : k.2.2.length ≤ 2
inductive KSeq : List Kd → List Kd → Prop
  | nil {ks : List Kd} : KSeq ks []
  | cons {ks : List Kd} {k : Kd} {l : List Kd} : Cond ks k → KSeq (ks ++ [k]) l → KSeq ks (k :: l)
theorem KSeq.snoc {ks l : List Kd} {k : Kd} (h : KSeq ks l) (c : Cond (ks ++ l) k) : KSeq ks (l ++ [k]) := by
  induction h with
  | nil => exact .cons (by simpa using c) .nil
  | cons c1 _ ih => exact .cons c1 (ih (by simpa using c))
theorem KOk.seq {ks : List Kd} (h : KOk ks) : KSeq [] ks := by
  induction h with
  | nil => exact .nil
  | snoc _ h1 h2 h3 h4 h5 h6 h7 h8 ih => exact ih.snoc ⟨h1, h2, h3, h4, h5, h6, h7, h8⟩
theorem KOk.names {ks : List Kd} (h : KOk ks) : ∀ k ∈ ks, k.1 ∈ pool := by
  induction h with
  | nil => exact fun k hk => by cases hk
  | snoc _ _ hn _ _ _ _ _ _ ih =>
    intro k hk
    rcases List.mem_append.mp hk with z | z
    · exact ih k z
    · rw [List.mem_singleton.mp z]; exact hn
theorem KOk.fpool {ks : List Kd} (h : KOk ks) : ∀ k ∈ ks, ∀ f ∈ k.2.2, f ∈ pool := by
  induction h with
  | nil => exact fun k hk => by cases hk
  | snoc _ _ _ _ _ _ hf _ _ ih =>
    intro k hk
    rcases List.mem_append.mp hk with z | z
    · exact ih k z
    · rw [List.mem_singleton.mp z]; exact hf
theorem kinds_seq {ls : List (Int × List Str)} {R : List (Int × List Str)} : ∀ (l ks : List Kd) (pos fuel : Nat), KSeq ks l → (∀ x ∈ ks, x.1 ∈ pool) → Sfx ls pos ((ksRows l).map parted ++ ((0, [("pass" : Str)]) :: R)) → l.length < fuel →
    kindsM fuel (st ls pos ks) = .ok (st ls (pos + (ksRows l).length) (ks ++ l))
  | [], ks, pos, fuel, _, _, hs, hf => by
    cases fuel with
    | zero => simp at hf
    | succ n =>
      rw [kindsM]
      have hs : Sfx ls pos ((0, [("pass" : Str)]) :: R) := by simpa [ksRows] using hs
      have hw : (st ls pos ks).wordsAt 0 = [("pass" : Str)] := by rw [wordsAt_cons (S := st ls pos ks) hs, if_pos (by decide)]
      have t2 : ¬ ([("pass" : Str)].take 1 = [("kind" : Str)]) := by decide +kernel
      simp only [hw, t2, if_false]
      simp [ksRows]
  | k :: l, ks, pos, fuel, h, hk, hs, hf => by
    cases h with
    | cons c h =>
      cases fuel with
      | zero => simp at hf
      | succ n =>
        obtain ⟨nm, o, fs⟩ := k
        have hs' : Sfx ls pos ((kRows (nm, o, fs)).map parted ++ ((ksRows l).map parted ++ ((0, [("pass" : Str)]) :: R))) := by simpa [ksRows] using hs
        have hd : Hd0 ((ksRows l).map parted ++ ((0, [("pass" : Str)]) :: R)) := by
          intro x e
          cases l with
          | nil =>
            have e : some ((0 : Int), [("pass" : Str)]) = some x := e
            cases e
            rfl
          | cons k2 l2 =>
            cases h with
            | cons c2 _ =>
              have e : some (parted (kindLine k2.1 k2.2.1)) = some x := e
              cases e
              have ho2 : k2.2.1 = "" ∨ k2.2.1 ∈ pool := c2.o.imp id fun z => by
                obtain ⟨y, hy, hyk⟩ := List.mem_map.mp z
                rw [← hyk]
                rcases List.mem_append.mp hy with w | w
                · exact hk y w
                · rw [List.mem_singleton.mp w]; exact c.n
              rw [kind_pr c2.n ho2]
        obtain ⟨e1, e2⟩ := kind_read (ks := ks) hk c.four c.n c.nn c.o c.three c.f c.nd c.two hs' hd
        rw [kindsM, e1]
        have t1 : (if o = "" then [("kind" : Str), nm] else ["kind", nm, "in", o]).take 1 = [("kind" : Str)] := by split <;> rfl
        simp only [t1, if_true]
        rw [e2, bind_ok]
        rw [kinds_seq l (ks ++ [(nm, o, fs)]) (pos + (kRows (nm, o, fs)).length) n h (fun x hx => by
          rcases List.mem_append.mp hx with w | w
          · exact hk x w
          · rw [List.mem_singleton.mp w]; exact c.n) (hs'.skip (by simp)) (by simp at hf; omega)]
        rw [show pos + (kRows (nm, o, fs)).length + (ksRows l).length = pos + (ksRows ((nm, o, fs) :: l)).length by simp [ksRows]; omega]
        simp
/-! ### statements -/
structure Sm where
  way : Nat
  n : Str
  f : Str
  kd : Str
  lab : Str
def Sm.lines (s : Sm) : List Str := match s.way with
  | 0 => ["if " ++ ref s.n s.f ++ " is x", "  line " ++ s.lab ++ " x"]
  | 1 => ["head " ++ s.lab ++ " " ++ s.kd ++ " x " ++ ref s.n s.f]
  | 2 => ["head " ++ s.lab ++ " - " ++ ref s.n s.f]
  | _ => ["line " ++ s.lab ++ " y " ++ ref s.n s.f]
def Sm.rows (s : Sm) : List Str := s.lines.map fun l => "    " ++ l
structure SmOk (s : Sm) : Prop where
  n : W s.n
  f : W s.f
  kd : W s.kd
  lab : W s.lab
def fixed : List Str := ["if", "is", "x", "line", "head", "-", "y"]
theorem fixed_ok : fixed.all (fun w => decide (32 ∉ tl w) && decide (w ≠ "") && okw w && decide (10 ∉ tl w)) = true := by decide +kernel
/-- a word of a line -/
structure Lw (w : Str) : Prop where
  a : 32 ∉ tl w
  b : w ≠ ""
  c : okw w = true
theorem Lw.fix {w : Str} (h : w ∈ fixed) : Lw w := by
  have := List.all_eq_true.mp fixed_ok w h
  simp only [Bool.and_eq_true, decide_eq_true_eq] at this
  exact ⟨this.1.1.1, this.1.1.2, this.1.2⟩
theorem Lw.of {w : Str} (h : W w) : Lw w := ⟨h.no.1, h.no.2.2.2.1, h.ok⟩
theorem strOk_app {a b : Str} (ha : PyData.strOk a = true) (hb : PyData.strOk b = true) : PyData.strOk (a ++ b) = true := by
  unfold PyData.strOk at *
  rw [← Array.all_toList] at *
  rw [show (a ++ b).cps.toList = tl (a ++ b) from rfl, tl_append, List.all_append, Bool.and_eq_true]
  exact ⟨ha, hb⟩
theorem okw_iff {w : Str} : okw w = true ↔ w.length ≤ 20000 ∧ PyData.strOk w = true := by
  unfold okw
  rw [Bool.and_eq_true, decide_eq_true_eq]
theorem dot_ok : PyData.strOk "." = true ∧ ("." : Str).length = 1 := by decide +kernel
theorem Lw.ref {n f : Str} (hn : W n) (hf : W f) : Lw (ref n f) := by
  obtain ⟨a, b, c, d⟩ := ref_no hn hf
  exact ⟨a, c, okw_iff.mpr ⟨by omega, strOk_app (strOk_app (okw_iff.mp hn.ok).2 dot_ok.1) (okw_iff.mp hf.ok).2⟩⟩
/-- the words of the first line -/
def Sm.ws (s : Sm) : List Str := match s.way with
  | 0 => ["if", ref s.n s.f, "is", "x"]
  | 1 => ["head", s.lab, s.kd, "x", ref s.n s.f]
  | 2 => ["head", s.lab, "-", ref s.n s.f]
  | _ => ["line", s.lab, "y", ref s.n s.f]
theorem ws_lw {s : Sm} (h : SmOk s) : ∀ w ∈ s.ws, Lw w := by
  have r := Lw.ref h.n h.f
  have l := Lw.of h.lab
  have k := Lw.of h.kd
  intro w hw
  have fx : ∀ {z : Str}, z ∈ fixed → Lw z := Lw.fix
  unfold Sm.ws at hw
  split at hw <;> simp only [List.mem_cons, List.not_mem_nil, or_false] at hw
  · rcases hw with rfl | rfl | rfl | rfl
    · exact fx (by decide +kernel)
    · exact r
    · exact fx (by decide +kernel)
    · exact fx (by decide +kernel)
  · rcases hw with rfl | rfl | rfl | rfl | rfl
    · exact fx (by decide +kernel)
    · exact l
    · exact k
    · exact fx (by decide +kernel)
    · exact r
  · rcases hw with rfl | rfl | rfl | rfl
    · exact fx (by decide +kernel)
    · exact l
    · exact fx (by decide +kernel)
    · exact r
  · rcases hw with rfl | rfl | rfl | rfl
    · exact fx (by decide +kernel)
    · exact l
    · exact fx (by decide +kernel)
    · exact r
theorem lits : tl ("    " : Str) = [32, 32, 32, 32] ∧ tl ("if " : Str) = tl ("if" : Str) ++ [32] ∧ tl (" is x" : Str) = 32 :: (tl ("is" : Str) ++ 32 :: tl ("x" : Str)) ∧ tl ("  line " : Str) = 32 :: 32 :: (tl ("line" : Str) ++ [32]) ∧ tl (" x" : Str) = 32 :: tl ("x" : Str) ∧
    tl ("head " : Str) = tl ("head" : Str) ++ [32] ∧ tl (" " : Str) = [32] ∧ tl (" x " : Str) = 32 :: (tl ("x" : Str) ++ [32]) ∧ tl (" - " : Str) = 32 :: (tl ("-" : Str) ++ [32]) ∧ tl ("line " : Str) = tl ("line" : Str) ++ [32] ∧ tl (" y " : Str) = 32 :: (tl ("y" : Str) ++ [32]) := by decide +kernel
theorem line1_pr {s : Sm} (h : SmOk s) : ∃ l, s.rows.head? = some l ∧ parted l = ((4 : Int), s.ws) := by
  obtain ⟨t1, t2, t3, t4, t5, t6, t7, t8, t9, t10, t11⟩ := lits
  have hne : s.ws ≠ [] := by unfold Sm.ws; split <;> simp
  have key : ∀ l : Str, tl l = List.replicate 4 32 ++ joinL [32] (s.ws.map tl) → parted l = ((4 : Int), s.ws) := fun l hl => parted_of (n := 4) hne (fun w hw => (ws_lw h w hw).a) (fun w hw => (ws_lw h w hw).b) hl
  obtain ⟨way, n, f, kd, lab⟩ := s
  match way with
  | 0 =>
    refine ⟨_, rfl, key _ ?_⟩
    show tl ("    " ++ ("if " ++ ref n f ++ " is x")) = _
    rw [tl_append, tl_append, tl_append, t1, t2, t3]
    simp [Sm.ws, joinL, List.replicate]
  | 1 =>
    refine ⟨_, rfl, key _ ?_⟩
    show tl ("    " ++ ("head " ++ lab ++ " " ++ kd ++ " x " ++ ref n f)) = _
    rw [tl_append, tl_append, tl_append, tl_append, tl_append, tl_append, t1, t6, t7, t8]
    simp [Sm.ws, joinL, List.replicate]
  | 2 =>
    refine ⟨_, rfl, key _ ?_⟩
    show tl ("    " ++ ("head " ++ lab ++ " - " ++ ref n f)) = _
    rw [tl_append, tl_append, tl_append, tl_append, t1, t6, t9]
    simp [Sm.ws, joinL, List.replicate]
  | w + 3 =>
    refine ⟨_, rfl, key _ ?_⟩
    show tl ("    " ++ ("line " ++ lab ++ " y " ++ ref n f)) = _
    rw [tl_append, tl_append, tl_append, tl_append, t1, t10, t11]
    simp [Sm.ws, joinL, List.replicate]
theorem line2_pr {lab : Str} (h : W lab) : parted ("    " ++ ("  line " ++ lab ++ " x")) = ((6 : Int), [("line" : Str), lab, "x"]) := by
  obtain ⟨t1, t2, t3, t4, t5, t6, t7, t8, t9, t10, t11⟩ := lits
  have fx : ∀ {z : Str}, z ∈ fixed → Lw z := Lw.fix
  have hl : ∀ w ∈ [("line" : Str), lab, "x"], Lw w := fun w hw => by
    simp only [List.mem_cons, List.not_mem_nil, or_false] at hw
    rcases hw with rfl | rfl | rfl
    · exact fx (by decide +kernel)
    · exact Lw.of h
    · exact fx (by decide +kernel)
  refine parted_of (n := 6) (by simp) (fun w hw => (hl w hw).a) (fun w hw => (hl w hw).b) ?_
  rw [tl_append, tl_append, tl_append, t1, t4, t5]
  simp [joinL, List.replicate]
end Pk

set_option Elab.async false
set_option linter.all false
set_option maxRecDepth 100000
set_option maxHeartbeats 2000000
/-! L044: a page of one handler is read. -/
namespace Pk
open PySem L2 Rdr TL
def stP (ls : List (Int × List Str)) (pos : Nat) (ks : List Kd) (L : List Str) (nr : List Str) (pt : Nat) : Rd := { ls := ls, pos := pos, kinds := ks, chains := chs ks, fields := fds ks, labels := L, parts := pt, cells := [], worths := [], near := nr }
def refOk (nr : List Str) (ks : List Kd) (n f : Str) : Bool := nr.contains n && (((fds ks).lookup n).getD []).contains f
def okS (nr : List Str) (ks : List Kd) (s : Sm) : Bool := refOk nr ks s.n s.f && (decide (s.way ≠ 1) || nr.contains s.kd)
section
variable {ls : List (Int × List Str)} {pos : Nat} {ks : List Kd} {L nr : List Str} {pt : Nat}
theorem ref_read {A : Type} {n f : Str} (h : W n) (r : Res A) : refM (stP ls pos ks L nr pt) (ref n f) r = if refOk nr ks n f = true then r else .bad ((pos : Int) + 1) := by
  unfold refM
  rw [ref_part h]
  rfl
theorem write_read {lab : Str} {ts : List Str} {n f : Str} (hl : W lab) (hn : W n) (hL : lab ∉ L) (ht : ts = [ref n f] ∨ ∃ w, word w = true ∧ ts = [w, ref n f]) :
    writeM (stP ls pos ks L nr pt) lab ts = if refOk nr ks n f = true then .ok (stP ls pos ks (L ++ [lab]) nr pt) else .bad ((pos : Int) + 1) := by
  have hc : (stP ls pos ks L nr pt).labels.contains lab = false := by simpa [stP] using hL
  have rw0 : word (ref n f) = false := ref_word
  unfold writeM
  rcases ht with rfl | ⟨w, hw, rfl⟩
  · have l6 : decide ([ref n f].length ≤ 6) = true := rfl
    simp only [Rd.need, hl.wd, hc, l6, Bool.not_false, Bool.and_self, if_true, tokensM, rw0, Bool.false_eq_true, if_false]
    exact ref_read hn _
  · have l6 : decide ([w, ref n f].length ≤ 6) = true := rfl
    simp only [Rd.need, hl.wd, hc, l6, Bool.not_false, Bool.and_self, if_true, tokensM, hw, rw0, Bool.false_eq_true, if_false]
    exact ref_read hn _
theorem ite_bind {A B : Type} {c : Prop} [Decidable c] {a b : Res A} {f : A → Res B} : (if c then a else b).bind f = if c then a.bind f else b.bind f := by split <;> rfl
/-- one statement -/
theorem stm_read {s : Sm} {R : List (Int × List Str)} (h : SmOk s) (hL : s.lab ∉ L) (hs : Sfx ls pos (s.rows.map parted ++ R)) (h6 : ∀ x, R.head? = some x → x.1 ≠ 6) (hE : ∀ x, R.head? = some x → x.2 ≠ [("else" : Str)]) :
    stmM 2 2 (stP ls pos ks L nr pt) s.ws = if okS nr ks s = true then .ok (stP ls (pos + s.rows.length) ks (L ++ [s.lab]) nr pt) else .bad ((pos : Int) + 1) := by
  obtain ⟨way, n, f, kd, lab⟩ := s
  have nh : ¬ (("head" : Str) = "if") := by decide +kernel
  have nl : ¬ (("line" : Str) = "if") := by decide +kernel
  have nhl : ¬ (("head" : Str) = "line") := by decide +kernel
  have wx : word "x" = true := by decide +kernel
  have wy : word "y" = true := by decide +kernel
  match way with
  | 0 =>
    have e1 : okS nr ks ⟨0, n, f, kd, lab⟩ = refOk nr ks n f := by simp [okS]
    rw [e1]
    show stmM 2 2 _ [("if" : Str), ref n f, "is", "x"] = _
    unfold stmM
    have i0 : item [("if" : Str), ref n f, "is", "x"] 0 = "if" := rfl
    have i1 : item [("if" : Str), ref n f, "is", "x"] 1 = ref n f := rfl
    have i2 : item [("if" : Str), ref n f, "is", "x"] 2 = "is" := rfl
    have i3 : item [("if" : Str), ref n f, "is", "x"] 3 = "x" := rfl
    have l4 : decide ([("if" : Str), ref n f, "is", "x"].length = 4) = true := rfl
    have n1 : ¬ (("is" : Str) = "=") := by decide +kernel
    rw [if_pos i0]
    unfold ifM
    simp only [i1, i2, i3, l4, n1, if_false, if_true, Rd.need, wx, decide_true, Bool.and_true]
    rw [ref_read h.n, ite_bind]
    by_cases hr : refOk nr ks n f = true
    · rw [if_pos hr, if_pos hr, bind_ok]
      have hs2 : Sfx ls (pos + 1) (((6 : Int), [("line" : Str), lab, "x"]) :: R) := by
        have := hs.step.2
        rw [← line2_pr h.lab]
        exact this
      have hlen := hs2.len
      obtain ⟨fu, hfu⟩ : ∃ fu, ls.length - (pos + 1) + 1 = fu + 2 := ⟨ls.length - (pos + 1) - 1, by simp at hlen; omega⟩
      have hon : (stP ls pos ks L nr pt).on = stP ls (pos + 1) ks L nr pt := rfl
      have e3 : (2 : Int) + 1 = 3 := rfl
      rw [e3, hon]
      show (blockM (stmM 1 3) 3 (ls.length - (pos + 1) + 1) 0 (stP ls (pos + 1) ks L nr pt)).bind _ = _
      have hb : blockM (stmM 1 3) 3 (fu + 2) 0 (stP ls (pos + 1) ks L nr pt) = .ok (stP ls (pos + 2) ks (L ++ [lab]) nr pt) := by
        have hw : (stP ls (pos + 1) ks L nr pt).wordsAt 3 = [("line" : Str), lab, "x"] := by rw [wordsAt_cons (S := stP ls (pos + 1) ks L nr pt) hs2, if_pos (by decide)]
        have n0 : ¬ ([("line" : Str), lab, "x"] = []) := by simp
        have j0 : item [("line" : Str), lab, "x"] 0 = "line" := rfl
        have j1 : item [("line" : Str), lab, "x"] 1 = lab := rfl
        have jd : [("line" : Str), lab, "x"].drop 2 = [("x" : Str)] := rfl
        have jl : decide (2 < [("line" : Str), lab, "x"].length) = true := rfl
        have hc : (stP ls (pos + 1) ks L nr pt).labels.contains lab = false := by simpa [stP] using hL
        have d06 : decide ((0 : Nat) < 6) = true := rfl
        have l1 : decide ([("x" : Str)].length ≤ 6) = true := rfl
        rw [blockM]
        simp only [hw, n0, if_false, Rd.need, d06, if_true]
        unfold stmM
        rw [j0, if_neg nl]
        unfold simpleM writeM
        simp only [j0, j1, jd, jl, if_true, Rd.need, h.lab.wd, hc, l1, Bool.not_false, Bool.and_self, tokensM, wx, bind_ok]
        show blockM (stmM 1 3) 3 (fu + 1) 1 (stP ls (pos + 2) ks (L ++ [lab]) nr pt) = _
        rw [blockM]
        have hw2 : (stP ls (pos + 2) ks (L ++ [lab]) nr pt).wordsAt 3 = [] := by
          have hs3 : Sfx ls (pos + 2) R := hs2.step.2
          cases R with
          | nil => exact wordsAt_nil (S := stP ls (pos + 2) ks (L ++ [lab]) nr pt) hs3
          | cons x R => rw [wordsAt_cons (S := stP ls (pos + 2) ks (L ++ [lab]) nr pt) (b := x.1) (ws := x.2) hs3, if_neg (by have := h6 x rfl; omega)]
        simp only [hw2, if_true, Rd.need]
        rfl
      rw [hfu, hb, bind_ok]
      have hw3 : ¬ ((stP ls (pos + 2) ks (L ++ [lab]) nr pt).wordsAt 2 = [("else" : Str)]) := by
        have hs3 : Sfx ls (pos + 2) R := hs2.step.2
        cases R with
        | nil => rw [wordsAt_nil (S := stP ls (pos + 2) ks (L ++ [lab]) nr pt) hs3]; simp
        | cons x R =>
          rw [wordsAt_cons (S := stP ls (pos + 2) ks (L ++ [lab]) nr pt) (b := x.1) (ws := x.2) hs3]
          split
          · exact hE x rfl
          · simp
      rw [if_neg hw3]
      rfl
    · rw [if_neg hr, if_neg hr]
      rfl
  | 1 =>
    have e1 : okS nr ks ⟨1, n, f, kd, lab⟩ = (refOk nr ks n f && nr.contains kd) := by simp [okS]
    rw [e1]
    show stmM 2 2 _ [("head" : Str), lab, kd, "x", ref n f] = _
    unfold stmM
    have i0 : item [("head" : Str), lab, kd, "x", ref n f] 0 = "head" := rfl
    have i1 : item [("head" : Str), lab, kd, "x", ref n f] 1 = lab := rfl
    have i2 : item [("head" : Str), lab, kd, "x", ref n f] 2 = kd := rfl
    have idr : [("head" : Str), lab, kd, "x", ref n f].drop 3 = [("x" : Str), ref n f] := rfl
    have il : decide (3 < [("head" : Str), lab, kd, "x", ref n f].length) = true := rfl
    have hk : decide (kd = "-") = false := decide_eq_false fun e => by
      have := h.kd.wd
      rw [show (Sm.mk 1 n f kd lab).kd = kd from rfl, e] at this
      exact absurd this (by decide +kernel)
    rw [i0, if_neg nh]
    unfold simpleM
    simp only [i0, nhl, i1, i2, idr, il, hk, if_false, if_true, Rd.need, Bool.false_or, show (stP ls pos ks L nr pt).near = nr from rfl]
    rw [write_read (lab := lab) (n := n) (f := f) h.lab h.n hL (.inr ⟨"x", wx, rfl⟩), ite_bind, ite_bind]
    by_cases hkd : nr.contains kd = true
    · by_cases hr : refOk nr ks n f = true
      · simp only [hkd, hr, if_true, Bool.and_self]; rfl
      · simp only [hkd, hr, if_true, if_false, Bool.false_and, Bool.not_eq_true] at *
        simp only [hr, Bool.false_and, Bool.false_eq_true, if_false]
        rfl
    · simp only [Bool.not_eq_true] at hkd
      simp only [hkd, Bool.and_false, Bool.false_eq_true, if_false]
      rfl
  | 2 =>
    have e1 : okS nr ks ⟨2, n, f, kd, lab⟩ = refOk nr ks n f := by simp [okS]
    rw [e1]
    show stmM 2 2 _ [("head" : Str), lab, "-", ref n f] = _
    unfold stmM
    have i0 : item [("head" : Str), lab, "-", ref n f] 0 = "head" := rfl
    have i1 : item [("head" : Str), lab, "-", ref n f] 1 = lab := rfl
    have i2 : item [("head" : Str), lab, "-", ref n f] 2 = "-" := rfl
    have idr : [("head" : Str), lab, "-", ref n f].drop 3 = [ref n f] := rfl
    have il : decide (3 < [("head" : Str), lab, "-", ref n f].length) = true := rfl
    rw [i0, if_neg nh]
    unfold simpleM
    simp only [i0, nhl, i1, i2, idr, il, if_false, if_true, Rd.need, decide_true, Bool.true_or]
    rw [write_read (lab := lab) (n := n) (f := f) h.lab h.n hL (.inl rfl), ite_bind]
    rfl
  | w + 3 =>
    have e1 : okS nr ks ⟨w + 3, n, f, kd, lab⟩ = refOk nr ks n f := by simp [okS]
    rw [e1]
    show stmM 2 2 _ [("line" : Str), lab, "y", ref n f] = _
    unfold stmM
    have i0 : item [("line" : Str), lab, "y", ref n f] 0 = "line" := rfl
    have i1 : item [("line" : Str), lab, "y", ref n f] 1 = lab := rfl
    have idr : [("line" : Str), lab, "y", ref n f].drop 2 = [("y" : Str), ref n f] := rfl
    have il : decide (2 < [("line" : Str), lab, "y", ref n f].length) = true := rfl
    rw [i0, if_neg nl]
    unfold simpleM
    simp only [i0, i1, idr, il, if_true, Rd.need]
    rw [write_read (lab := lab) (n := n) (f := f) h.lab h.n hL (.inr ⟨"y", wy, rfl⟩), ite_bind]
    rfl
end
/-- the look through statements -/
def scanS (nr : List Str) (ks : List Kd) : List Sm → Int → Res Unit
  | [], _ => .ok ()
  | s :: ss, n => if okS nr ks s = true then scanS nr ks ss (n + (s.rows.length : Nat)) else .bad (n + 1)
def smRows (ss : List Sm) : List Str := ss.flatMap Sm.rows
theorem rows_head {s : Sm} (h : SmOk s) : ∃ r, s.rows.map parted = ((4 : Int), s.ws) :: r := by
  obtain ⟨l, e, hl⟩ := line1_pr h
  cases hr : s.rows with
  | nil => rw [hr] at e; cases e
  | cons a r =>
    rw [hr] at e
    cases e
    exact ⟨r.map parted, by rw [List.map_cons, hl]⟩
theorem ws_not (s : Sm) : s.ws ≠ [] ∧ s.ws ≠ [("else" : Str)] := by
  unfold Sm.ws
  split <;> simp
theorem blk_read {ls : List (Int × List Str)} {ks : List Kd} {nr : List Str} {pt : Nat} : ∀ (ss : List Sm) (L : List Str) (fuel many pos : Nat), Sfx ls pos ((smRows ss).map parted) → (∀ s ∈ ss, SmOk s) → (L ++ ss.map (·.lab)).Nodup → many + ss.length ≤ 6 → 0 < many + ss.length → ss.length < fuel →
    blockM (stmM 2 2) 2 fuel many (stP ls pos ks L nr pt) = (scanS nr ks ss pos).bind fun _ => .ok (stP ls (pos + (smRows ss).length) ks (L ++ ss.map (·.lab)) nr pt)
  | [], L, fuel, many, pos, hs, _, _, _, hm, hf => by
    cases fuel with
    | zero => simp at hf
    | succ n =>
      have hs : Sfx ls pos [] := by simpa [smRows] using hs
      rw [blockM]
      have hw : (stP ls pos ks L nr pt).wordsAt 2 = [] := wordsAt_nil (S := stP ls pos ks L nr pt) hs
      simp only [hw, if_true, Rd.need]
      rw [if_pos (decide_eq_true (by simpa using hm))]
      simp [scanS, bind_ok, smRows]
  | s :: ss, L, fuel, many, pos, hs, ho, hn, h6, hm, hf => by
    cases fuel with
    | zero => simp at hf
    | succ n =>
      have hok := ho s (List.mem_cons_self ..)
      obtain ⟨r, hr⟩ := rows_head hok
      have hs' : Sfx ls pos (s.rows.map parted ++ (smRows ss).map parted) := by simpa [smRows] using hs
      have hw : (stP ls pos ks L nr pt).wordsAt 2 = s.ws := by
        rw [hr] at hs'
        rw [wordsAt_cons (S := stP ls pos ks L nr pt) (b := 4) (ws := s.ws) hs', if_pos (by decide)]
      have hd : ∀ x, ((smRows ss).map parted).head? = some x → x.1 = 4 ∧ x.2 ≠ [("else" : Str)] := fun x e => by
        cases ss with
        | nil => cases e
        | cons s2 ss =>
          obtain ⟨r2, hr2⟩ := rows_head (ho s2 (by simp))
          have e2 : (smRows (s2 :: ss)).map parted = s2.rows.map parted ++ (smRows ss).map parted := by simp [smRows]
          rw [e2, hr2] at e
          cases e
          exact ⟨rfl, (ws_not s2).2⟩
      rw [List.length_cons] at h6 hf
      rw [blockM]
      simp only [hw, (ws_not s).1, if_false, Rd.need]
      rw [if_pos (decide_eq_true (show many < 6 by omega))]
      have hnL : s.lab ∉ L := by
        rw [List.map_cons, List.nodup_append] at hn
        exact fun z => hn.2.2 _ z _ (List.mem_cons_self ..) rfl
      rw [stm_read hok hnL hs' (fun x e => by rw [(hd x e).1]; decide) (fun x e => (hd x e).2), ite_bind]
      unfold scanS
      by_cases hk : okS nr ks s = true
      · rw [if_pos hk, if_pos hk, bind_ok]
        have ih := blk_read (ks := ks) (nr := nr) (pt := pt) ss (L ++ [s.lab]) n (many + 1) (pos + s.rows.length) (hs'.skip (by simp)) (fun x hx => ho x (List.mem_cons_of_mem _ hx)) (by simpa using hn) (by omega) (by omega) (by omega)
        rw [ih]
        have e1 : ((pos : Int) + (s.rows.length : Nat)) = ((pos + s.rows.length : Nat) : Int) := by omega
        rw [e1]
        congr 1
        funext _
        rw [show pos + s.rows.length + (smRows ss).length = pos + (smRows (s :: ss)).length by simp [smRows]; omega]
        simp
      · rw [if_neg hk, if_neg hk]
        rfl
end Pk

set_option Elab.async false
set_option linter.all false
set_option maxRecDepth 100000
set_option maxHeartbeats 2000000
/-! L045: the whole page. -/
namespace Pk
open PySem L2 Rdr TL PyProof.Rows
def hws (q : Str × Str) : List Str := if q.2 = "" then [q.1] else [q.1, q.2]
theorem hws_inj {p q : Str × Str} (h : hws p = hws q) : p = q := by
  obtain ⟨a, b⟩ := p
  obtain ⟨c, d⟩ := q
  unfold hws at h
  by_cases h1 : b = "" <;> by_cases h2 : d = "" <;> simp [h1, h2] at h ⊢
  · exact h
  · exact h
theorem hws_ne (q : Str × Str) : hws q ≠ [] := by unfold hws; split <;> simp
def nearK (ks : List Kd) (k : Str) : List Str := ((chs ks).lookup k).getD []
section
variable {ls : List (Int × List Str)} {ks : List Kd} {pt : Nat}
theorem places_end : ∀ (qs : List (Str × Str)) {pos : Nat} {L nr : List Str}, Sfx ls pos [] → ∃ nr', placesM qs (stP ls pos ks L nr pt) = .ok (stP ls pos ks L nr' pt)
  | [], pos, L, nr, _ => ⟨nr, rfl⟩
  | q :: r, pos, L, nr, hs => by
    obtain ⟨nr', e⟩ := places_end r (L := L) (nr := nearK ks q.2) hs
    refine ⟨nr', ?_⟩
    have hq : q = (q.1, q.2) := rfl
    rw [hq, placesM]
    have hw : (stP ls pos ks L (nearK ks q.2) pt).wordsAt 1 = [] := wordsAt_nil (S := stP ls pos ks L (nearK ks q.2) pt) hs
    have e0 : ({ stP ls pos ks L nr pt with near := chainOf (stP ls pos ks L nr pt) q.2 } : Rd) = stP ls pos ks L (nearK ks q.2) pt := rfl
    have hn : ¬ (([] : List Str) = if q.2 = "" then [q.1] else [q.1, q.2]) := by split <;> simp
    simp only [e0, hw, hn, if_false]
    exact e
theorem places_read {tq : Str × Str} {ss : List Sm} (ho : ∀ s ∈ ss, SmOk s) (hnd : (ss.map (·.lab)).Nodup) (h6 : ss.length ≤ 6) (h1 : 0 < ss.length) : ∀ (qs : List (Str × Str)) {pos : Nat} {nr : List Str}, tq ∈ qs → Sfx ls pos ((2, hws tq) :: (smRows ss).map parted) →
    ∃ nr', placesM qs (stP ls pos ks [] nr pt) = (scanS (nearK ks tq.2) ks ss ((pos + 1 : Nat) : Int)).bind fun _ => .ok (stP ls (pos + 1 + (smRows ss).length) ks (ss.map (·.lab)) nr' pt)
  | [], pos, nr, hm, _ => by cases hm
  | q :: r, pos, nr, hm, hs => by
    have hq : q = (q.1, q.2) := rfl
    have e0 : ({ stP ls pos ks [] nr pt with near := chainOf (stP ls pos ks [] nr pt) q.2 } : Rd) = stP ls pos ks [] (nearK ks q.2) pt := rfl
    have hw : (stP ls pos ks [] (nearK ks q.2) pt).wordsAt 1 = hws tq := by rw [wordsAt_cons (S := stP ls pos ks [] (nearK ks q.2) pt) hs, if_pos (by decide)]
    by_cases h : q = tq
    · subst h
      have hE : Sfx ls (pos + 1 + (smRows ss).length) [] := by
        have : Sfx ls (pos + 1) ((smRows ss).map parted ++ []) := by simpa using hs.step.2
        exact this.skip (by simp)
      obtain ⟨nr', e⟩ := places_end (ks := ks) (pt := pt) r (L := ss.map (·.lab)) (nr := nearK ks q.2) hE
      refine ⟨nr', ?_⟩
      rw [hq, placesM]
      have hh : (if q.2 = "" then [q.1] else [q.1, q.2]) = hws q := rfl
      simp only [e0, hw, hh, if_true]
      have hlen := hs.step.2.len
      have hb := blk_read (ks := ks) (nr := nearK ks q.2) (pt := pt) ss [] (ls.length - (pos + 1) + 1) 0 (pos + 1) hs.step.2 ho (by simpa using hnd) (by omega) (by omega) (by
        have : ss.length ≤ (smRows ss).length := by
          clear hs hlen hE e ho hnd h6 h1
          induction ss with
          | nil => simp
          | cons s ss ih =>
            have : 1 ≤ s.rows.length := by unfold Sm.rows Sm.lines; split <;> simp
            simp only [smRows, List.flatMap_cons, List.length_append, List.length_cons] at ih ⊢
            omega
        rw [List.length_map] at hlen
        omega)
      show (blockM (stmM 2 2) 2 (ls.length - (pos + 1) + 1) 0 (stP ls (pos + 1) ks [] (nearK ks q.2) pt)).bind _ = _
      rw [hb, bind_bind]
      congr 1
      funext _
      rw [bind_ok, List.nil_append]
      exact e
    · have hm' : tq ∈ r := by
        rcases List.mem_cons.mp hm with z | z
        · exact absurd z.symm h
        · exact z
      obtain ⟨nr', e⟩ := places_read ho hnd h6 h1 r (nr := nearK ks q.2) hm' hs
      refine ⟨nr', ?_⟩
      rw [hq, placesM]
      have hn : ¬ (hws tq = if q.2 = "" then [q.1] else [q.1, q.2]) := fun z => h (hws_inj z.symm)
      simp only [e0, hw, hn, if_false]
      exact e
end
/-- a head that opens or closes a kind, begins or ends -/
structure Tq (ks : List Kd) (tq : Str × Str) (hd : Str) : Prop where
  pl : tq ∈ [(("begin" : Str), ("" : Str))] ++ ks.flatMap (fun k => [(("open" : Str), k.1), (("close" : Str), k.1)]) ++ [(("end" : Str), ("" : Str))]
  pr : parted ("  " ++ hd) = ((2 : Int), hws tq)
  nc : (hws tq).take 1 ≠ [("cell" : Str)]
def pageRows (ks : List Kd) (hd : Str) (ss : List Sm) : List Str := ksRows ks ++ (("pass" : Str) :: (("  " : Str) ++ hd) :: smRows ss)
theorem pass_pr : parted "pass" = ((0 : Int), [("pass" : Str)]) := by decide +kernel
/-- THE READER on a page -/
theorem read_page {ks : List Kd} {tq : Str × Str} {hd : Str} {ss : List Sm} {t : Str} (hk : KOk ks) (h0 : ks ≠ []) (ht : Tq ks tq hd) (ho : ∀ s ∈ ss, SmOk s) (hnd : (ss.map (·.lab)).Nodup) (h6 : ss.length ≤ 6) (h1 : 0 < ss.length) (hls : (start t).ls = (pageRows ks hd ss).map parted) :
    (readM (start t)).isBad = (scanS (nearK ks tq.2) ks ss (((ksRows ks).length + 2 : Nat) : Int)).isBad := by
  have full : Sfx ((pageRows ks hd ss).map parted) 0 ((pageRows ks hd ss).map parted) := ⟨rfl, Nat.zero_le _⟩
  have hst : start t = st ((pageRows ks hd ss).map parted) 0 [] := by rw [← hls]; rfl
  have hlenks : ks.length ≤ (ksRows ks).length := by
    clear hk h0 ht hls full hst
    induction ks with
    | nil => simp
    | cons k ks ih => simp only [ksRows, List.flatMap_cons, List.length_append, List.length_cons, kRows] at ih ⊢; omega
  have hplen : (pageRows ks hd ss).length = (ksRows ks).length + (2 + (smRows ss).length) := by simp [pageRows]; omega
  generalize hL : (pageRows ks hd ss).map parted = ls at full hst
  have hlsl : ls.length = (ksRows ks).length + (2 + (smRows ss).length) := by rw [← hL, List.length_map, hplen]
  have full2 : Sfx ls 0 ((ksRows ks).map parted ++ ((0, [("pass" : Str)]) :: (((2 : Int), hws tq) :: (smRows ss).map parted))) := by
    have e : ls = (ksRows ks).map parted ++ ((0, [("pass" : Str)]) :: (((2 : Int), hws tq) :: (smRows ss).map parted)) := by
      rw [← hL]
      unfold pageRows
      rw [List.map_append, List.map_cons, List.map_cons, pass_pr, ht.pr]
    rw [← e]
    exact full
  rw [hst]
  unfold readM
  have hkr := kinds_seq ks [] 0 (ls.length + 1) hk.seq (fun x hx => by cases hx) full2 (by omega)
  have hl1 : (st ls 0 []).ls.length = ls.length := rfl
  rw [hl1, hkr, bind_ok, Nat.zero_add, List.nil_append]
  have hneed : ∀ r : Res Rd, (st ls (ksRows ks).length ks).need (decide (0 < (st ls (ksRows ks).length ks).kinds.length)) r = r := fun r => by
    unfold Rd.need
    rw [if_pos]
    refine decide_eq_true ?_
    show 0 < ks.length
    cases ks with
    | nil => exact absurd rfl h0
    | cons _ _ => simp
  rw [hneed]
  have hs1 : Sfx ls (ksRows ks).length ((0, [("pass" : Str)]) :: (((2 : Int), hws tq) :: (smRows ss).map parted)) := by
    have := full2.skip (n := (ksRows ks).length) (by simp)
    simpa using this
  have hs2 := hs1.step.2
  obtain ⟨nr', hpl⟩ := places_read (ls := ls) (ks := ks) (pt := 0) ho hnd h6 h1 _ (nr := []) ht.pl hs2
  have hpart : partM (stP ls ((ksRows ks).length + 1) ks [] [] 0) = (scanS (nearK ks tq.2) ks ss (((ksRows ks).length + 1 + 1 : Nat) : Int)).bind fun _ => .ok (stP ls ((ksRows ks).length + 1 + 1 + (smRows ss).length) ks (ss.map (·.lab)) nr' 1) := by
    unfold partM
    have e0 : ({ stP ls ((ksRows ks).length + 1) ks [] [] 0 with cells := [], worths := [] } : Rd) = stP ls ((ksRows ks).length + 1) ks [] [] 0 := rfl
    rw [e0]
    have ec : ∀ n, cellsM n (stP ls ((ksRows ks).length + 1) ks [] [] 0) = .ok (stP ls ((ksRows ks).length + 1) ks [] [] 0) := fun n => by
      cases n with
      | zero => rfl
      | succ n =>
        rw [cellsM]
        have hw : (stP ls ((ksRows ks).length + 1) ks [] [] 0).wordsAt 1 = hws tq := by rw [wordsAt_cons (S := stP ls ((ksRows ks).length + 1) ks [] [] 0) hs2, if_pos (by decide)]
        simp only [hw, ht.nc, if_false]
    rw [ec, bind_ok]
    have ep : places (stP ls ((ksRows ks).length + 1) ks [] [] 0) = [(("begin" : Str), ("" : Str))] ++ ks.flatMap (fun k => [(("open" : Str), k.1), (("close" : Str), k.1)]) ++ [(("end" : Str), ("" : Str))] := rfl
    rw [ep, hpl, bind_bind]
    rfl
  have hs0 : st ls (ksRows ks).length ks = stP ls (ksRows ks).length ks [] [] 0 := rfl
  rw [hs0, partsM]
  have hw0 : (stP ls (ksRows ks).length ks [] [] 0).wordsAt 0 = [("pass" : Str)] := by rw [wordsAt_cons (S := stP ls (ksRows ks).length ks [] [] 0) hs1, if_pos (by decide)]
  rw [if_pos ⟨hw0, show (0 : Nat) < 2 by decide⟩]
  show ((((partM (stP ls ((ksRows ks).length + 1) ks [] [] 0)).bind _).bind _ : Res Rd)).isBad = _
  rw [hpart]
  have hcast : (((ksRows ks).length + 1 + 1 : Nat) : Int) = (((ksRows ks).length + 2 : Nat) : Int) := by omega
  rw [hcast]
  cases hsc : scanS (nearK ks tq.2) ks ss (((ksRows ks).length + 2 : Nat) : Int) with
  | bad n => rfl
  | ok u =>
    rw [bind_ok, bind_ok]
    have hE : Sfx ls ((ksRows ks).length + 1 + 1 + (smRows ss).length) [] := by
      have : Sfx ls ((ksRows ks).length + 1 + 1) ((smRows ss).map parted ++ []) := by simpa using hs2.step.2
      exact this.skip (by simp)
    have hend : partsM 2 (stP ls ((ksRows ks).length + 1 + 1 + (smRows ss).length) ks (ss.map (·.lab)) nr' 1) = .ok (stP ls ((ksRows ks).length + 1 + 1 + (smRows ss).length) ks (ss.map (·.lab)) nr' 1) := by
      rw [partsM]
      have hw : (stP ls ((ksRows ks).length + 1 + 1 + (smRows ss).length) ks (ss.map (·.lab)) nr' 1).wordsAt 0 = [] := wordsAt_nil (S := stP ls ((ksRows ks).length + 1 + 1 + (smRows ss).length) ks (ss.map (·.lab)) nr' 1) hE
      rw [hw, if_neg (by simp)]
    rw [hend, bind_ok]
    unfold Rd.need
    rw [if_pos]
    · rfl
    · rw [Bool.and_eq_true]
      exact ⟨rfl, decide_eq_true hE.nil.2⟩
/-! ### sizes -/
structure RowOk (x : Str) : Prop where
  l : x.length ≤ 100
  n : 10 ∉ tl x
  c : (parted x).2.length ≤ 20
  w : ∀ w ∈ (parted x).2, okw w = true
theorem fits_rows {rows : List Str} (h : ∀ x ∈ rows, RowOk x) (hl : rows.length ≤ 100) (h0 : rows ≠ []) : fits (Txt.join "\n" rows) = true ∧ (rows.map (·.length)).sum + rows.length * ("\n" : Str).length ≤ 16777216 ∧ (start (Txt.join "\n" rows)).ls = rows.map parted := by
  have hsp : Txt.split (Txt.join "\n" rows) "\n" = rows := split_join (s := 10) (S := []) (by decide +kernel) (by decide +kernel) h0 fun p hp => (h p hp).n
  have e1 : ("\n" : Str).length = 1 := by decide +kernel
  have hsum : ∀ {rs : List Str}, (∀ x ∈ rs, RowOk x) → (rs.map (·.length)).sum ≤ 100 * rs.length := by
    intro rs
    induction rs with
    | nil => intro _; simp
    | cons r rs ih =>
      intro hr
      have := (hr r (List.mem_cons_self ..)).l
      have := ih fun x hx => hr x (List.mem_cons_of_mem _ hx)
      rw [List.map_cons, List.sum_cons, List.length_cons]
      omega
  have h1 := hsum h
  have h2 := StrLaws.join_length_le "\n" rows
  rw [← join_eq] at h2
  rw [e1] at h2 ⊢
  refine ⟨?_, by omega, by show (Txt.split _ "\n").map parted = _; rw [hsp]⟩
  unfold fits
  rw [hsp]
  simp only [Bool.and_eq_true, decide_eq_true_eq, List.all_eq_true]
  refine ⟨⟨by omega, by omega⟩, fun l hl => ?_⟩
  have hx := h l hl
  have := len_lstripChars l " "
  exact ⟨⟨⟨by have := hx.l; omega, by have := hx.l; omega⟩, by have := hx.c; omega⟩, hx.w⟩
end Pk

set_option Elab.async false
set_option linter.all false
set_option maxRecDepth 100000
set_option maxHeartbeats 4000000
set_option exponentiation.threshold 2000
namespace K04
open PySem L2 Rf

open Pk (pool W)
/-- no cell within that is not there -/
def Cl (S : Sto) : Prop := ∀ d ∈ S, nlt S.length d = true
structure Tr (p : Nat) (S S' : Sto) : Prop where
  len : S'.length = S.length
  old : ∀ i, i ≠ p → S'[i]? = S[i]?
theorem Tr.refl {p : Nat} {S : Sto} : Tr p S S := ⟨rfl, fun _ _ => rfl⟩
theorem Tr.trans {p : Nat} {S S1 S2 : Sto} (a : Tr p S S1) (b : Tr p S1 S2) : Tr p S S2 := ⟨b.len.trans a.len, fun i h => (b.old i h).trans (a.old i h)⟩
theorem Tr.set {p : Nat} {S : Sto} {d : D} : Tr p S (S.set p d) := ⟨by simp, fun i h => List.getElem?_set_ne (Ne.symm h)⟩
theorem pot_nlt {n : Nat} {a b c : Int} : nlt n (.lst [.int a, .int b, .int c]) = true := by simp [nlt, nlts]
theorem Cl.tr {p : Nat} {S S' : Sto} {a b c : Int} (h : Cl S) (t : Tr p S S') (P : Pot S' p a b c) : Cl S' := fun d hd => by
  obtain ⟨i, hi, e⟩ := List.getElem_of_mem hd
  have e : S'[i]? = some d := by rw [List.getElem?_eq_getElem hi, e]
  rw [t.len]
  by_cases hp : i = p
  · subst hp
    rw [P.at_] at e
    cases e
    exact pot_nlt
  · rw [t.old i hp] at e
    exact h d (List.mem_of_getElem? e)
theorem take' {k p : Nat} {S : Sto} {a b c n : Int} (h : Pot S p a b c) (n0 : 0 < n) (n1 : n < 1000000) (c1 : c < 1000000) : ∃ d S1 a' c', runF (k + 1) 1 [.loc p, .int n] S = .ok (.int d) S1 ∧ 0 ≤ d ∧ d < n ∧ Pot S1 p a' b c' ∧ c' ≤ c + 1 ∧ Tr p S S1 := by
  obtain ⟨d, a', c', e, d0, d1, P, hc⟩ := take_ok (k := k) h n0 n1 c1
  exact ⟨d, _, a', c', e, d0, d1, P, hc, .set⟩
theorem of' {k p : Nat} {S : Sto} {a b c : Int} {xs : List D} (h : Pot S p a b c) (x0 : 0 < xs.length) (x1 : xs.length < 1000000) (c1 : c < 1000000) : ∃ v S1 a' c', runF (k + 2) 2 [.loc p, .lst xs] S = .ok v S1 ∧ v ∈ xs ∧ Pot S1 p a' b c' ∧ c' ≤ c + 1 ∧ Tr p S S1 := by
  obtain ⟨v, a', c', e, hm, P, hc⟩ := of_ok (k := k) h x0 x1 c1
  exact ⟨v, _, a', c', e, hm, P, hc, .set⟩
theorem clean_ok {mu : MS} {ρ : Rho} {S S1 : Sto} {d d' : D} (h : mu ρ S = .rt d S1) (h1 : ∀ x ∈ S1.take S.length, nlt S.length x = true) (h2 : frzR S.length S1 d = some d') : clean mu ρ S = .rt d' (S1.take S.length) := by
  unfold clean
  rw [h]
  have h3 : (S1.take S.length).all (nlt S.length) = true := List.all_eq_true.mpr h1
  show (if (S1.take S.length).all (nlt S.length) = true then match frzR S.length S1 d with
    | some d' => Out.rt d' (S1.take S.length)
    | none => .stuck
    else .stuck) = _
  rw [if_pos h3, h2]
theorem nlts_strs {n : Nat} : ∀ ws : List Str, nlts n (ws.map D.str) = true
  | [] => rfl
  | w :: ws => by rw [List.map_cons, nlts, nlts_strs ws]; rfl
/-- what a block left, its own cells gone -/
theorem Tr.cut {p : Nat} {S S1 : Sto} {a b c : Int} (hl : S.length ≤ S1.length) (ho : ∀ i, i < S.length → i ≠ p → S1[i]? = S[i]?) (hp : p < S.length) (P : Pot S1 p a b c) : Tr p S (S1.take S.length) ∧ Pot (S1.take S.length) p a b c := by
  refine ⟨⟨by rw [List.length_take]; omega, fun i hi => ?_⟩, ?_⟩
  · by_cases h : i < S.length
    · rw [List.getElem?_take_of_lt h]; exact ho i h hi
    · rw [List.getElem?_eq_none (by rw [List.length_take]; omega), List.getElem?_eq_none (by omega)]
  · obtain ⟨z1, z2, z3, z4, z5, z6⟩ := P
    exact ⟨by rw [List.getElem?_take_of_lt hp]; exact z1, z2, z3, z4, z5, z6⟩
theorem pool_D : [D.str "a", D.str "line", D.str "x", D.str "kind", D.str "is", D.str "pass", D.str "zzzzzzzz", D.str "in", D.str "end", D.str "open", D.str "cell", D.str "if", D.str "else", D.str "head", D.str "b"] = pool.map D.str := rfl
theorem pool_nd : pool.Nodup := by decide +kernel
theorem map_er {α β : Type} (f : α → β) : ∀ (l : List α) (i : Nat), (l.map f).eraseIdx i = (l.eraseIdx i).map f
  | [], i => by simp
  | x :: l, 0 => by simp
  | x :: l, i + 1 => by rw [List.map_cons, List.eraseIdx_cons_succ, List.eraseIdx_cons_succ, List.map_cons, map_er f l i]
theorem er_perm {α : Type} : ∀ (l : List α) (i : Nat) (h : i < l.length), (l[i] :: l.eraseIdx i).Perm l
  | [], i, h => by simp at h
  | x :: l, 0, h => by simp
  | x :: l, i + 1, h => by
    rw [List.eraseIdx_cons_succ, List.getElem_cons_succ]
    exact (List.Perm.swap _ _ _).trans ((er_perm l i (by simpa using h)).cons x)
theorem runB_rt {N : Nat} {b : MS} {ds : List D} {S S1 : Sto} {d : D} (h : b (ds.map some ++ List.replicate (N - ds.length) none) S = .rt d S1) : runB N b ds S = .ok d S1 := by
  unfold runB
  rw [h]
theorem range_1 (z : Int) (hz : -(2 ^ 62) ≤ z ∧ z < 2 ^ 62) (a c d e : Option D) (S : Sto) : mRange1 (mCons (mV 1) mNil) [a, some (.int z), c, d, e] S = .ok ⟨(List.range z.toNat).map fun (i : Nat) => .int (0 + (i : Int)), free⟩ S := by
  show (if -(2 ^ 62) ≤ z ∧ z < 2 ^ 62 then Res.ok _ _ else .stuck) = _
  rw [if_pos hz]
theorem sSeq_nx {a b : MS} {ρ ρ1 : Rho} {S S1 : Sto} (h : a ρ S = .nx ρ1 S1) : sSeq a b ρ S = b ρ1 S1 := by
  unfold sSeq
  rw [h]
theorem sAsg_ok {m : M} {g : MG} {ρ ρ1 : Rho} {S S1 S2 : Sto} {d : D} (h : m ρ S = .ok d S1) (hg : g d ρ S1 = some (ρ1, S2)) : sAsg m g ρ S = .nx ρ1 S2 := by
  unfold sAsg
  rw [h]
  show (match g d ρ S1 with
    | some (ρ1, S2) => Out.nx ρ1 S2
    | none => .stuck) = _
  rw [hg]
theorem sFor_ok {mi : MI} {g : MG} {b : MS} {ρ : Rho} {S S1 : Sto} {items : List D} {o : Out} (h : mi ρ S = .ok ⟨items, free⟩ S1) (hf : forL free g b items ρ S1 = o) : sFor mi g b ρ S = o := by
  unfold sFor
  rw [h]
  exact hf
theorem sRet_ok {m : M} {ρ : Rho} {S S1 : Sto} {d : D} (h : m ρ S = .ok d S1) : sRet m ρ S = .rt d S1 := by
  unfold sRet
  rw [h]
  rfl
structure NmR (p n : Nat) (S S' : Sto) (j : Nat) (b c : Int) (rest found : List Str) : Prop where
  atR : S'[n]? = some (.lst (rest.map D.str))
  atF : S'[n + 1]? = some (.lst (found.map D.str))
  l1 : found.length = j
  l2 : rest.length + j = 15
  nd : (found ++ rest).Nodup
  pl : ∀ w ∈ found ++ rest, w ∈ pool
  len : S'.length = n + 2
  old : ∀ i, i < n → i ≠ p → S'[i]? = S[i]?
  pot : ∃ a, Pot S' p a b c
theorem name_turn {p n j : Nat} {S S' : Sto} {b c : Int} {rest found : List Str} {m : Int} {x4 : Option D} (h : NmR p n S S' j b c rest found) (hp : p < n) (hj : j < 10) (c1 : c < 1000000) :
    ∃ (rest' found' : List Str) (S1 : Sto) (c' : Int), (sExpr (mApp (mV 3) (mPop (mV 2) (mA (runF 21 1) (mCons (mV 0) (mCons (mA bLen (mCons (mV 2) mNil)) mNil)))))) [some (.loc p), some (.int m), some (.loc n), some (.loc (n + 1)), x4] S' = .nx [some (.loc p), some (.int m), some (.loc n), some (.loc (n + 1)), x4] S1 ∧ NmR p n S S1 (j + 1) b c' rest' found' ∧ c' ≤ c + 1 := by
  obtain ⟨hr, hf, l1, l2, nd, pl, len, old, a, P⟩ := h
  obtain ⟨d, S1, a', c', e, d0, d1, P1, hc, T1⟩ := take' (k := 20) (n := (rest.length : Int)) P (by omega) (by omega) c1
  have e : runF 21 1 [.loc p, .int (rest.length : Int)] S' = _ := e
  have hr1 : S1[n]? = some (.lst (rest.map D.str)) := by rw [T1.old n (by omega)]; exact hr
  have hf1 : S1[n + 1]? = some (.lst (found.map D.str)) := by rw [T1.old (n + 1) (by omega)]; exact hf
  obtain ⟨t, ht⟩ : ∃ t : Nat, d = t := ⟨d.toNat, by omega⟩
  subst ht
  have htl : t < rest.length := by omega
  have len1 : S1.length = n + 2 := by rw [T1.len]; exact len
  have fewf : few (found.map D.str).length = true := decide_eq_true (by rw [List.length_map]; omega)
  have hcond : (0 : Int) ≤ (t : Int) ∧ (t : Int) < ((rest.map D.str).length : Nat) ∧ (rest.map D.str).length < 1000000 := by rw [List.length_map]; omega
  have hget : (rest.map D.str)[((t : Int)).toNat]? = some (.str rest[t]) := by
    rw [Int.toNat_natCast, List.getElem?_map, List.getElem?_eq_getElem htl]
    rfl
  have her : (rest.map D.str).eraseIdx ((t : Int)).toNat = (rest.eraseIdx t).map D.str := by rw [Int.toNat_natCast, map_er]
  have hf2 : (S1.set n (.lst ((rest.eraseIdx t).map D.str)))[n + 1]? = some (.lst (found.map D.str)) := by rw [List.getElem?_set_ne (by omega)]; exact hf1
  refine ⟨rest.eraseIdx t, found ++ [rest[t]], (S1.set n (.lst ((rest.eraseIdx t).map D.str))).set (n + 1) (.lst (found.map D.str ++ [.str rest[t]])), c', ?_, ⟨?_, ?_, ?_, ?_, ?_, ?_, ?_, ?_, a', ?_⟩, hc⟩
  · simp only [runB, sNil, sSeq, sPass, sRet, sRetN, sExpr, sIf, sAsg, sPar, sFor, outI, forL, stepL, turnL, gV, gIx, gTp, gsCons, gsNil, mV, mC, mOp, mU, mA, mCons, mNil, mTup, mLst, mLstC, mDict0, mSl, mPart, mNoP, mB, mAnd, mOr, mNot, mAndV, mOrV, mNotV, mIf, mChain, mVal, mRange1, mRange2, mLc, mYes, bndI, wipeR, lcL, optR, Res.thn, Res.bnd, Res.out, Rf.cellOf, Rf.intOf, Rf.lstOf, seqOf, srcOf, free, dIx, dSl, dBack, dNeg, dUpper, dAdd, dSub, dMul, dMod, dDiv, dPow, cmpI, dLt, dLe, dGt, dGe, dEq, dNe, dIn, dNotIn, dIsN, dNotN, ofB, bIsi, bLen, lenOf, bInt, bAbs, bMax2, bMin2, bList, bTuple, bAllAny, bRepr, bSet, bSorted, tyOf, mJoin, mApp, bListS, mPop, List.map_cons, List.map_nil, List.replicate, List.cons_append, List.nil_append, List.getElem?_cons_zero, List.getElem?_cons_succ, List.set_cons_zero, List.set_cons_succ, List.length_cons, List.length_nil, hr, hf, Option.map_some, List.length_map, e, hr1, hcond, hget, her, hf2, fewf, Option.isSome_some, and_self, ↓reduceIte]
    simp only [List.length_map] at hcond fewf
    simp [hcond, hget, her, hf2, fewf]
  · rw [List.getElem?_set_ne (by omega), List.getElem?_set_self (by omega)]
  · rw [List.getElem?_set_self (by simp; omega), List.map_append]; rfl
  · simp [l1]
  · rw [List.length_eraseIdx_of_lt htl]; omega
  · have hperm : (found ++ [rest[t]] ++ rest.eraseIdx t).Perm (found ++ rest) := by
      rw [List.append_assoc]
      refine List.Perm.append_left _ ?_
      exact er_perm rest t htl
    exact hperm.nodup_iff.mpr nd
  · intro w hw
    have hperm : (found ++ [rest[t]] ++ rest.eraseIdx t).Perm (found ++ rest) := by
      rw [List.append_assoc]
      refine List.Perm.append_left _ ?_
      exact er_perm rest t htl
    exact pl w (hperm.mem_iff.mp hw)
  · simp [len1]
  · intro i hi hip
    rw [List.getElem?_set_ne (by omega), List.getElem?_set_ne (by omega), T1.old i hip]
    exact old i hi hip
  · obtain ⟨z1, z2, z3, z4, z5, z6⟩ := P1
    exact ⟨by rw [List.getElem?_set_ne (by omega), List.getElem?_set_ne (by omega)]; exact z1, z2, z3, z4, z5, z6⟩
/-- names, unlike ones -/
theorem names_ok {p : Nat} {S : Sto} {a b c : Int} {m : Nat} (h : Pot S p a b c) (hC : Cl S) (hm : m ≤ 5) (c1 : c < 900000) :
    ∃ (ws : List Str) (S1 : Sto) (a' c' : Int), runF 22 3 [.loc p, .int m] S = .ok (.lst (ws.map D.str)) S1 ∧ ws.length = m ∧ ws.Nodup ∧ (∀ w ∈ ws, w ∈ pool) ∧ Pot S1 p a' b c' ∧ c' ≤ c + m ∧ Tr p S S1 := by
  have hp := h.lt
  have few15 : few (pool.map D.str).length = true := rfl
  have few0 : few 0 = true := rfl
  have h0 : NmR p S.length S (S ++ [.lst (pool.map D.str)] ++ [.lst []]) 0 b c pool [] := by
    refine ⟨?_, ?_, rfl, by decide, by simpa using pool_nd, fun w hw => by simpa using hw, by simp, fun i hi _ => ?_, a, ?_⟩
    · rw [List.getElem?_append_left (by simp)]; simp
    · have : S.length + 1 = (S ++ [D.lst (pool.map D.str)]).length := by simp
      rw [this, get_new]; rfl
    · rw [List.getElem?_append_left (by simp; omega), List.getElem?_append_left hi]
    · obtain ⟨z1, z2, z3, z4, z5, z6⟩ := h
      exact ⟨by rw [List.getElem?_append_left (by simp; omega), List.getElem?_append_left hp]; exact z1, z2, z3, z4, z5, z6⟩
  have hB := fun {j : Nat} {S' : Sto} {c : Int} {rest found : List Str} {x4 : Option D} (h : NmR p S.length S S' j b c rest found) (hj : j < 10) (c1 : c < 1000000) => name_turn (m := (m : Int)) (x4 := x4) h hp hj c1
  have hl1 : (S ++ [D.lst (pool.map D.str)]).length = S.length + 1 := by simp
  obtain ⟨ρ', S', ⟨x4, rest, found, c', rfl, hR, hc⟩, hF⟩ := forL_cnt (g := gV 4) (b := (sExpr (mApp (mV 3) (mPop (mV 2) (mA (runF 21 1) (mCons (mV 0) (mCons (mA bLen (mCons (mV 2) mNil)) mNil))))))) (fun j ρ S' => ∃ x4 rest found c', ρ = [some (.loc p), some (.int (m : Int)), some (.loc S.length), some (.loc (S.length + 1)), x4] ∧ NmR p S.length S S' j b c' rest found ∧ c' ≤ c + j)
    (ds := (List.range ((m : Int)).toNat).map fun (i : Nat) => .int (0 + (i : Int))) (n := 0) (ρ := [some (.loc p), some (.int (m : Int)), some (.loc S.length), some (.loc (S.length + 1)), none]) (S := S ++ [.lst (pool.map D.str)] ++ [.lst []]) ⟨none, pool, [], c, rfl, h0, by omega⟩ fun j d ρ S1 hd _ hj hR => by
    obtain ⟨x4, rest, found, c', rfl, hR, hc⟩ := hR
    rw [List.length_map, List.length_range] at hj
    obtain ⟨rest', found', S2, c2, e2, hR2, hc2⟩ := hB (x4 := some d) hR (by omega) (by omega)
    exact ⟨_, _, _, _, rfl, e2, _, _, _, c2, rfl, hR2, by omega⟩
  rw [List.length_map, List.length_range] at hR hc
  obtain ⟨hr, hf, l1, l2, nd, pl, len, old, a', P⟩ := hR
  obtain ⟨T, P2⟩ := Tr.cut (by omega) old hp P
  refine ⟨found, S'.take S.length, a', c', ?_, by omega, (List.nodup_append.mp nd).1, fun w hw => pl w (List.mem_append_left _ hw), P2, by omega, T⟩
  have hrun : clean (sSeq (sAsg (mLstC (mCons (mC (.str "a")) (mCons (mC (.str "line")) (mCons (mC (.str "x")) (mCons (mC (.str "kind")) (mCons (mC (.str "is")) (mCons (mC (.str "pass")) (mCons (mC (.str "zzzzzzzz")) (mCons (mC (.str "in")) (mCons (mC (.str "end")) (mCons (mC (.str "open")) (mCons (mC (.str "cell")) (mCons (mC (.str "if")) (mCons (mC (.str "else")) (mCons (mC (.str "head")) (mCons (mC (.str "b")) mNil)))))))))))))))) (gV 2))
    (sSeq (sAsg (mLstC mNil) (gV 3))
    (sSeq (sFor (mRange1 (mCons (mV 1) mNil)) (gV 4)
    (sExpr (mApp (mV 3) (mPop (mV 2) (mA (runF 21 1) (mCons (mV 0) (mCons (mA bLen (mCons (mV 2) mNil)) mNil)))))))
    (sRet (mV 3))))) [some (.loc p), some (.int (m : Int)), none, none, none] S = .rt (.lst (found.map D.str)) (S'.take S.length) := by
    refine clean_ok (d := .loc (S.length + 1)) ?_ ?_ ?_
    · have hA : ∀ (ρ : Rho) (S : Sto), (mLstC (mCons (mC (.str "a")) (mCons (mC (.str "line")) (mCons (mC (.str "x")) (mCons (mC (.str "kind")) (mCons (mC (.str "is")) (mCons (mC (.str "pass")) (mCons (mC (.str "zzzzzzzz")) (mCons (mC (.str "in")) (mCons (mC (.str "end")) (mCons (mC (.str "open")) (mCons (mC (.str "cell")) (mCons (mC (.str "if")) (mCons (mC (.str "else")) (mCons (mC (.str "head")) (mCons (mC (.str "b")) mNil)))))))))))))))) ρ S = .ok (.loc S.length) (S ++ [.lst (pool.map D.str)]) := fun ρ S => rfl
      generalize (mLstC (mCons (mC (.str "a")) (mCons (mC (.str "line")) (mCons (mC (.str "x")) (mCons (mC (.str "kind")) (mCons (mC (.str "is")) (mCons (mC (.str "pass")) (mCons (mC (.str "zzzzzzzz")) (mCons (mC (.str "in")) (mCons (mC (.str "end")) (mCons (mC (.str "open")) (mCons (mC (.str "cell")) (mCons (mC (.str "if")) (mCons (mC (.str "else")) (mCons (mC (.str "head")) (mCons (mC (.str "b")) mNil)))))))))))))))) = A at hA ⊢
      generalize (sExpr (mApp (mV 3) (mPop (mV 2) (mA (runF 21 1) (mCons (mV 0) (mCons (mA bLen (mCons (mV 2) mNil)) mNil)))))) = BB at hF ⊢
      have hrg : ∀ z : Int, 0 ≤ z → z < 1000 → -(2 ^ 62) ≤ z ∧ z < 2 ^ 62 := fun z h1 h2 => by omega
      have s1 : sAsg A (gV 2) [some (.loc p), some (.int (m : Int)), none, none, none] S = .nx [some (.loc p), some (.int (m : Int)), some (.loc S.length), none, none] (S ++ [.lst (pool.map D.str)]) := sAsg_ok (hA _ _) rfl
      have s2 : sAsg (mLstC mNil) (gV 3) [some (.loc p), some (.int (m : Int)), some (.loc S.length), none, none] (S ++ [.lst (pool.map D.str)]) = .nx [some (.loc p), some (.int (m : Int)), some (.loc S.length), some (.loc (S.length + 1)), none] (S ++ [.lst (pool.map D.str)] ++ [.lst []]) := by
        rw [← hl1]
        exact sAsg_ok rfl rfl
      have s3 : mRange1 (mCons (mV 1) mNil) [some (.loc p), some (.int (m : Int)), some (.loc S.length), some (.loc (S.length + 1)), none] (S ++ [.lst (pool.map D.str)] ++ [.lst []]) = .ok ⟨(List.range ((m : Int)).toNat).map fun (i : Nat) => .int (0 + (i : Int)), free⟩ (S ++ [.lst (pool.map D.str)] ++ [.lst []]) := range_1 _ (hrg _ (by omega) (by omega)) _ _ _ _ _
      rw [sSeq_nx s1, sSeq_nx s2, sSeq_nx (sFor_ok s3 hF)]
      exact sRet_ok rfl
    · have := hC.tr T P2
      intro x hx
      have := this x hx
      rwa [T.len] at this
    · show (if S.length + 1 < S.length then some (D.loc (S.length + 1)) else match lstOf S'[S.length + 1]? with
        | some ds => if nlts S.length ds = true then some (D.lst ds) else none
        | none => none) = _
      rw [if_neg (by omega), hf]
      show (if nlts S.length (found.map D.str) = true then some (D.lst (found.map D.str)) else none) = _
      rw [if_pos (nlts_strs _)]
  have hrun2 : b__law_names (runF 21) [some (.loc p), some (.int (m : Int)), none, none, none] S = .rt (.lst (found.map D.str)) (S'.take S.length) := by
    unfold b__law_names
    exact hrun
  have heq : ∀ ds S, runF 22 3 ds S = runB 5 (b__law_names (runF 21)) ds S := fun ds S => rfl
  rw [heq]
  generalize b__law_names (runF 21) = X at hrun2 ⊢
  exact runB_rt (N := 5) (ds := [.loc p, .int (m : Int)]) hrun2
end K04

set_option Elab.async false
set_option linter.all false
set_option maxRecDepth 100000
set_option maxHeartbeats 4000000
set_option exponentiation.threshold 2000
namespace K04
open PySem L2 Rf

open Pk (pool W Kd KOk chs nearK addC chs_snoc chs_keys)
def kD (k : Kd) : D := .tup [.str k.1, .str k.2.1, .tup (k.2.2.map D.str)]
theorem lcL_filt {g : MG} {mt : MT} {me : M} {ρ0 : Rho} {S : Sto} {p : D → Bool} : ∀ {ds acc : List D}, (∀ d ∈ ds, ∃ ρ1, g d ρ0 S = some (ρ1, S) ∧ mt ρ1 S = .ok (p d) S ∧ me ρ1 S = .ok d S) → acc.length + ds.length ≤ 1000000 →
    lcL free g mt me ρ0 ds acc S = .ok (acc ++ ds.filter p) S
  | [], acc, _, _ => by simp [lcL, free]
  | d :: ds, acc, h, hl => by
    obtain ⟨ρ1, h1, h2, h3⟩ := h d (List.mem_cons_self ..)
    rw [List.length_cons] at hl
    by_cases hp : p d = true
    · have ih := lcL_filt (p := p) (ds := ds) (acc := acc ++ [d]) (fun e he => h e (List.mem_cons_of_mem _ he)) (by rw [List.length_append]; simp; omega)
      rw [hp] at h2
      simp only [lcL, free, h1, optR, h2, Res.thn, h3, show acc.length < 1000000 by omega, and_self, if_true]
      show lcL free g mt me ρ0 ds (acc ++ [d]) S = _
      rw [ih, List.filter_cons_of_pos hp, List.append_assoc]
      rfl
    · have ih := lcL_filt (p := p) (ds := ds) (acc := acc) (fun e he => h e (List.mem_cons_of_mem _ he)) (by omega)
      have hp' : p d = false := by simpa using hp
      rw [hp'] at h2
      simp only [lcL, free, h1, optR, h2, Res.thn, show acc.length < 1000000 by omega, and_self, Bool.false_eq_true, if_true, if_false]
      show lcL free g mt me ρ0 ds acc S = _
      rw [ih, List.filter_cons_of_neg hp]
/-- names and how deep they stand -/
def dpl (ks : List Kd) : List (Key × D) := (Sum.inr "", .int 0) :: (chs ks).map fun c => (Sum.inr c.1, .int (c.2.length : Nat))
theorem val_map : ∀ (C : List (Str × List Str)) (o : Str), valD (C.map fun c => ((Sum.inr c.1 : Key), D.int (c.2.length : Nat))) (Sum.inr o) = (C.lookup o).map fun c => D.int (c.length : Nat)
  | [], o => rfl
  | p :: C, o => by
    rw [List.map_cons, valD, Pk.lk, val_map C o]
    by_cases h : p.1 = o
    · rw [if_pos (by rw [h]), if_pos (by simp [h])]
      rfl
    · rw [if_neg (fun e => h (Sum.inr.inj e)), if_neg (by simp; exact fun e => h e.symm)]
theorem near_none {ks : List Kd} (hk : ∀ k ∈ ks, k.1 ∈ pool) : nearK ks "" = [] := by
  unfold nearK
  rw [Pk.lookup_none (by
    rw [chs_keys]
    intro z
    obtain ⟨k, h1, h2⟩ := List.mem_map.mp z
    exact Pk.nil_pool (by rw [← h2]; exact hk k h1))]
  rfl
theorem val_dpl {ks : List Kd} {o : Str} (hk : ∀ k ∈ ks, k.1 ∈ pool) (ho : o = "" ∨ o ∈ ks.map (·.1)) : valD (dpl ks) (Sum.inr o) = some (.int ((nearK ks o).length : Nat)) := by
  unfold dpl
  rw [valD]
  by_cases h : o = ""
  · subst h
    rw [if_pos rfl, near_none hk]
    rfl
  · rw [if_neg (fun e => h (Sum.inr.inj e).symm), val_map]
    have hs : ((chs ks).lookup o).isSome = true := Pk.lookup_some (by rw [chs_keys]; exact ho.resolve_left h)
    obtain ⟨c, hc⟩ := Option.isSome_iff_exists.mp hs
    unfold nearK
    rw [hc]
    rfl
theorem put_dpl {ks : List Kd} {n : Str} {d : D} (h0 : n ≠ "") (hn : n ∉ ks.map (·.1)) : putD (dpl ks) (Sum.inr n) d = dpl ks ++ [(Sum.inr n, d)] := by
  unfold putD
  rw [if_neg]
  intro z
  obtain ⟨kv, h1, h2⟩ := List.any_eq_true.mp z
  have h2 := of_decide_eq_true h2
  rcases List.mem_cons.mp h1 with rfl | h1
  · exact h0 (Sum.inr.inj h2).symm
  · obtain ⟨c, hc, rfl⟩ := List.mem_map.mp h1
    have := Sum.inr.inj h2
    refine hn ?_
    rw [← chs_keys, ← this]
    exact List.mem_map_of_mem hc
theorem dpl_snoc {ks : List Kd} {n o : Str} {fs : List Str} : dpl (ks ++ [(n, o, fs)]) = dpl ks ++ [(Sum.inr n, .int (((nearK ks o).length + 1 : Nat) : Int))] := by
  unfold dpl
  rw [chs_snoc]
  show _ :: ((chs ks ++ [(n, nearK ks o ++ [n])]).map _) = _
  rw [List.map_append, List.cons_append]
  simp
abbrev nms (ks : List Kd) : List Str := "" :: ks.map (·.1)
theorem dpl_keys (ks : List Kd) : (dpl ks).map (fun kv => keyD kv.1) = (nms ks).map D.str := by
  unfold dpl
  rw [List.map_cons, List.map_map, List.map_cons, ← chs_keys, List.map_map]
  rfl
theorem dpl_lfs (ks : List Kd) : lfs ((dpl ks).map (·.2)) = true := by
  have key : ∀ C : List (Str × List Str), lfs ((C.map fun c => ((Sum.inr c.1 : Key), D.int (c.2.length : Nat))).map (·.2)) = true := by
    intro C
    induction C with
    | nil => rfl
    | cons c C ih => rw [List.map_cons, List.map_cons, lfs, ih]; rfl
  unfold dpl
  rw [List.map_cons, lfs, key]
  rfl
def fitD (ks : List Kd) : D → Bool
  | .str o => decide (((nearK ks o).length : Int) < 3)
  | _ => false
/-- the names that a kind may stand in -/
theorem outers_ok {ks : List Kd} {S : Sto} {p n : Nat} {x3 x4 x5 : Option D} (hk : ∀ k ∈ ks, k.1 ∈ pool) (hl : ks.length ≤ 4) (hS : S[n + 1]? = some (.dk (dpl ks))) :
    mStill 2 (mLc (mKeys (mV 2)) (gV 5) (mB (mOp dLt (mDGet (mV 2) (mV 5)) (mC (.int 3)))) (mV 5) (([("_law_one", 5)] : List (Str × Nat)).map (·.2))) [some (.loc p), some (.loc n), some (.loc (n + 1)), x3, x4, x5] S = .ok (.lst (((nms ks).map D.str).filter (fitD ks))) S := by
  have hin : ∀ ρ : Rho, ρ[2]? = some (some (.fdk (dpl ks))) → ρ.length = 6 → (mLc (mKeys (mV 2)) (gV 5) (mB (mOp dLt (mDGet (mV 2) (mV 5)) (mC (.int 3)))) (mV 5) (([("_law_one", 5)] : List (Str × Nat)).map (·.2))) ρ [] = .ok (.lst (((nms ks).map D.str).filter (fitD ks))) [] := fun ρ h2 hlen => by
    obtain ⟨a0, a1, a2, a3, a4, a5, rfl⟩ : ∃ a0 a1 a2 a3 a4 a5, ρ = [a0, a1, a2, a3, a4, a5] := by
      match ρ, hlen with
      | [a0, a1, a2, a3, a4, a5], _ => exact ⟨a0, a1, a2, a3, a4, a5, rfl⟩
    cases h2
    have hL := lcL_filt (g := gV 5) (mt := (mB (mOp dLt (mDGet (mV 2) (mV 5)) (mC (.int 3))))) (me := mV 5) (ρ0 := [a0, a1, some (.fdk (dpl ks)), a3, a4, none]) (S := []) (p := fitD ks) (ds := (nms ks).map D.str) (acc := []) (fun d hd => by
      obtain ⟨o, ho, rfl⟩ := List.mem_map.mp hd
      have hv := val_dpl hk (o := o) (by
        rcases List.mem_cons.mp ho with z | z
        · exact .inl z
        · exact .inr z)
      refine ⟨_, rfl, ?_, rfl⟩
      simp only [mB, mOp, mDGet, mV, mC, List.map_cons, List.map_nil, List.replicate, List.cons_append, List.nil_append, List.getElem?_cons_zero, List.getElem?_cons_succ, List.set_cons_zero, List.set_cons_succ, List.length_cons, List.length_nil, Res.bnd, dkOf, Rf.keyOf, hv, dLt, cmpI]
      rfl) (by simp; omega)
    unfold mLc
    have hm : mKeys (mV 2) [a0, a1, some (.fdk (dpl ks)), a3, a4, a5] [] = .ok ⟨(nms ks).map D.str, free⟩ [] := by
      rw [← dpl_keys]
      rfl
    rw [hm]
    show (lcL free (gV 5) (mB (mOp dLt (mDGet (mV 2) (mV 5)) (mC (.int 3)))) (mV 5) [a0, a1, some (.fdk (dpl ks)), a3, a4, none] _ [] []).thn _ = _
    rw [hL]
    rfl
  generalize (mLc (mKeys (mV 2)) (gV 5) (mB (mOp dLt (mDGet (mV 2) (mV 5)) (mC (.int 3)))) (mV 5) (([("_law_one", 5)] : List (Str × Nat)).map (·.2))) = L at hin ⊢
  have h9 := hin (onlyS 2 (dpl ks) [some (.loc p), some (.loc n), some (.loc (n + 1)), x3, x4, x5]) rfl rfl
  unfold mStill
  have e2 : ([some (.loc p), some (.loc n), some (.loc (n + 1)), x3, x4, x5] : Rho)[2]? = some (some (.loc (n + 1))) := rfl
  rw [e2]
  simp only [hS]
  rw [if_pos (dpl_lfs ks), h9]
  show (if List.all (((nms ks).map D.str).filter (fitD ks)) plainD = true then Res.ok (D.lst _) S else .stuck) = _
  rw [if_pos]
  refine List.all_eq_true.mpr fun d hd => ?_
  obtain ⟨o, _, rfl⟩ := List.mem_map.mp (List.mem_filter.mp hd).1
  rfl
end K04

set_option Elab.async false
set_option linter.all false
set_option maxRecDepth 100000
set_option maxHeartbeats 4000000
set_option exponentiation.threshold 2000
namespace K04
open PySem L2 Rf

open Pk (pool W Kd KOk chs nearK addC chs_snoc chs_keys)
mutual
theorem nlt_up {n m : Nat} (h : n ≤ m) : ∀ (d : D), nlt n d = true → nlt m d = true
  | .non, _ => by rw [nlt]
  | .bl _, _ => by rw [nlt]
  | .int _, _ => by rw [nlt]
  | .str _, _ => by rw [nlt]
  | .ty _, _ => by rw [nlt]
  | .cl _, _ => by rw [nlt]
  | .sti _, _ => by rw [nlt]
  | .fdk _, e => by rw [nlt] at e; cases e
  | .tup ds, e => by rw [nlt] at e ⊢; exact nlts_up h ds e
  | .lst ds, e => by rw [nlt] at e ⊢; exact nlts_up h ds e
  | .fro ds, e => by rw [nlt] at e ⊢; exact nlts_up h ds e
  | .dk kvs, e => by rw [nlt] at e ⊢; exact nltK_up h kvs e
  | .dt kvs, e => by rw [nlt] at e ⊢; exact e
  | .ins _ _, e => by rw [nlt] at e; cases e
  | .loc k, e => by rw [nlt] at e ⊢; exact decide_eq_true (Nat.lt_of_lt_of_le (of_decide_eq_true e) h)
theorem nlts_up {n m : Nat} (h : n ≤ m) : ∀ (ds : List D), nlts n ds = true → nlts m ds = true
  | [], _ => by rw [nlts]
  | d :: ds, e => by
    rw [nlts, Bool.and_eq_true] at e ⊢
    exact ⟨nlt_up h d e.1, nlts_up h ds e.2⟩
theorem nltK_up {n m : Nat} (h : n ≤ m) : ∀ (ds : List (Key × D)), nltK n ds = true → nltK m ds = true
  | [], _ => by rw [nltK]
  | d :: ds, e => by
    rw [nltK, Bool.and_eq_true] at e ⊢
    exact ⟨nlt_up h d.2 e.1, nltK_up h ds e.2⟩
end
theorem kD_nlt {n : Nat} (k : Kd) : nlt n (kD k) = true := by
  unfold kD
  simp only [nlt, nlts, nlts_strs, Bool.and_self, Bool.and_true]
theorem kDs_nlt {n : Nat} : ∀ ks : List Kd, nlts n (ks.map kD) = true
  | [] => rfl
  | k :: ks => by rw [List.map_cons, nlts, kD_nlt, kDs_nlt ks]; rfl
theorem dpl_nlt {n : Nat} (ks : List Kd) : nlt n (.dk (dpl ks)) = true := by
  have key : ∀ C : List (Str × List Str), nltK n (C.map fun c => ((Sum.inr c.1 : Key), D.int (c.2.length : Nat))) = true := by
    intro C
    induction C with
    | nil => rfl
    | cons c C ih => rw [List.map_cons, nltK, ih]; rfl
  rw [nlt]
  unfold dpl
  rw [nltK, key]
  rfl
structure KnR (p n : Nat) (S S' : Sto) (b c : Int) (nm : List Str) (j : Nat) (ks : List Kd) : Prop where
  f : S'[n]? = some (.lst (ks.map kD))
  d : S'[n + 1]? = some (.dk (dpl ks))
  ok : KOk ks
  l : ks.length = j
  nms : ks.map (·.1) = nm.take j
  len : S'.length = n + 2
  old : ∀ i, i < n → i ≠ p → S'[i]? = S[i]?
  pot : ∃ a, Pot S' p a b c
theorem cl_two {p n : Nat} {S S' : Sto} {a b c : Int} {x y : D} (hC : Cl S) (hn : S.length = n) (hp : p < n) (hl : S'.length = n + 2) (old : ∀ i, i < n → i ≠ p → S'[i]? = S[i]?) (P : Pot S' p a b c) (h1 : S'[n]? = some x) (h2 : S'[n + 1]? = some y) (hx : nlt (n + 2) x = true) (hy : nlt (n + 2) y = true) : Cl S' := fun d hd => by
  obtain ⟨i, hi, e⟩ := List.getElem_of_mem hd
  have e : S'[i]? = some d := by rw [List.getElem?_eq_getElem hi, e]
  rw [hl] at hi ⊢
  by_cases h : i < n
  · by_cases hip : i = p
    · subst hip
      rw [P.at_] at e
      cases e
      exact pot_nlt
    · rw [old i h hip] at e
      exact nlt_up (by omega) d (hC d (List.mem_of_getElem? e))
  · by_cases h3 : i = n
    · subst h3
      rw [h1] at e
      cases e
      exact hx
    · have h4 : i = n + 1 := by omega
      subst h4
      rw [h2] at e
      cases e
      exact hy
theorem kind_turn {p n j : Nat} {S S' : Sto} {b c : Int} {nm : List Str} {ks : List Kd} {x4 x5 : Option D} (hC : Cl S) (hn : S.length = n) (hp : p < n) (h : KnR p n S S' b c nm j ks) (hnd : nm.Nodup) (hpl : ∀ w ∈ nm, w ∈ pool) (hl4 : nm.length ≤ 4) (hj : j < nm.length) (c1 : c < 800000) :
    ∃ (ks' : List Kd) (y4 : Option D) (S1 : Sto) (c' : Int), (sSeq (sAsg (mA (runF 22 2) (mCons (mV 0) (mCons (mStill 2 (mLc (mKeys (mV 2)) (gV 5) (mB (mOp dLt (mDGet (mV 2) (mV 5)) (mC (.int 3)))) (mV 5) (([("_law_one", 5)] : List (Str × Nat)).map (·.2)))) mNil))) (gV 4))
    (sSeq (sAsg (mOp dAddL (mDGet (mV 2) (mV 4)) (mC (.int 1))) (gDk (mV 2) (mV 3)))
    (sExpr (mApp (mV 1) (mTup (mCons (mV 3) (mCons (mV 4) (mCons (mA bTuple (mCons (mA (runF 22 3) (mCons (mV 0) (mCons (mA (runF 22 1) (mCons (mV 0) (mCons (mC (.int 3)) mNil))) mNil))) mNil)) mNil)))))))) [some (.loc p), some (.loc n), some (.loc (n + 1)), some (.str nm[j]), x4, x5] S' = .nx [some (.loc p), some (.loc n), some (.loc (n + 1)), some (.str nm[j]), y4, x5] S1 ∧ KnR p n S S1 b c' nm (j + 1) ks' ∧ c' ≤ c + 5 := by
  obtain ⟨hf, hd, ok, hl, hnms, hlen, old, a, P⟩ := h
  have hk := ok.names
  have hS := outers_ok (S := S') (p := p) (x3 := some (.str nm[j])) (x4 := x4) (x5 := x5) hk (by omega) hd
  have hmem0 : D.str "" ∈ ((nms ks).map D.str).filter (fitD ks) := by
    refine List.mem_filter.mpr ⟨List.mem_map.mpr ⟨"", List.mem_cons_self .., rfl⟩, ?_⟩
    show decide (((nearK ks "").length : Int) < 3) = true
    rw [near_none hk]
    rfl
  have hlen2 : (((nms ks).map D.str).filter (fitD ks)).length ≤ 5 := by
    refine Nat.le_trans (List.length_filter_le _ _) ?_
    simp
    omega
  obtain ⟨v, S1, a1, c2, e1, hm, P1, hc1, T1⟩ := of' (k := 20) (xs := ((nms ks).map D.str).filter (fitD ks)) P (List.length_pos_of_mem hmem0) (by omega) (by omega)
  have e1 : runF 22 2 [.loc p, .lst (((nms ks).map D.str).filter (fitD ks))] S' = _ := e1
  obtain ⟨hm1, hm2⟩ := List.mem_filter.mp hm
  obtain ⟨o, ho, rfl⟩ := List.mem_map.mp hm1
  have ho' : o = "" ∨ o ∈ ks.map (·.1) := List.mem_cons.mp ho
  have h3 : (nearK ks o).length < 3 := by
    have := of_decide_eq_true (show decide (((nearK ks o).length : Int) < 3) = true from hm2)
    omega
  have hval := val_dpl hk ho'
  have hd1 : S1[n + 1]? = some (.dk (dpl ks)) := by rw [T1.old _ (by omega)]; exact hd
  have hf1 : S1[n]? = some (.lst (ks.map kD)) := by rw [T1.old _ (by omega)]; exact hf
  have hnmp : nm[j] ∈ pool := hpl _ (List.getElem_mem hj)
  have hnm0 : nm[j] ≠ "" := (Pk.pool_W hnmp).no.2.2.2.1
  have hnn : nm[j] ∉ ks.map (·.1) := by
    rw [hnms]
    intro z
    obtain ⟨i, hi, e⟩ := List.getElem_of_mem z
    rw [List.length_take] at hi
    rw [List.getElem_take] at e
    have := (List.getElem_inj hnd).mp e
    omega
  have hput := put_dpl (ks := ks) (n := nm[j]) (d := .int (((nearK ks o).length : Nat) + 1)) hnm0 hnn
  have hfewd : few (dpl ks).length = true := decide_eq_true (by
    have e : (dpl ks).length = ks.length + 1 := by
      have := congrArg List.length (dpl_keys ks)
      simpa using this
    omega)
  have hcast : (((nearK ks o).length : Nat) : Int) + 1 = (((nearK ks o).length + 1 : Nat) : Int) := by omega
  obtain ⟨S2, hS2⟩ : ∃ S2, S1.set (n + 1) (.dk (dpl ks ++ [(Sum.inr nm[j], .int (((nearK ks o).length : Nat) + 1))])) = S2 := ⟨_, rfl⟩
  have hlen1 : S1.length = n + 2 := by rw [T1.len]; exact hlen
  have hd2 : S2[n + 1]? = some (.dk (dpl ks ++ [(Sum.inr nm[j], .int (((nearK ks o).length : Nat) + 1))])) := by rw [← hS2, List.getElem?_set_self (by omega)]
  have hf2 : S2[n]? = some (.lst (ks.map kD)) := by rw [← hS2, List.getElem?_set_ne (by omega)]; exact hf1
  have P2 : Pot S2 p a1 b c2 := by
    obtain ⟨z1, z2, z3, z4, z5, z6⟩ := P1
    exact ⟨by rw [← hS2, List.getElem?_set_ne (by omega)]; exact z1, z2, z3, z4, z5, z6⟩
  have hlen2' : S2.length = n + 2 := by rw [← hS2]; simpa using hlen1
  have old2 : ∀ i, i < n → i ≠ p → S2[i]? = S[i]? := fun i hi hip => by
    rw [← hS2, List.getElem?_set_ne (by omega), T1.old i hip]
    exact old i hi hip
  obtain ⟨t, S3, a3, c3, e3, t0, t1, P3, hc3, T3⟩ := take' (k := 21) (n := 3) P2 (by decide) (by decide) (by omega)
  have e3 : runF 22 1 [.loc p, .int 3] S2 = _ := e3
  obtain ⟨m, hmt⟩ : ∃ m : Nat, t = m := ⟨t.toNat, by omega⟩
  subst hmt
  have hd3 : S3[n + 1]? = some (.dk (dpl ks ++ [(Sum.inr nm[j], .int (((nearK ks o).length : Nat) + 1))])) := by rw [T3.old _ (by omega)]; exact hd2
  have hf3 : S3[n]? = some (.lst (ks.map kD)) := by rw [T3.old _ (by omega)]; exact hf2
  have hdk : ∀ fs, dpl ks ++ [(Sum.inr nm[j], D.int (((nearK ks o).length : Nat) + 1))] = dpl (ks ++ [(nm[j], o, fs)]) := fun fs => by rw [dpl_snoc, hcast]
  have C3 : Cl S3 := by
    refine cl_two hC hn hp (by rw [T3.len]; exact hlen2') (fun i hi hip => by rw [T3.old i hip]; exact old2 i hi hip) P3 hf3 hd3 (by rw [nlt]; exact kDs_nlt ks) ?_
    rw [hdk []]
    exact dpl_nlt _
  obtain ⟨ws, S4, a4, c4, e4, w1, w2, w3, P4, hc4, T4⟩ := names_ok (m := m) P3 C3 (by omega) (by omega)
  have hd4 : S4[n + 1]? = some (.dk (dpl ks ++ [(Sum.inr nm[j], .int (((nearK ks o).length : Nat) + 1))])) := by rw [T4.old _ (by omega)]; exact hd3
  have hf4 : S4[n]? = some (.lst (ks.map kD)) := by rw [T4.old _ (by omega)]; exact hf3
  have hlen4 : S4.length = n + 2 := by rw [T4.len, T3.len]; exact hlen2'
  have fewk : few (ks.map kD).length = true := decide_eq_true (by rw [List.length_map]; omega)
  have few3 : few 3 = true := rfl
  refine ⟨ks ++ [(nm[j], o, ws)], some (.str o), S4.set n (.lst (ks.map kD ++ [.tup [.str nm[j], .str o, .tup (ws.map D.str)]])), c4, ?_, ⟨?_, ?_, ?_, ?_, ?_, ?_, ?_, a4, ?_⟩, by omega⟩
  · generalize (mStill 2 (mLc (mKeys (mV 2)) (gV 5) (mB (mOp dLt (mDGet (mV 2) (mV 5)) (mC (.int 3)))) (mV 5) (([("_law_one", 5)] : List (Str × Nat)).map (·.2)))) = MS at hS ⊢
    generalize ((nms ks).map D.str).filter (fitD ks) = XS at hS e1 ⊢
    simp only [runB, sNil, sSeq, sPass, sRet, sRetN, sExpr, sIf, sAsg, sPar, sFor, outI, forL, stepL, turnL, gV, gIx, gTp, gsCons, gsNil, mV, mC, mOp, mU, mA, mCons, mNil, mTup, mLst, mLstC, mDict0, mSl, mPart, mNoP, mB, mAnd, mOr, mNot, mAndV, mOrV, mNotV, mIf, mChain, mVal, mRange1, mRange2, mLc, mYes, bndI, wipeR, lcL, optR, Res.thn, Res.bnd, Res.out, Rf.cellOf, Rf.intOf, Rf.lstOf, seqOf, srcOf, free, dIx, dSl, dBack, dNeg, dUpper, dAdd, dSub, dMul, dMod, dDiv, dPow, cmpI, dLt, dLe, dGt, dGe, dEq, dNe, dIn, dNotIn, dIsN, dNotN, ofB, bIsi, bLen, lenOf, bInt, bAbs, bMax2, bMin2, bList, bTuple, bAllAny, bRepr, bSet, bSorted, tyOf, mJoin, mApp, bListS, mDGet, gDk, dkOf, Rf.keyOf, List.map_cons, List.map_nil, List.replicate, List.cons_append, List.nil_append, List.getElem?_cons_zero, List.getElem?_cons_succ, List.set_cons_zero, List.set_cons_succ, List.length_cons, List.length_nil, hS, e1, hd1, hval, hput, hfewd, hS2, hf2, e3, e4, hf4, fewk, few3, Nat.reduceAdd, Option.isSome_some, dAddL, lsOf, ↓reduceIte]
  · rw [List.getElem?_set_self (by omega), List.map_append]
    rfl
  · rw [List.getElem?_set_ne (by omega), hd4, hdk ws]
  · exact .snoc ok (by omega) hnmp hnn ho' h3 w3 w2 (by omega)
  · simp [hl]
  · rw [List.map_append, hnms, List.take_succ, List.getElem?_eq_getElem hj]
    rfl
  · simpa using hlen4
  · intro i hi hip
    rw [List.getElem?_set_ne (by omega), T4.old i hip, T3.old i hip]
    exact old2 i hi hip
  · obtain ⟨z1, z2, z3, z4, z5, z6⟩ := P4
    exact ⟨by rw [List.getElem?_set_ne (by omega)]; exact z1, z2, z3, z4, z5, z6⟩
end K04

set_option Elab.async false
set_option linter.all false
set_option maxRecDepth 100000
set_option maxHeartbeats 4000000
set_option exponentiation.threshold 2000
namespace K04
open PySem L2 Rf

open Pk (pool W Kd KOk chs nearK addC chs_snoc chs_keys)
/-- the kinds that are told -/
theorem kinds_ok {p : Nat} {S : Sto} {a b c : Int} (h : Pot S p a b c) (hC : Cl S) (c1 : c < 700000) :
    ∃ (ks : List Kd) (S1 : Sto) (a' c' : Int), runF 23 4 [.loc p] S = .ok (.lst (ks.map kD)) S1 ∧ KOk ks ∧ 1 ≤ ks.length ∧ ks.length ≤ 4 ∧ Pot S1 p a' b c' ∧ c' ≤ c + 25 ∧ Tr p S S1 := by
  have hp := h.lt
  obtain ⟨S0, hS0⟩ : ∃ S0, S ++ [D.lst []] ++ [D.dk [(Sum.inr "", .int 0)]] = S0 := ⟨_, rfl⟩
  have hl1 : (S ++ [D.lst []]).length = S.length + 1 := by simp
  have a0 : S0[S.length]? = some (.lst []) := by
    rw [← hS0, List.getElem?_append_left (by simp)]; simp
  have a1 : S0[S.length + 1]? = some (.dk [(Sum.inr "", .int 0)]) := by
    have : S.length + 1 = (S ++ [D.lst []]).length := by simp
    rw [← hS0, this, get_new]
  have aO : ∀ i, i < S.length → S0[i]? = S[i]? := fun i hi => by
    rw [← hS0, List.getElem?_append_left (by simp; omega), List.getElem?_append_left hi]
  have aL : S0.length = S.length + 2 := by rw [← hS0]; simp
  have P0 : Pot S0 p a b c := by
    obtain ⟨z1, z2, z3, z4, z5, z6⟩ := h
    exact ⟨by rw [aO p hp]; exact z1, z2, z3, z4, z5, z6⟩
  obtain ⟨t, S2, a2, c2, e2, t0, t1, P2, hc2, T2⟩ := take' (k := 21) (n := 4) P0 (by decide) (by decide) (by omega)
  have e2 : runF 22 1 [.loc p, .int 4] S0 = _ := e2
  obtain ⟨m, hmt⟩ : ∃ m : Nat, 1 + t = m := ⟨(1 + t).toNat, by omega⟩
  have C2 : Cl S2 := cl_two (x := .lst []) (y := .dk (dpl [])) hC rfl hp (by rw [T2.len]; exact aL) (fun i hi hip => by rw [T2.old i hip]; exact aO i hi) P2 (by rw [T2.old _ (by omega)]; exact a0) (by rw [T2.old _ (by omega)]; exact a1) rfl (dpl_nlt [])
  obtain ⟨ws, S3, a3, c3, e3, w1, w2, w3, P3, hc3, T3⟩ := names_ok (m := m) P2 C2 (by omega) (by omega)
  have T := T2.trans T3
  have hK : KnR p S.length S S3 b c3 ws 0 [] := by
    refine ⟨by rw [T.old _ (by omega)]; exact a0, by rw [T.old _ (by omega)]; exact a1, .nil, rfl, rfl, by rw [T.len]; exact aL, fun i hi hip => by rw [T.old i hip]; exact aO i hi, a3, P3⟩
  have hB := fun {j : Nat} {S' : Sto} {c : Int} {ks : List Kd} {x4 x5 : Option D} (h : KnR p S.length S S' b c ws j ks) (hj : j < ws.length) (c1 : c < 800000) => kind_turn (x4 := x4) (x5 := x5) hC rfl hp h w2 w3 (by omega) hj c1
  obtain ⟨ρ', S', ⟨x3, x4, x5, ks, c', rfl, hR, hc⟩, hF⟩ := forL_at (g := gV 3) (b := (sSeq (sAsg (mA (runF 22 2) (mCons (mV 0) (mCons (mStill 2 (mLc (mKeys (mV 2)) (gV 5) (mB (mOp dLt (mDGet (mV 2) (mV 5)) (mC (.int 3)))) (mV 5) (([("_law_one", 5)] : List (Str × Nat)).map (·.2)))) mNil))) (gV 4))
    (sSeq (sAsg (mOp dAddL (mDGet (mV 2) (mV 4)) (mC (.int 1))) (gDk (mV 2) (mV 3)))
    (sExpr (mApp (mV 1) (mTup (mCons (mV 3) (mCons (mV 4) (mCons (mA bTuple (mCons (mA (runF 22 3) (mCons (mV 0) (mCons (mA (runF 22 1) (mCons (mV 0) (mCons (mC (.int 3)) mNil))) mNil))) mNil)) mNil))))))))) (fun j ρ S' => ∃ x3 x4 x5 ks c', ρ = [some (.loc p), some (.loc S.length), some (.loc (S.length + 1)), x3, x4, x5] ∧ KnR p S.length S S' b c' ws j ks ∧ c' ≤ c + 5 + 5 * j)
    (ds := ws.map D.str) (ρ := [some (.loc p), some (.loc S.length), some (.loc (S.length + 1)), none, none, none]) (S := S3) ⟨none, none, none, [], c3, rfl, hK, by omega⟩ fun j d ρ S1 hd hR => by
    obtain ⟨x3, x4, x5, ks, c', rfl, hR, hc⟩ := hR
    rw [List.getElem?_map] at hd
    obtain ⟨w, hw, rfl⟩ := Option.map_eq_some_iff.mp hd
    obtain ⟨hj, rfl⟩ := List.getElem?_eq_some_iff.mp hw
    obtain ⟨ks', y4, S2, c2, e2, hR2, hc2⟩ := hB (x4 := x4) (x5 := x5) hR hj (by omega)
    exact ⟨_, _, _, _, rfl, e2, _, _, _, ks', c2, rfl, hR2, by omega⟩
  rw [List.length_map] at hR hc
  obtain ⟨hf, hd, ok, hl, hnms, hlen, old, a', P⟩ := hR
  obtain ⟨T', P'⟩ := Tr.cut (by omega) old hp P
  refine ⟨ks, S'.take S.length, a', c', ?_, ok, by omega, by omega, P', by omega, T'⟩
  have hrun : clean (sSeq (sAsg (mTup (mCons (mLstC mNil) (mCons (mDisp [""] (mCons (mC (.int 0)) mNil)) mNil))) (gTp 2 (gsCons (gV 1) (gsCons (gV 2) gsNil))))
    (sSeq (sFor (mVal (mA (runF 22 3) (mCons (mV 0) (mCons (mOp dAddL (mC (.int 1)) (mA (runF 22 1) (mCons (mV 0) (mCons (mC (.int 4)) mNil)))) mNil)))) (gV 3)
    (sSeq (sAsg (mA (runF 22 2) (mCons (mV 0) (mCons (mStill 2 (mLc (mKeys (mV 2)) (gV 5) (mB (mOp dLt (mDGet (mV 2) (mV 5)) (mC (.int 3)))) (mV 5) (([("_law_one", 5)] : List (Str × Nat)).map (·.2)))) mNil))) (gV 4))
    (sSeq (sAsg (mOp dAddL (mDGet (mV 2) (mV 4)) (mC (.int 1))) (gDk (mV 2) (mV 3)))
    (sExpr (mApp (mV 1) (mTup (mCons (mV 3) (mCons (mV 4) (mCons (mA bTuple (mCons (mA (runF 22 3) (mCons (mV 0) (mCons (mA (runF 22 1) (mCons (mV 0) (mCons (mC (.int 3)) mNil))) mNil))) mNil)) mNil)))))))))
    (sRet (mV 1)))) [some (.loc p), none, none, none, none, none] S = .rt (.lst (ks.map kD)) (S'.take S.length) := by
    refine clean_ok (d := .loc S.length) ?_ ?_ ?_
    · generalize (sSeq (sAsg (mA (runF 22 2) (mCons (mV 0) (mCons (mStill 2 (mLc (mKeys (mV 2)) (gV 5) (mB (mOp dLt (mDGet (mV 2) (mV 5)) (mC (.int 3)))) (mV 5) (([("_law_one", 5)] : List (Str × Nat)).map (·.2)))) mNil))) (gV 4))
    (sSeq (sAsg (mOp dAddL (mDGet (mV 2) (mV 4)) (mC (.int 1))) (gDk (mV 2) (mV 3)))
    (sExpr (mApp (mV 1) (mTup (mCons (mV 3) (mCons (mV 4) (mCons (mA bTuple (mCons (mA (runF 22 3) (mCons (mV 0) (mCons (mA (runF 22 1) (mCons (mV 0) (mCons (mC (.int 3)) mNil))) mNil))) mNil)) mNil)))))))) = BB at hF ⊢
      have s1 : (sAsg (mTup (mCons (mLstC mNil) (mCons (mDisp [""] (mCons (mC (.int 0)) mNil)) mNil))) (gTp 2 (gsCons (gV 1) (gsCons (gV 2) gsNil)))) [some (.loc p), none, none, none, none, none] S = .nx [some (.loc p), some (.loc S.length), some (.loc (S.length + 1)), none, none, none] S0 := by
        rw [← hS0, ← hl1]
        rfl
      have s2 : (mVal (mA (runF 22 3) (mCons (mV 0) (mCons (mOp dAddL (mC (.int 1)) (mA (runF 22 1) (mCons (mV 0) (mCons (mC (.int 4)) mNil)))) mNil)))) [some (.loc p), some (.loc S.length), some (.loc (S.length + 1)), none, none, none] S0 = .ok ⟨ws.map D.str, free⟩ S3 := by
        have hd : dAddL (.int 1) (.int t) S2 = .ok (.int m) S2 := by rw [← hmt]; rfl
        simp only [mVal, mA, mCons, mNil, mOp, mV, mC, Res.bnd, List.getElem?_cons_zero, e2, hd, e3]
        rfl
      rw [sSeq_nx s1, sSeq_nx (sFor_ok s2 hF)]
      exact sRet_ok rfl
    · have := hC.tr T' P'
      intro x hx
      have := this x hx
      rwa [T'.len] at this
    · show (if S.length < S.length then some (D.loc S.length) else match lstOf S'[S.length]? with
        | some ds => if nlts S.length ds = true then some (D.lst ds) else none
        | none => none) = _
      rw [if_neg (by omega), hf]
      show (if nlts S.length (ks.map kD) = true then some (D.lst (ks.map kD)) else none) = _
      rw [if_pos (kDs_nlt _)]
  have hrun2 : b__law_kinds (runF 22) [some (.loc p), none, none, none, none, none] S = .rt (.lst (ks.map kD)) (S'.take S.length) := by
    unfold b__law_kinds
    exact hrun
  have heq : ∀ ds S, runF 23 4 ds S = runB 6 (b__law_kinds (runF 22)) ds S := fun ds S => rfl
  rw [heq]
  generalize b__law_kinds (runF 22) = X at hrun2 ⊢
  exact runB_rt (N := 6) (ds := [.loc p]) hrun2
end K04

set_option Elab.async false
set_option linter.all false
set_option maxRecDepth 100000
set_option maxHeartbeats 4000000
set_option exponentiation.threshold 2000
namespace K04
open PySem L2 Rf

open Pk (pool W Kd KOk chs nearK addC chs_snoc chs_keys)
theorem lcL_fm {g : MG} {mt : MT} {me : M} {ρ0 : Rho} {S : Sto} {p : D → Bool} {f : D → D} : ∀ {ds acc : List D}, (∀ d ∈ ds, ∃ ρ1, g d ρ0 S = some (ρ1, S) ∧ mt ρ1 S = .ok (p d) S ∧ (p d = true → me ρ1 S = .ok (f d) S)) → acc.length + ds.length ≤ 1000000 →
    lcL free g mt me ρ0 ds acc S = .ok (acc ++ (ds.filter p).map f) S
  | [], acc, _, _ => by simp [lcL, free]
  | d :: ds, acc, h, hl => by
    obtain ⟨ρ1, h1, h2, h3⟩ := h d (List.mem_cons_self ..)
    rw [List.length_cons] at hl
    by_cases hp : p d = true
    · have ih := lcL_fm (p := p) (f := f) (ds := ds) (acc := acc ++ [f d]) (fun e he => h e (List.mem_cons_of_mem _ he)) (by rw [List.length_append]; simp; omega)
      have h3 := h3 hp
      rw [hp] at h2
      simp only [lcL, free, h1, optR, h2, Res.thn, h3, show acc.length < 1000000 by omega, and_self, if_true]
      show lcL free g mt me ρ0 ds (acc ++ [f d]) S = _
      rw [ih, List.filter_cons_of_pos hp, List.map_cons, List.append_assoc]
      rfl
    · have ih := lcL_fm (p := p) (f := f) (ds := ds) (acc := acc) (fun e he => h e (List.mem_cons_of_mem _ he)) (by omega)
      have hp' : p d = false := by simpa using hp
      rw [hp'] at h2
      simp only [lcL, free, h1, optR, h2, Res.thn, show acc.length < 1000000 by omega, and_self, Bool.false_eq_true, if_true, if_false]
      show lcL free g mt me ρ0 ds acc S = _
      rw [ih, List.filter_cons_of_neg hp]
theorem near_old {ks : List Kd} {n o x : Str} {fs : List Str} (h : x ≠ n) : nearK (ks ++ [(n, o, fs)]) x = nearK ks x := by
  unfold nearK
  rw [chs_snoc]
  unfold addC
  rw [Pk.lookup_app]
  have e : ([(n, ((chs ks).lookup o).getD [] ++ [n])] : List (Str × List Str)).lookup x = none := by
    rw [Pk.lk, if_neg (by simpa using h)]
    rfl
  show ((_ : Option (List Str)).or (List.lookup x [(n, _)])).getD [] = _
  rw [e, Option.or_none]
theorem near_new {ks : List Kd} {n o : Str} {fs : List Str} (h : n ∉ ks.map (·.1)) : nearK (ks ++ [(n, o, fs)]) n = nearK ks o ++ [n] := by
  unfold nearK
  rw [chs_snoc]
  unfold addC
  rw [Pk.lookup_app, Pk.lookup_none (by rw [chs_keys]; exact h)]
  show ((none : Option (List Str)).or (List.lookup n [(n, _)])).getD [] = _
  rw [Pk.lk, if_pos (by simp)]
  rfl
/-- what a kind stands in -/
theorem kd_of {ks : List Kd} (ok : KOk ks) {x : Str} (h : x ∈ ks.map (·.1)) : ∃ o, (ks.filter fun k => k.1 == x).map (·.2.1) = [o] ∧ (o = "" ∨ o ∈ ks.map (·.1)) ∧ nearK ks x = nearK ks o ++ [x] := by
  induction ok with
  | nil => cases h
  | @snoc ks n o fs ok h1 h2 h3 h4 h5 h6 h7 h8 ih =>
    have hn0 : n ≠ "" := (Pk.pool_W h2).no.2.2.2.1
    have hon : o ≠ n := by
      rintro rfl
      rcases h4 with z | z
      · exact hn0 z
      · exact h3 z
    have h4' : o = "" ∨ o ∈ (ks ++ [(n, o, fs)]).map (·.1) := h4.imp id fun z => by rw [List.map_append]; exact List.mem_append_left _ z
    rw [List.filter_append, List.map_append]
    by_cases hx : x = n
    · subst hx
      refine ⟨o, ?_, h4', by rw [near_new h3, near_old hon]⟩
      have e : ks.filter (fun k => k.1 == x) = [] := List.filter_eq_nil_iff.mpr fun k hk z => h3 (by
        have z : k.1 = x := by simpa using z
        rw [← z]
        exact List.mem_map_of_mem hk)
      rw [e, List.filter_cons_of_pos (by simp)]
      rfl
    · have hx' : x ∈ ks.map (·.1) := by
        rw [List.map_append] at h
        rcases List.mem_append.mp h with z | z
        · exact z
        · simp at z; exact absurd z hx
      obtain ⟨o', e1, e2, e3⟩ := ih hx'
      have e4 : o' ≠ n := by
        rintro rfl
        rcases e2 with z | z
        · exact hn0 z
        · exact h3 z
      refine ⟨o', ?_, e2.imp id fun z => by rw [List.map_append]; exact List.mem_append_left _ z, by rw [near_old hx, near_old e4, e3]⟩
      rw [e1, List.filter_cons_of_neg (by simp; exact fun z => hx z.symm)]
      rfl
theorem near_len {ks : List Kd} (ok : KOk ks) (x : Str) : (nearK ks x).length ≤ 3 := by
  induction ok with
  | nil => exact Nat.zero_le _
  | @snoc ks n o fs ok h1 h2 h3 h4 h5 h6 h7 h8 ih =>
    by_cases hx : x = n
    · subst hx
      rw [near_new h3, List.length_append]
      unfold nearK
      show _ + 1 ≤ 3
      omega
    · rw [near_old hx]; exact ih
theorem ok_pool : pool.all (fun w => PyData.strOk w) = true := by decide +kernel
theorem ne_nm {S : Sto} {x : Str} (h : x = "" ∨ x ∈ pool) : neD S (.str x) (.str "") = some (!decide (x = "")) := by
  refine ne_strs ?_ (by decide +kernel)
  rcases h with rfl | h
  · decide +kernel
  · exact List.all_eq_true.mp ok_pool x h
/-- the outer one of a kind -/
theorem outer_ok {ks : List Kd} (ok : KOk ks) {x : Str} (h : x ∈ ks.map (·.1)) (hl : ks.length ≤ 4) {q : Nat} {S : Sto} {kv : List (Key × D)} {x2 x3 x4 x5 : Option D} (hS : S[q]? = some (.dk kv)) (hv : valD kv (Sum.inr "kinds") = some (.lst (ks.map kD))) :
    ∃ o, (mLc (mVal (mDGet (mV 0) (mC (.str "kinds")))) (gTp 3 (gsCons (gV 3) (gsCons (gV 4) (gsCons (gV 5) gsNil)))) (mB (mOp dEqS (mV 3) (mV 1))) (mV 4) (([("_law_name", 3), ("_law_outer", 4), ("_law_fields", 5)] : List (Str × Nat)).map (·.2))) [some (.loc q), some (.str x), x2, x3, x4, x5] S = .ok (.lst [.str o]) S ∧ (o = "" ∨ o ∈ ks.map (·.1)) ∧ nearK ks x = nearK ks o ++ [x] := by
  obtain ⟨o, e1, e2, e3⟩ := kd_of ok h
  refine ⟨o, ?_, e2, e3⟩
  have hm : mVal (mDGet (mV 0) (mC (.str "kinds"))) [some (.loc q), some (.str x), x2, x3, x4, x5] S = .ok ⟨ks.map kD, free⟩ S := by
    simp only [mVal, mDGet, mV, mC, Res.bnd, List.getElem?_cons_zero, dkOf, hS, Rf.keyOf, hv, srcOf]
  have hL := lcL_fm (g := (gTp 3 (gsCons (gV 3) (gsCons (gV 4) (gsCons (gV 5) gsNil))))) (mt := (mB (mOp dEqS (mV 3) (mV 1)))) (me := mV 4) (ρ0 := [some (.loc q), some (.str x), x2, none, none, none]) (S := S)
    (p := fun d => match d with
      | .tup (.str n :: _) => n == x
      | _ => false) (f := fun d => match d with
      | .tup [_, d, _] => d
      | d => d) (ds := ks.map kD) (acc := []) (fun d hd => by
    obtain ⟨k, hk, rfl⟩ := List.mem_map.mp hd
    exact ⟨[some (.loc q), some (.str x), x2, some (.str k.1), some (.str k.2.1), some (.tup (k.2.2.map D.str))], rfl, rfl, fun _ => rfl⟩) (by simp; omega)
  have hf : ∀ l : List Kd, ((l.map kD).filter (fun d => match d with
      | .tup (.str n :: _) => n == x
      | _ => false)).map (fun d => match d with
      | .tup [_, d, _] => d
      | d => d) = ((l.filter fun k => k.1 == x).map (·.2.1)).map D.str := by
    intro l
    induction l with
    | nil => rfl
    | cons k l ih =>
      rw [List.map_cons]
      by_cases hk : (k.1 == x) = true
      · rw [List.filter_cons_of_pos (by exact hk), List.filter_cons_of_pos (p := fun k : Kd => k.1 == x) hk, List.map_cons, List.map_cons, List.map_cons, ih]
        rfl
      · rw [List.filter_cons_of_neg (by exact hk), List.filter_cons_of_neg (p := fun k : Kd => k.1 == x) hk, ih]
  rw [hf, e1] at hL
  unfold mLc
  rw [hm]
  show (lcL free (gTp 3 (gsCons (gV 3) (gsCons (gV 4) (gsCons (gV 5) gsNil)))) (mB (mOp dEqS (mV 3) (mV 1))) (mV 4) [some (.loc q), some (.str x), x2, none, none, none] _ [] S).thn _ = _
  rw [hL]
  rfl
theorem open_loop {ks : List Kd} (ok : KOk ks) (hl : ks.length ≤ 4) {q n : Nat} {kv : List (Key × D)} (hqn : q < n) (hv : valD kv (Sum.inr "kinds") = some (.lst (ks.map kD))) : ∀ (len : Nat) (x : Str) (acc : List Str) (S : Sto) (N : Nat), (x = "" ∨ x ∈ ks.map (·.1)) → (nearK ks x).length = len → len < N → S[q]? = some (.dk kv) → S[n]? = some (.lst (acc.map D.str)) → acc.length + len < 1000 →
    whileL N (mB (mOp dNe (mV 1) (mC (.str "")))) (sSeq (sExpr (mApp (mV 2) (mV 1)))
    (sAsg (mOp dIx (mLc (mVal (mDGet (mV 0) (mC (.str "kinds")))) (gTp 3 (gsCons (gV 3) (gsCons (gV 4) (gsCons (gV 5) gsNil)))) (mB (mOp dEqS (mV 3) (mV 1))) (mV 4) (([("_law_name", 3), ("_law_outer", 4), ("_law_fields", 5)] : List (Str × Nat)).map (·.2))) (mC (.int 0))) (gV 1))) [some (.loc q), some (.str x), some (.loc n), none, none, none] S = .nx [some (.loc q), some (.str ""), some (.loc n), none, none, none] (S.set n (.lst ((acc ++ (nearK ks x).reverse).map D.str))) := by
  intro len
  induction len with
  | zero =>
    intro x acc S N hx hlen hN hq hS ha
    have hx0 : x = "" := by
      rcases hx with z | z
      · exact z
      · obtain ⟨o, _, _, e⟩ := kd_of ok z
        rw [e] at hlen
        simp at hlen
    subst hx0
    obtain ⟨N, rfl⟩ : ∃ M, N = M + 1 := ⟨N - 1, by omega⟩
    have hc : (mB (mOp dNe (mV 1) (mC (.str "")))) [some (.loc q), some (.str ""), some (.loc n), none, none, none] S = .ok false S := by
      show (ofB S (neD S (.str "") (.str ""))).bnd _ = _
      rw [ne_nm (.inl rfl)]
      rfl
    unfold whileL
    rw [hc]
    have e0 : nearK ks "" = [] := List.eq_nil_of_length_eq_zero hlen
    show Out.nx _ S = _
    rw [e0, List.reverse_nil, List.append_nil]
    congr 1
    refine (List.ext_getElem? fun i => ?_)
    by_cases hi : i = n
    · subst hi
      rw [hS, List.getElem?_set_self (List.getElem?_eq_some_iff.mp hS).1]
    · rw [List.getElem?_set_ne (Ne.symm hi)]
  | succ len ih =>
    intro x acc S N hx hlen hN hq hS ha
    have hx1 : x ∈ ks.map (·.1) := by
      rcases hx with z | z
      · subst z
        rw [near_none ok.names] at hlen
        cases hlen
      · exact z
    have hxp : x ∈ pool := by
      obtain ⟨k, h1, h2⟩ := List.mem_map.mp hx1
      rw [← h2]
      exact ok.names k h1
    have hx0 : x ≠ "" := (Pk.pool_W hxp).no.2.2.2.1
    obtain ⟨N, rfl⟩ : ∃ M, N = M + 1 := ⟨N - 1, by omega⟩
    have hc : (mB (mOp dNe (mV 1) (mC (.str "")))) [some (.loc q), some (.str x), some (.loc n), none, none, none] S = .ok true S := by
      show (ofB S (neD S (.str x) (.str ""))).bnd _ = _
      rw [ne_nm (.inr hxp), decide_eq_false hx0]
      rfl
    have hnS : n < S.length := (List.getElem?_eq_some_iff.mp hS).1
    obtain ⟨S1, hS1⟩ : ∃ S1, S.set n (.lst ((acc ++ [x]).map D.str)) = S1 := ⟨_, rfl⟩
    have hq1 : S1[q]? = some (.dk kv) := by rw [← hS1, List.getElem?_set_ne (by omega)]; exact hq
    have hn1 : S1[n]? = some (.lst ((acc ++ [x]).map D.str)) := by rw [← hS1, List.getElem?_set_self hnS]
    obtain ⟨o, e1, e2, e3⟩ := outer_ok ok hx1 hl (x2 := some (.loc n)) (x3 := none) (x4 := none) (x5 := none) hq1 hv
    have ihh := ih o (acc ++ [x]) S1 N e2 (by rw [e3] at hlen; simpa using hlen) (by omega) hq1 hn1 (by rw [List.length_append, List.length_singleton]; omega)
    unfold whileL
    rw [hc]
    have hb : (sSeq (sExpr (mApp (mV 2) (mV 1)))
    (sAsg (mOp dIx (mLc (mVal (mDGet (mV 0) (mC (.str "kinds")))) (gTp 3 (gsCons (gV 3) (gsCons (gV 4) (gsCons (gV 5) gsNil)))) (mB (mOp dEqS (mV 3) (mV 1))) (mV 4) (([("_law_name", 3), ("_law_outer", 4), ("_law_fields", 5)] : List (Str × Nat)).map (·.2))) (mC (.int 0))) (gV 1))) [some (.loc q), some (.str x), some (.loc n), none, none, none] S = .nx [some (.loc q), some (.str o), some (.loc n), none, none, none] S1 := by
      have s1 : (sExpr (mApp (mV 2) (mV 1))) [some (.loc q), some (.str x), some (.loc n), none, none, none] S = .nx [some (.loc q), some (.str x), some (.loc n), none, none, none] S1 := by
        have hfew : few (acc.map D.str).length = true := decide_eq_true (by rw [List.length_map]; omega)
        simp only [sExpr, mApp, mV, Res.bnd, Res.out, List.getElem?_cons_zero, List.getElem?_cons_succ, hS, lstOf, Option.isSome_some, if_true, hfew]
        rw [← hS1, List.map_append]
        rfl
      rw [sSeq_nx s1]
      refine sAsg_ok (S1 := S1) (d := .str o) ?_ rfl
      generalize (mLc (mVal (mDGet (mV 0) (mC (.str "kinds")))) (gTp 3 (gsCons (gV 3) (gsCons (gV 4) (gsCons (gV 5) gsNil)))) (mB (mOp dEqS (mV 3) (mV 1))) (mV 4) (([("_law_name", 3), ("_law_outer", 4), ("_law_fields", 5)] : List (Str × Nat)).map (·.2))) = L at e1 ⊢
      show (L _ S1).bnd _ = _
      rw [e1]
      rfl
    generalize (sSeq (sExpr (mApp (mV 2) (mV 1)))
    (sAsg (mOp dIx (mLc (mVal (mDGet (mV 0) (mC (.str "kinds")))) (gTp 3 (gsCons (gV 3) (gsCons (gV 4) (gsCons (gV 5) gsNil)))) (mB (mOp dEqS (mV 3) (mV 1))) (mV 4) (([("_law_name", 3), ("_law_outer", 4), ("_law_fields", 5)] : List (Str × Nat)).map (·.2))) (mC (.int 0))) (gV 1))) = BB at hb ihh ⊢
    show (match BB _ S with
      | .nx ρ2 S2 => whileL N (mB (mOp dNe (mV 1) (mC (.str "")))) BB ρ2 S2
      | .ct ρ2 S2 => whileL N (mB (mOp dNe (mV 1) (mC (.str "")))) BB ρ2 S2
      | .bk ρ2 S2 => .nx ρ2 S2
      | o => o) = _
    rw [hb]
    show whileL N (mB (mOp dNe (mV 1) (mC (.str "")))) BB _ S1 = _
    rw [ihh, e3, ← hS1, List.set_set, List.reverse_append, List.append_assoc]
    rfl
end K04

set_option Elab.async false
set_option linter.all false
set_option maxRecDepth 100000
set_option maxHeartbeats 4000000
set_option exponentiation.threshold 2000
namespace K04
open PySem L2 Rf

open Pk (pool W Kd KOk chs nearK addC chs_snoc chs_keys ref)
theorem open_ok {k : Nat} {ks : List Kd} (ok : KOk ks) (hl : ks.length ≤ 4) {q : Nat} {S : Sto} {kv : List (Key × D)} {x : Str} (hC : Cl S) (hq : S[q]? = some (.dk kv)) (hv : valD kv (Sum.inr "kinds") = some (.lst (ks.map kD))) (hx : x = "" ∨ x ∈ ks.map (·.1)) :
    runF (k + 1) 5 [.loc q, .str x] S = .ok (.lst ((nearK ks x).reverse.map D.str)) S := by
  have hqS : q < S.length := (List.getElem?_eq_some_iff.mp hq).1
  have h3 := near_len ok x
  obtain ⟨S0, hS0⟩ : ∃ S0, S ++ [D.lst []] = S0 := ⟨_, rfl⟩
  have hq0 : S0[q]? = some (.dk kv) := by rw [← hS0, List.getElem?_append_left hqS]; exact hq
  have hn0 : S0[S.length]? = some (.lst (([] : List Str).map D.str)) := by rw [← hS0, get_new]; rfl
  have hL := open_loop ok hl hqS hv _ x [] S0 40 hx rfl (by omega) hq0 hn0 (by rw [List.length_nil]; omega)
  have hset : S0.set S.length (.lst (([] ++ (nearK ks x).reverse).map D.str)) = S ++ [.lst ((nearK ks x).reverse.map D.str)] := by
    rw [← hS0, List.nil_append]
    refine List.ext_getElem? fun i => ?_
    by_cases hi : i = S.length
    · subst hi
      rw [List.getElem?_set_self (by simp), get_new]
    · rw [List.getElem?_set_ne (Ne.symm hi)]
      by_cases h : i < S.length
      · rw [List.getElem?_append_left h, List.getElem?_append_left h]
      · rw [List.getElem?_eq_none (by simp; omega), List.getElem?_eq_none (by simp; omega)]
  rw [hset] at hL
  have htk : (S ++ [D.lst ((nearK ks x).reverse.map D.str)]).take S.length = S := by rw [List.take_left' rfl]
  have hrun : b__law_open (runF k) [some (.loc q), some (.str x), none, none, none, none] S = .rt (.lst ((nearK ks x).reverse.map D.str)) S := by
    unfold b__law_open
    rw [show Out.rt (D.lst ((nearK ks x).reverse.map D.str)) S = .rt (.lst ((nearK ks x).reverse.map D.str)) ((S ++ [D.lst ((nearK ks x).reverse.map D.str)]).take S.length) by rw [htk]]
    refine clean_ok (d := .loc S.length) ?_ ?_ ?_
    · have s1 : sAsg (mLstC mNil) (gV 2) [some (.loc q), some (.str x), none, none, none, none] S = .nx [some (.loc q), some (.str x), some (.loc S.length), none, none, none] S0 := by
        rw [← hS0]
        rfl
      rw [sSeq_nx s1, sSeq_nx hL]
      exact sRet_ok rfl
    · rw [htk]; exact hC
    · show (if S.length < S.length then some (D.loc S.length) else match lstOf (S ++ [D.lst ((nearK ks x).reverse.map D.str)])[S.length]? with
        | some ds => if nlts S.length ds = true then some (D.lst ds) else none
        | none => none) = _
      rw [if_neg (by omega), get_new]
      show (if nlts S.length ((nearK ks x).reverse.map D.str) = true then some (D.lst ((nearK ks x).reverse.map D.str)) else none) = _
      rw [if_pos (nlts_strs _)]
  have heq : ∀ ds S, runF (k + 1) 5 ds S = runB 6 (b__law_open (runF k)) ds S := fun ds S => rfl
  rw [heq]
  generalize b__law_open (runF k) = X at hrun ⊢
  exact runB_rt (N := 6) (ds := [.loc q, .str x]) hrun
theorem len_pool : pool.all (fun w => decide (w.length ≤ 8)) = true := by decide +kernel
theorem pool_len {w : Str} (h : w ∈ pool) : w.length ≤ 8 := of_decide_eq_true (List.all_eq_true.mp len_pool w h)
theorem str_app (a b : Str) : (a ++ b).length = a.length + b.length := by
  simp [Str.length, Str.cps_append]
def krefs (k : Kd) : List Str := (("key" : Str) :: k.2.2).map (ref k.1)
theorem krefs_ok {k : Kd} (hn : k.1.length ≤ 8) (hf : ∀ f ∈ k.2.2, f.length ≤ 8) (hl : k.2.2.length ≤ 10) {a0 a1 a2 x4 x6 : Option D} {S : Sto} :
    (mLc (mVal (mOp dAddL (mTup (mCons (mC (.str "key")) mNil)) (mV 5))) (gV 6) mYes (mOp dAddL (mOp dAddL (mV 3) (mC (.str "."))) (mV 6)) (([("_law_field", 6)] : List (Str × Nat)).map (·.2))) [a0, a1, a2, some (.str k.1), x4, some (.tup (k.2.2.map D.str)), x6] S = .ok (.lst ((krefs k).map D.str)) S := by
  have hm : mVal (mOp dAddL (mTup (mCons (mC (.str "key")) mNil)) (mV 5)) [a0, a1, a2, some (.str k.1), x4, some (.tup (k.2.2.map D.str)), x6] S = .ok ⟨(("key" : Str) :: k.2.2).map D.str, free⟩ S := by
    show (dAddL (.tup [.str "key"]) (.tup (k.2.2.map D.str)) S).bnd srcOf = _
    have : dAddL (.tup [.str "key"]) (.tup (k.2.2.map D.str)) S = .ok (.tup ([.str "key"] ++ k.2.2.map D.str)) S := by
      show (if few (([D.str "key"] : List D).length + (k.2.2.map D.str).length) = true then Res.ok (D.tup ([.str "key"] ++ k.2.2.map D.str)) S else .stuck) = _
      have hw : few (([D.str "key"] : List D).length + (k.2.2.map D.str).length) = true := decide_eq_true (by rw [List.length_map, List.length_singleton]; omega)
      rw [if_pos hw]
    rw [this]
    rfl
  have hL := lcL_fm (g := gV 6) (mt := mYes) (me := mOp dAddL (mOp dAddL (mV 3) (mC (.str "."))) (mV 6)) (ρ0 := [a0, a1, a2, some (.str k.1), x4, some (.tup (k.2.2.map D.str)), none]) (S := S)
    (p := fun _ => true) (f := fun d => match d with
      | .str f => .str (ref k.1 f)
      | d => d) (ds := (("key" : Str) :: k.2.2).map D.str) (acc := []) (fun d hd => by
    obtain ⟨f, hf1, rfl⟩ := List.mem_map.mp hd
    refine ⟨_, rfl, rfl, fun _ => ?_⟩
    have hfl : f.length ≤ 8 := by
      rcases List.mem_cons.mp hf1 with rfl | z
      · decide +kernel
      · exact hf f z
    have hd1 : (".": Str).length = 1 := by decide +kernel
    show ((dAddL (.str k.1) (.str ".") S).bnd fun x S => _) = _
    rw [add_str (by omega)]
    show dAddL (.str (k.1 ++ ".")) (.str f) S = _
    rw [add_str (by rw [str_app]; omega)]
    rfl) (by simp; omega)
  unfold mLc
  rw [hm]
  show (lcL free (gV 6) mYes (mOp dAddL (mOp dAddL (mV 3) (mC (.str "."))) (mV 6)) [a0, a1, a2, some (.str k.1), x4, some (.tup (k.2.2.map D.str)), none] _ [] S).thn _ = _
  rw [hL, List.filter_eq_self.mpr (fun _ _ => rfl), List.nil_append, List.map_map]
  show Res.ok (D.lst _) S = _
  unfold krefs
  rw [List.map_map]
  rfl
end K04

set_option Elab.async false
set_option linter.all false
set_option maxRecDepth 100000
set_option maxHeartbeats 4000000
set_option exponentiation.threshold 2000
namespace K04
open PySem L2 Rf

open Pk (pool W Kd KOk chs nearK addC chs_snoc chs_keys ref)
theorem near_mem {ks : List Kd} (ok : KOk ks) (x : Str) : ∀ w ∈ nearK ks x, w ∈ ks.map (·.1) := by
  induction ok generalizing x with
  | nil => exact fun w h => by cases h
  | @snoc ks n o fs ok h1 h2 h3 h4 h5 h6 h7 h8 ih =>
    intro w hw
    rw [List.map_append]
    by_cases hx : x = n
    · subst hx
      rw [near_new h3] at hw
      rcases List.mem_append.mp hw with z | z
      · exact List.mem_append_left _ (ih o w z)
      · exact List.mem_append_right _ z
    · rw [near_old hx] at hw
      exact List.mem_append_left _ (ih x w hw)
theorem kd_two {ks : List Kd} (ok : KOk ks) : ∀ k ∈ ks, k.2.2.length ≤ 2 := by
  induction ok with
  | nil => exact fun k h => by cases h
  | @snoc ks n o fs ok h1 h2 h3 h4 h5 h6 h7 h8 ih =>
    intro k hk
    rcases List.mem_append.mp hk with z | z
    · exact ih k z
    · cases List.mem_singleton.mp z
      exact h8
/-- the references of the kinds in a chain -/
def rfL (l : List Kd) (ch : List Str) : List Str := (l.filter fun k => decide (k.1 ∈ ch)).flatMap krefs
theorem rfL_snoc {l : List Kd} {k : Kd} {ch : List Str} : rfL (l ++ [k]) ch = rfL l ch ++ if k.1 ∈ ch then krefs k else [] := by
  unfold rfL
  rw [List.filter_append, List.flatMap_append]
  congr 1
  by_cases h : k.1 ∈ ch
  · rw [List.filter_cons_of_pos (p := fun k : Kd => decide (k.1 ∈ ch)) (decide_eq_true h), if_pos h]
    show krefs k ++ [] = _
    rw [List.append_nil]
  · rw [List.filter_cons_of_neg (by simp [h]), if_neg h]
    rfl
theorem rfL_len {l : List Kd} {ch : List Str} (h : ∀ k ∈ l, k.2.2.length ≤ 2) : (rfL l ch).length ≤ 3 * l.length := by
  induction l with
  | nil => exact Nat.le_refl _
  | cons k l ih =>
    have := ih fun k hk => h k (List.mem_cons_of_mem _ hk)
    have h2 := h k (List.mem_cons_self ..)
    unfold rfL at this ⊢
    rw [List.length_cons]
    by_cases hk : k.1 ∈ ch
    · rw [List.filter_cons_of_pos (p := fun k : Kd => decide (k.1 ∈ ch)) (decide_eq_true hk), List.flatMap_cons, List.length_append]
      have : (krefs k).length ≤ 3 := by unfold krefs; rw [List.length_map, List.length_cons]; omega
      omega
    · rw [List.filter_cons_of_neg (by simp [hk])]
      omega
theorem last_set {S : Sto} {d e : D} : (S ++ [d]).set S.length e = S ++ [e] := by
  refine List.ext_getElem? fun i => ?_
  by_cases hi : i = S.length
  · subst hi
    rw [List.getElem?_set_self (by simp), get_new]
  · rw [List.getElem?_set_ne (Ne.symm hi)]
    by_cases h : i < S.length
    · rw [List.getElem?_append_left h, List.getElem?_append_left h]
    · rw [List.getElem?_eq_none (by simp; omega), List.getElem?_eq_none (by simp; omega)]
theorem Cl.app {S : Sto} {ws : List Str} (h : Cl S) : Cl (S ++ [.lst (ws.map D.str)]) := fun d hd => by
  rcases List.mem_append.mp hd with z | z
  · exact nlt_up (by simp) d (h d z)
  · cases List.mem_singleton.mp z
    rw [nlt]
    exact nlts_strs _
theorem ref_turn {kk : Nat} {ks : List Kd} (ok : KOk ks) (hl : ks.length ≤ 4) {q : Nat} {S : Sto} {kv : List (Key × D)} {x : Str} (hC : Cl S) (hq : S[q]? = some (.dk kv)) (hv : valD kv (Sum.inr "kinds") = some (.lst (ks.map kD))) (hx : x = "" ∨ x ∈ ks.map (·.1)) {k : Kd} (hk : k ∈ ks) {acc : List Str} (ha : acc.length ≤ 100) {x6 : Option D} :
    ((sIf (mB (mOp dIn (mV 3) (mA (runF (kk + 1) 5) (mCons (mV 0) (mCons (mV 1) mNil)))))
    (sExpr (mExt (mV 2) (mLc (mVal (mOp dAddL (mTup (mCons (mC (.str "key")) mNil)) (mV 5))) (gV 6) mYes (mOp dAddL (mOp dAddL (mV 3) (mC (.str "."))) (mV 6)) (([("_law_field", 6)] : List (Str × Nat)).map (·.2)))))
    sNil)) [some (.loc q), some (.str x), some (.loc S.length), some (.str k.1), some (.str k.2.1), some (.tup (k.2.2.map D.str)), x6] (S ++ [.lst (acc.map D.str)]) = .nx [some (.loc q), some (.str x), some (.loc S.length), some (.str k.1), some (.str k.2.1), some (.tup (k.2.2.map D.str)), x6] (S ++ [.lst ((acc ++ if k.1 ∈ nearK ks x then krefs k else []).map D.str)]) := by
  have hqS : q < S.length := (List.getElem?_eq_some_iff.mp hq).1
  have hO := open_ok (k := kk) (S := S ++ [.lst (acc.map D.str)]) (q := q) ok hl hC.app (by rw [List.getElem?_append_left hqS]; exact hq) hv hx
  have h3 := near_len ok x
  have hI : dIn (.str k.1) (.lst ((nearK ks x).reverse.map D.str)) (S ++ [.lst (acc.map D.str)]) = .ok (.bl (decide (k.1 ∈ nearK ks x))) (S ++ [.lst (acc.map D.str)]) := by
    unfold dIn
    rw [in_strs (by rw [List.length_reverse]; omega) (List.all_eq_true.mp ok_pool _ (ok.names k hk)) (fun w hw => by
      obtain ⟨k', h1, h2⟩ := List.mem_map.mp (near_mem ok x w (List.mem_reverse.mp hw))
      rw [← h2]
      exact List.all_eq_true.mp ok_pool _ (ok.names k' h1))]
    show Res.ok (D.bl (decide (k.1 ∈ (nearK ks x).reverse))) _ = _
    rw [decide_eq_decide.mpr List.mem_reverse]
  have h8 := pool_len (ok.names k hk)
  have hK := krefs_ok (k := k) h8 (fun f hf => pool_len (ok.fpool k hk f hf)) (by have := kd_two ok k hk; omega) (a0 := some (.loc q)) (a1 := some (.str x)) (a2 := some (.loc S.length)) (x4 := some (.str k.2.1)) (x6 := x6) (S := S ++ [.lst (acc.map D.str)])
  have hlen : (krefs k).length ≤ 3 := by
    have := kd_two ok k hk
    unfold krefs
    rw [List.length_map, List.length_cons]
    omega
  have hfew : few ((acc.map D.str).length + ((krefs k).map D.str).length) = true := decide_eq_true (by rw [List.length_map, List.length_map]; omega)
  have hn := get_new (S := S) (d := D.lst (acc.map D.str))
  have hE : (mB (mOp dIn (mV 3) (mA (runF (kk + 1) 5) (mCons (mV 0) (mCons (mV 1) mNil))))) [some (.loc q), some (.str x), some (.loc S.length), some (.str k.1), some (.str k.2.1), some (.tup (k.2.2.map D.str)), x6] (S ++ [.lst (acc.map D.str)]) = .ok (decide (k.1 ∈ nearK ks x)) (S ++ [.lst (acc.map D.str)]) := by
    simp only [mB, mOp, mV, mA, mCons, mNil, Res.bnd, List.getElem?_cons_zero, List.getElem?_cons_succ, hO, hI]
  generalize (mLc (mVal (mOp dAddL (mTup (mCons (mC (.str "key")) mNil)) (mV 5))) (gV 6) mYes (mOp dAddL (mOp dAddL (mV 3) (mC (.str "."))) (mV 6)) (([("_law_field", 6)] : List (Str × Nat)).map (·.2))) = L at hK ⊢
  unfold sIf
  rw [hE]
  by_cases h : k.1 ∈ nearK ks x
  · rw [decide_eq_true h, if_pos h]
    show (sExpr (mExt (mV 2) L)) _ _ = _
    simp only [sExpr, mExt, mV, Res.bnd, Res.out, List.getElem?_cons_zero, List.getElem?_cons_succ, hn, lstOf, Option.isSome_some, if_true, hK, hfew, last_set, List.map_append]
  · rw [decide_eq_false h, if_neg h, List.append_nil]
    rfl
theorem refs_ok {kk : Nat} {ks : List Kd} (ok : KOk ks) (hl : ks.length ≤ 4) {q : Nat} {S : Sto} {kv : List (Key × D)} {x : Str} (hC : Cl S) (hq : S[q]? = some (.dk kv)) (hv : valD kv (Sum.inr "kinds") = some (.lst (ks.map kD))) (hx : x = "" ∨ x ∈ ks.map (·.1)) :
    runF (kk + 2) 6 [.loc q, .str x] S = .ok (.lst ((rfL ks (nearK ks x)).map D.str)) S := by
  have hqS : q < S.length := (List.getElem?_eq_some_iff.mp hq).1
  have hB := fun {k : Kd} (hk : k ∈ ks) {acc : List Str} (ha : acc.length ≤ 100) {x6 : Option D} => ref_turn (kk := kk) ok hl hC hq hv hx hk ha (x6 := x6)
  obtain ⟨ρ', S', ⟨x3, x4, x5, x6, rfl, rfl⟩, hF⟩ := forL_at (g := (gTp 3 (gsCons (gV 3) (gsCons (gV 4) (gsCons (gV 5) gsNil))))) (b := (sIf (mB (mOp dIn (mV 3) (mA (runF (kk + 1) 5) (mCons (mV 0) (mCons (mV 1) mNil)))))
    (sExpr (mExt (mV 2) (mLc (mVal (mOp dAddL (mTup (mCons (mC (.str "key")) mNil)) (mV 5))) (gV 6) mYes (mOp dAddL (mOp dAddL (mV 3) (mC (.str "."))) (mV 6)) (([("_law_field", 6)] : List (Str × Nat)).map (·.2)))))
    sNil)) (fun j ρ S' => ∃ x3 x4 x5 x6, ρ = [some (.loc q), some (.str x), some (.loc S.length), x3, x4, x5, x6] ∧ S' = S ++ [.lst ((rfL (ks.take j) (nearK ks x)).map D.str)])
    (ds := ks.map kD) (ρ := [some (.loc q), some (.str x), some (.loc S.length), none, none, none, none]) (S := S ++ [.lst []]) ⟨none, none, none, none, rfl, rfl⟩ fun j d ρ S1 hd hR => by
    obtain ⟨x3, x4, x5, x6, rfl, rfl⟩ := hR
    rw [List.getElem?_map] at hd
    obtain ⟨k, hk, rfl⟩ := Option.map_eq_some_iff.mp hd
    obtain ⟨hj, rfl⟩ := List.getElem?_eq_some_iff.mp hk
    have hlen : (rfL (ks.take j) (nearK ks x)).length ≤ 3 * (ks.take j).length := rfL_len fun k hk => kd_two ok k (List.mem_of_mem_take hk)
    have hlt : (ks.take j).length ≤ 4 := by rw [List.length_take]; omega
    refine ⟨_, _, _, _, rfl, hB (List.getElem_mem hj) (by omega), _, _, _, x6, rfl, ?_⟩
    rw [List.take_succ, hk, Option.toList_some, rfL_snoc]
  rw [List.length_map, List.take_length] at hF
  have htk : ∀ z : List D, (S ++ z).take S.length = S := fun z => by rw [List.take_left' rfl]
  have hrun : b__law_refs (runF (kk + 1)) [some (.loc q), some (.str x), none, none, none, none, none] S = .rt (.lst ((rfL ks (nearK ks x)).map D.str)) S := by
    unfold b__law_refs
    generalize hRS : rfL ks (nearK ks x) = RS at hF ⊢
    rw [show Out.rt (D.lst (RS.map D.str)) S = .rt (.lst (RS.map D.str)) ((S ++ [D.lst (RS.map D.str)]).take S.length) by rw [htk]]
    refine clean_ok (d := .loc S.length) ?_ ?_ ?_
    · generalize (sIf (mB (mOp dIn (mV 3) (mA (runF (kk + 1) 5) (mCons (mV 0) (mCons (mV 1) mNil)))))
    (sExpr (mExt (mV 2) (mLc (mVal (mOp dAddL (mTup (mCons (mC (.str "key")) mNil)) (mV 5))) (gV 6) mYes (mOp dAddL (mOp dAddL (mV 3) (mC (.str "."))) (mV 6)) (([("_law_field", 6)] : List (Str × Nat)).map (·.2)))))
    sNil) = BB at hF ⊢
      have s1 : sAsg (mLstC mNil) (gV 2) [some (.loc q), some (.str x), none, none, none, none, none] S = .nx [some (.loc q), some (.str x), some (.loc S.length), none, none, none, none] (S ++ [.lst []]) := rfl
      have s2 : mVal (mDGet (mV 0) (mC (.str "kinds"))) [some (.loc q), some (.str x), some (.loc S.length), none, none, none, none] (S ++ [.lst []]) = .ok ⟨ks.map kD, free⟩ (S ++ [.lst []]) := by
        have hq' : (S ++ [D.lst []])[q]? = some (.dk kv) := by rw [List.getElem?_append_left hqS]; exact hq
        simp only [mVal, mDGet, mV, mC, Res.bnd, List.getElem?_cons_zero, dkOf, hq', Rf.keyOf, hv, srcOf]
      rw [sSeq_nx s1, sSeq_nx (sFor_ok s2 hF)]
      exact sRet_ok rfl
    · rw [htk]; exact hC
    · show (if S.length < S.length then some (D.loc S.length) else match lstOf (S ++ [D.lst (RS.map D.str)])[S.length]? with
        | some ds => if nlts S.length ds = true then some (D.lst ds) else none
        | none => none) = _
      rw [if_neg (by omega), get_new]
      show (if nlts S.length (RS.map D.str) = true then some (D.lst (RS.map D.str)) else none) = _
      rw [if_pos (nlts_strs _)]
  have heq : ∀ ds S, runF (kk + 2) 6 ds S = runB 7 (b__law_refs (runF (kk + 1))) ds S := fun ds S => rfl
  rw [heq]
  generalize b__law_refs (runF (kk + 1)) = X at hrun ⊢
  exact runB_rt (N := 7) (ds := [.loc q, .str x]) hrun
end K04

set_option Elab.async false
set_option linter.all false
set_option maxRecDepth 100000
set_option maxHeartbeats 4000000
set_option exponentiation.threshold 2000
namespace K04
open PySem L2 Rf

open Pk (pool W Kd KOk chs nearK addC chs_snoc chs_keys ref Sm SmOk)
def mD (ks : List Kd) (c : Int) : List (Key × D) := [(Sum.inr "kinds", .lst (ks.map kD)), (Sum.inr "count", .int c)]
theorem mD_k (ks : List Kd) (c : Int) : valD (mD ks c) (Sum.inr "kinds") = some (.lst (ks.map kD)) := by
  unfold mD
  rw [valD, if_pos rfl]
theorem mD_ne : ¬ ((Sum.inr ("kinds" : Str) : Key) = Sum.inr ("count" : Str)) := by decide +kernel
theorem mD_c (ks : List Kd) (c : Int) : valD (mD ks c) (Sum.inr "count") = some (.int c) := by
  unfold mD
  rw [valD, if_neg mD_ne, valD, if_pos rfl]
theorem mD_p (ks : List Kd) (c c' : Int) : putD (mD ks c) (Sum.inr "count") (.int c') = mD ks c' := by
  unfold putD mD
  rw [if_pos (by simp only [List.any_cons, List.any_nil, decide_true, Bool.true_or, Bool.or_true]), List.map_cons, List.map_cons, if_neg mD_ne, if_pos rfl]
  rfl
theorem sIf_t {mt : MT} {a b : MS} {ρ : Rho} {S S1 : Sto} (h : mt ρ S = .ok true S1) : sIf mt a b ρ S = a ρ S1 := by
  unfold sIf
  rw [h]
  rfl
theorem sIf_f {mt : MT} {a b : MS} {ρ : Rho} {S S1 : Sto} (h : mt ρ S = .ok false S1) : sIf mt a b ρ S = b ρ S1 := by
  unfold sIf
  rw [h]
  rfl
theorem sSeq_rt {a b : MS} {ρ : Rho} {S S1 : Sto} {d : D} (h : a ρ S = .rt d S1) : sSeq a b ρ S = .rt d S1 := by
  unfold sSeq
  rw [h]
/-- what may be asked for -/
def evsK (k : Kd) : List Str := (("key" : Str) :: "zz" :: k.2.2).map (ref k.1)
def evs (ks : List Kd) : List Str := ks.flatMap evsK
theorem ev_turn {k : Kd} (hn : k.1.length ≤ 8) (hf : ∀ f ∈ k.2.2, f.length ≤ 8) (hl : k.2.2.length ≤ 10) {acc : List Str} (ha : acc.length ≤ 100) {a0 a1 x4 : Option D} {S : Sto} :
    (sAsg (mOp dAddL (mV 2) (mLc (mVal (mOp dAddL (mTup (mCons (mC (.str "key")) (mCons (mC (.str "zz")) mNil))) (mV 5))) (gV 12) mYes (mOp dAddL (mOp dAddL (mV 3) (mC (.str "."))) (mV 12)) (([("_law_field", 12)] : List (Str × Nat)).map (·.2)))) (gV 2)) [a0, a1, some (.lst (acc.map D.str)), some (.str k.1), x4, some (.tup (k.2.2.map D.str)), none, none, none, none, none, none, none] S = .nx [a0, a1, some (.lst ((acc ++ evsK k).map D.str)), some (.str k.1), x4, some (.tup (k.2.2.map D.str)), none, none, none, none, none, none, none] S := by
  have hm : mVal (mOp dAddL (mTup (mCons (mC (.str "key")) (mCons (mC (.str "zz")) mNil))) (mV 5)) [a0, a1, some (.lst (acc.map D.str)), some (.str k.1), x4, some (.tup (k.2.2.map D.str)), none, none, none, none, none, none, none] S = .ok ⟨(("key" : Str) :: "zz" :: k.2.2).map D.str, free⟩ S := by
    show (dAddL (.tup [.str "key", .str "zz"]) (.tup (k.2.2.map D.str)) S).bnd srcOf = _
    have : dAddL (.tup [.str "key", .str "zz"]) (.tup (k.2.2.map D.str)) S = .ok (.tup ([.str "key", .str "zz"] ++ k.2.2.map D.str)) S := by
      show (if few (([D.str "key", .str "zz"] : List D).length + (k.2.2.map D.str).length) = true then Res.ok (D.tup ([.str "key", .str "zz"] ++ k.2.2.map D.str)) S else .stuck) = _
      have hw : few (([D.str "key", .str "zz"] : List D).length + (k.2.2.map D.str).length) = true := decide_eq_true (by rw [List.length_map, List.length_cons, List.length_singleton]; omega)
      rw [if_pos hw]
    rw [this]
    rfl
  have hL := lcL_fm (g := gV 12) (mt := mYes) (me := mOp dAddL (mOp dAddL (mV 3) (mC (.str "."))) (mV 12)) (ρ0 := [a0, a1, some (.lst (acc.map D.str)), some (.str k.1), x4, some (.tup (k.2.2.map D.str)), none, none, none, none, none, none, none]) (S := S)
    (p := fun _ => true) (f := fun d => match d with
      | .str f => .str (ref k.1 f)
      | d => d) (ds := (("key" : Str) :: "zz" :: k.2.2).map D.str) (acc := []) (fun d hd => by
    obtain ⟨f, hf1, rfl⟩ := List.mem_map.mp hd
    refine ⟨_, rfl, rfl, fun _ => ?_⟩
    have hfl : f.length ≤ 8 := by
      rcases List.mem_cons.mp hf1 with rfl | z
      · decide +kernel
      · rcases List.mem_cons.mp z with rfl | z
        · decide +kernel
        · exact hf f z
    have hd1 : (".": Str).length = 1 := by decide +kernel
    show ((dAddL (.str k.1) (.str ".") S).bnd fun x S => _) = _
    rw [add_str (by omega)]
    show dAddL (.str (k.1 ++ ".")) (.str f) S = _
    rw [add_str (by rw [str_app]; omega)]
    rfl) (by simp; omega)
  have hX : (mLc (mVal (mOp dAddL (mTup (mCons (mC (.str "key")) (mCons (mC (.str "zz")) mNil))) (mV 5))) (gV 12) mYes (mOp dAddL (mOp dAddL (mV 3) (mC (.str "."))) (mV 12)) (([("_law_field", 12)] : List (Str × Nat)).map (·.2))) [a0, a1, some (.lst (acc.map D.str)), some (.str k.1), x4, some (.tup (k.2.2.map D.str)), none, none, none, none, none, none, none] S = .ok (.lst ((evsK k).map D.str)) S := by
    unfold mLc
    rw [hm]
    show (lcL free (gV 12) mYes (mOp dAddL (mOp dAddL (mV 3) (mC (.str "."))) (mV 12)) [a0, a1, some (.lst (acc.map D.str)), some (.str k.1), x4, some (.tup (k.2.2.map D.str)), none, none, none, none, none, none, none] _ [] S).thn _ = _
    rw [hL, List.filter_eq_self.mpr (fun _ _ => rfl), List.nil_append, List.map_map]
    show Res.ok (D.lst _) S = _
    unfold evsK
    rw [List.map_map]
    rfl
  generalize (mLc (mVal (mOp dAddL (mTup (mCons (mC (.str "key")) (mCons (mC (.str "zz")) mNil))) (mV 5))) (gV 12) mYes (mOp dAddL (mOp dAddL (mV 3) (mC (.str "."))) (mV 12)) (([("_law_field", 12)] : List (Str × Nat)).map (·.2))) = L at hX ⊢
  refine sAsg_ok (S1 := S) (d := .lst ((acc ++ evsK k).map D.str)) ?_ rfl
  have hlen : (evsK k).length ≤ 20 := by unfold evsK; rw [List.length_map, List.length_cons, List.length_cons]; omega
  show (L _ S).bnd _ = _
  rw [hX]
  show (if few ((acc.map D.str).length + ((evsK k).map D.str).length) = true then Res.ok (D.lst (acc.map D.str ++ (evsK k).map D.str)) S else .stuck) = _
  rw [if_pos (by refine decide_eq_true ?_; rw [List.length_map, List.length_map]; omega), List.map_append]
theorem evs_len {l : List Kd} (h : ∀ k ∈ l, k.2.2.length ≤ 2) : (evs l).length ≤ 4 * l.length := by
  induction l with
  | nil => exact Nat.le_refl _
  | cons k l ih =>
    have := ih fun k hk => h k (List.mem_cons_of_mem _ hk)
    have h2 := h k (List.mem_cons_self ..)
    unfold evs at this ⊢
    rw [List.flatMap_cons, List.length_append, List.length_cons]
    have : (evsK k).length ≤ 4 := by unfold evsK; rw [List.length_map, List.length_cons, List.length_cons]; omega
    omega
theorem evs_mem {ks : List Kd} (ok : KOk ks) {v : Str} (h : v ∈ evs ks) : ∃ n f, v = ref n f ∧ W n ∧ W f := by
  obtain ⟨k, hk, h1⟩ := List.mem_flatMap.mp h
  obtain ⟨f, hf, rfl⟩ := List.mem_map.mp h1
  refine ⟨k.1, f, rfl, Pk.pool_W (ok.names k hk), ?_⟩
  rcases List.mem_cons.mp hf with rfl | z
  · exact .of (by decide +kernel)
  · rcases List.mem_cons.mp z with rfl | z
    · exact .of (by decide +kernel)
    · exact Pk.pool_W (ok.fpool k hk f z)
theorem every_ok {ks : List Kd} (ok : KOk ks) (hl : ks.length ≤ 4) {p q : Nat} {S : Sto} {kv : List (Key × D)} (hq : S[q]? = some (.dk kv)) (hv : valD kv (Sum.inr "kinds") = some (.lst (ks.map kD))) :
    ∃ x3 x4 x5, (sFor (mVal (mDGet (mV 1) (mC (.str "kinds")))) (gTp 3 (gsCons (gV 3) (gsCons (gV 4) (gsCons (gV 5) gsNil))))
    (sAsg (mOp dAddL (mV 2) (mLc (mVal (mOp dAddL (mTup (mCons (mC (.str "key")) (mCons (mC (.str "zz")) mNil))) (mV 5))) (gV 12) mYes (mOp dAddL (mOp dAddL (mV 3) (mC (.str "."))) (mV 12)) (([("_law_field", 12)] : List (Str × Nat)).map (·.2)))) (gV 2))) [some (.loc p), some (.loc q), some (.lst []), none, none, none, none, none, none, none, none, none, none] S = .nx [some (.loc p), some (.loc q), some (.lst ((evs ks).map D.str)), x3, x4, x5, none, none, none, none, none, none, none] S := by
  have hB := fun {k : Kd} (hk : k ∈ ks) {acc : List Str} (ha : acc.length ≤ 100) {a0 a1 x4 : Option D} => ev_turn (k := k) (pool_len (ok.names k hk)) (fun f hf => pool_len (ok.fpool k hk f hf)) (by have := kd_two ok k hk; omega) ha (a0 := a0) (a1 := a1) (x4 := x4) (S := S)
  obtain ⟨ρ', S', ⟨⟨x3, x4, x5, rfl⟩, rfl⟩, hF⟩ := forL_at (g := (gTp 3 (gsCons (gV 3) (gsCons (gV 4) (gsCons (gV 5) gsNil))))) (b := (sAsg (mOp dAddL (mV 2) (mLc (mVal (mOp dAddL (mTup (mCons (mC (.str "key")) (mCons (mC (.str "zz")) mNil))) (mV 5))) (gV 12) mYes (mOp dAddL (mOp dAddL (mV 3) (mC (.str "."))) (mV 12)) (([("_law_field", 12)] : List (Str × Nat)).map (·.2)))) (gV 2))) (fun j ρ S' => (∃ x3 x4 x5, ρ = [some (.loc p), some (.loc q), some (.lst ((evs (ks.take j)).map D.str)), x3, x4, x5, none, none, none, none, none, none, none]) ∧ S' = S)
    (ds := ks.map kD) (ρ := [some (.loc p), some (.loc q), some (.lst []), none, none, none, none, none, none, none, none, none, none]) (S := S) ⟨⟨none, none, none, rfl⟩, rfl⟩ fun j d ρ S1 hd hR => by
    obtain ⟨⟨x3, x4, x5, rfl⟩, rfl⟩ := hR
    rw [List.getElem?_map] at hd
    obtain ⟨k, hk, rfl⟩ := Option.map_eq_some_iff.mp hd
    obtain ⟨hj, rfl⟩ := List.getElem?_eq_some_iff.mp hk
    have hlen : (evs (ks.take j)).length ≤ 4 * (ks.take j).length := evs_len fun k hk => kd_two ok k (List.mem_of_mem_take hk)
    have hlt : (ks.take j).length ≤ 4 := by rw [List.length_take]; omega
    refine ⟨_, _, _, _, rfl, hB (List.getElem_mem hj) (by omega), ⟨some (.str ks[j].1), some (.str ks[j].2.1), some (.tup (ks[j].2.2.map D.str)), ?_⟩, rfl⟩
    have e : evs (ks.take (j + 1)) = evs (ks.take j) ++ evsK ks[j] := by
      rw [List.take_succ, hk, Option.toList_some]
      unfold evs
      rw [List.flatMap_append]
      show _ ++ (evsK ks[j] ++ []) = _
      rw [List.append_nil]
    rw [e]
  rw [List.length_map, List.take_length] at hF
  refine ⟨x3, x4, x5, ?_⟩
  have s2 : mVal (mDGet (mV 1) (mC (.str "kinds"))) [some (.loc p), some (.loc q), some (.lst []), none, none, none, none, none, none, none, none, none, none] S' = .ok ⟨ks.map kD, free⟩ S' := by
    simp only [mVal, mDGet, mV, mC, Res.bnd, List.getElem?_cons_zero, List.getElem?_cons_succ, dkOf, hq, Rf.keyOf, hv, srcOf]
  exact sFor_ok s2 hF
end K04

set_option Elab.async false
set_option linter.all false
set_option maxRecDepth 100000
set_option maxHeartbeats 4000000
set_option exponentiation.threshold 2000
namespace K04
open PySem L2 Rf

open Pk (pool W Kd KOk chs nearK addC chs_snoc chs_keys ref Sm SmOk)
def labs : List Str := ["a", "b", "c", "d", "e", "f"]
theorem lab_ok {j : Nat} (h : j < 6) {S : Sto} : dIx (.str "abcdefghijklm") (.int (j : Nat)) S = .ok (.str (labs.getD j "")) S := by
  have hj : j = 0 ∨ j = 1 ∨ j = 2 ∨ j = 3 ∨ j = 4 ∨ j = 5 := by omega
  rcases hj with rfl | rfl | rfl | rfl | rfl | rfl <;> rfl
theorem labs_W {j : Nat} (h : j < 6) : W (labs.getD j "") := by
  have hj : j = 0 ∨ j = 1 ∨ j = 2 ∨ j = 3 ∨ j = 4 ∨ j = 5 := by omega
  rcases hj with rfl | rfl | rfl | rfl | rfl | rfl <;> exact .of (by decide +kernel)
theorem ref_len {n f : Str} (h1 : W n) (h2 : W f) : (ref n f).length ≤ 17 := by
  have h3 := h1.no.2.2.2.2
  have h4 := h2.no.2.2.2.2
  have hd1 : (".": Str).length = 1 := by decide +kernel
  unfold Pk.ref
  rw [str_app, str_app]
  omega
theorem names_lc {ks : List Kd} (hl : ks.length ≤ 4) {a : Nat} {ρ ρ0 : Rho} {S : Sto} {mi : MI} {vs : List Nat} (hm : mi ρ S = .ok ⟨ks.map kD, free⟩ S) (hw : wipeR ρ vs = ρ0) (ha : ∀ d, gV a d ρ0 S = some (ρ0.set a (some d), S)) (hg : ∀ d : D, (ρ0.set a (some d))[a]? = some (some d)) : mLc mi (gV a) mYes (mOp dIx (mV a) (mC (.int 0))) vs ρ S = .ok (.lst ((ks.map (·.1)).map D.str)) S := by
  have hL := lcL_fm (g := gV a) (mt := mYes) (me := mOp dIx (mV a) (mC (.int 0))) (ρ0 := ρ0) (S := S)
    (p := fun _ => true) (f := fun d => match d with
      | .tup (d :: _) => d
      | d => d) (ds := ks.map kD) (acc := []) (fun d hd => by
    obtain ⟨k, hk, rfl⟩ := List.mem_map.mp hd
    refine ⟨_, ha _, rfl, fun _ => ?_⟩
    simp only [mOp, mV, mC, hg, Res.bnd]
    rfl) (by simp; omega)
  unfold mLc
  rw [hm]
  show (lcL free (gV a) mYes (mOp dIx (mV a) (mC (.int 0))) (wipeR ρ vs) _ [] S).thn _ = _
  rw [hw, hL, List.filter_eq_self.mpr (fun _ _ => rfl), List.nil_append, List.map_map, List.map_map]
  rfl
/-- what a statement asks for, told -/
def smD (s : Sm) : D := .tup [.lst (s.lines.map D.str), .lst [.str (ref s.n s.f)], .lst (if s.way = 1 then [.str s.kd] else [])]
theorem asking_ok {ks : List Kd} (ok : KOk ks) (hl : ks.length ≤ 4) (h0 : 1 ≤ ks.length) {p q : Nat} {S : Sto} {a b c : Int} (h : Pot S p a b c) (c1 : c < 900000) {c0 : Int} {j : Nat} (hq : S[q]? = some (.dk (mD ks c0))) (hj : c0 + 1 = (j : Nat)) (hj6 : j < 6) (hpq : p ≠ q) :
    ∃ (s : Sm) (S1 : Sto) (a' c' : Int), runF 23 8 [.loc p, .loc q] S = .ok (smD s) S1 ∧ SmOk s ∧ s.lab = labs.getD j "" ∧ Pot S1 p a' b c' ∧ c' ≤ c + 3 ∧ S1[q]? = some (.dk (mD ks (j : Nat))) ∧ S1.length = S.length ∧ (∀ i, i ≠ p → i ≠ q → S1[i]? = S[i]?) := by
  have hqS : q < S.length := (List.getElem?_eq_some_iff.mp hq).1
  obtain ⟨x3, x4, x5, hE⟩ := every_ok ok hl (p := p) hq (mD_k ks c0)
  have hel : (evs ks).length ≤ 4 * ks.length := evs_len (kd_two ok)
  have he1 : 0 < (evs ks).length := by
    match ks, h0 with
    | k :: l, _ =>
      unfold evs
      rw [List.flatMap_cons, List.length_append]
      unfold evsK
      simp
      omega
  have s1 : (sAsg (mLst mNil) (gV 2)) [some (.loc p), some (.loc q), none, none, none, none, none, none, none, none, none, none, none] S = .nx [some (.loc p), some (.loc q), some (.lst []), none, none, none, none, none, none, none, none, none, none] S := rfl
  have s3 : (sAsg (mLc (mVal (mDGet (mV 1) (mC (.str "kinds")))) (gV 11) mYes (mOp dIx (mV 11) (mC (.int 0))) (([("_law_one", 11)] : List (Str × Nat)).map (·.2))) (gV 6)) [some (.loc p), some (.loc q), some (.lst ((evs ks).map D.str)), x3, x4, x5, none, none, none, none, none, none, none] S = .nx [some (.loc p), some (.loc q), some (.lst ((evs ks).map D.str)), x3, x4, x5, some (.lst ((ks.map (·.1)).map D.str)), none, none, none, none, none, none] S := by
    refine sAsg_ok (S1 := S) (d := .lst ((ks.map (·.1)).map D.str)) (names_lc hl ?_ rfl (fun _ => rfl) (fun _ => rfl)) rfl
    simp only [mVal, mDGet, mV, mC, Res.bnd, List.getElem?_cons_zero, List.getElem?_cons_succ, dkOf, hq, Rf.keyOf, mD_k, srcOf]
  obtain ⟨v, S1, a1, c2, e1, hm, P1, hc1, T1⟩ := of' (k := 20) (xs := (evs ks).map D.str) h (by rw [List.length_map]; exact he1) (by rw [List.length_map]; omega) (by omega)
  have e1 : runF 22 2 [.loc p, .lst ((evs ks).map D.str)] S = _ := e1
  obtain ⟨w, hw, rfl⟩ := List.mem_map.mp hm
  obtain ⟨n, f, rfl, hn, hf⟩ := evs_mem ok hw
  obtain ⟨t, S2, a2, c3, e2, t0, t1, P2, hc2, T2⟩ := take' (k := 21) (n := 4) P1 (by decide) (by decide) (by omega)
  have e2 : runF 22 1 [.loc p, .int 4] S1 = _ := e2
  have T := T1.trans T2
  have hq2 : S2[q]? = some (.dk (mD ks c0)) := by rw [T.old q (Ne.symm hpq)]; exact hq
  obtain ⟨S3, hS3⟩ : ∃ S3, S2.set q (.dk (mD ks (j : Nat))) = S3 := ⟨_, rfl⟩
  have hq3 : S3[q]? = some (.dk (mD ks (j : Nat))) := by rw [← hS3, List.getElem?_set_self (by rw [T.len]; exact hqS)]
  have hl3 : S3.length = S.length := by rw [← hS3, List.length_set, T.len]
  have ho3 : ∀ i, i ≠ p → i ≠ q → S3[i]? = S[i]? := fun i h1 h2 => by rw [← hS3, List.getElem?_set_ne (Ne.symm h2), T.old i h1]
  have P3 : Pot S3 p a2 b c3 := by
    obtain ⟨z1, z2, z3, z4, z5, z6⟩ := P2
    exact ⟨by rw [← hS3, List.getElem?_set_ne (Ne.symm hpq)]; exact z1, z2, z3, z4, z5, z6⟩
  generalize hev : evs ks = ev at *
  have s4 : (sPar [7, 8] (mCons (mA (runF 22 2) (mCons (mV 0) (mCons (mV 2) mNil))) (mCons (mA (runF 22 1) (mCons (mV 0) (mCons (mC (.int 4)) mNil))) mNil))) [some (.loc p), some (.loc q), some (.lst (ev.map D.str)), x3, x4, x5, some (.lst ((ks.map (·.1)).map D.str)), none, none, none, none, none, none] S = .nx [some (.loc p), some (.loc q), some (.lst (ev.map D.str)), x3, x4, x5, some (.lst ((ks.map (·.1)).map D.str)), some (.str (ref n f)), some (.int t), none, none, none, none] S2 := by
    simp only [sPar, mCons, mNil, mA, mV, mC, Res.bnd, Res.out, List.getElem?_cons_zero, List.getElem?_cons_succ, e1, e2]
    rfl
  have s5 : (sAsg (mOp dAddL (mDGet (mV 1) (mC (.str "count"))) (mC (.int 1))) (gDk (mV 1) (mC (.str "count")))) [some (.loc p), some (.loc q), some (.lst (ev.map D.str)), x3, x4, x5, some (.lst ((ks.map (·.1)).map D.str)), some (.str (ref n f)), some (.int t), none, none, none, none] S2 = .nx [some (.loc p), some (.loc q), some (.lst (ev.map D.str)), x3, x4, x5, some (.lst ((ks.map (·.1)).map D.str)), some (.str (ref n f)), some (.int t), none, none, none, none] S3 := by
    refine sAsg_ok (S1 := S2) (d := .int (j : Nat)) ?_ ?_
    · have hd : dAddL (.int c0) (.int 1) S2 = .ok (.int (j : Nat)) S2 := by rw [← hj]; rfl
      simp only [mOp, mDGet, mV, mC, Res.bnd, List.getElem?_cons_zero, List.getElem?_cons_succ, dkOf, hq2, Rf.keyOf, mD_c, hd]
    · have hfw : few (mD ks c0).length = true := rfl
      simp only [gDk, Rf.cellOf, mV, mC, List.getElem?_cons_zero, List.getElem?_cons_succ, hq2, Rf.keyOf, hfw, mD_p, hS3, if_true]
  have s6 : (sAsg (mOp dIx (mC (.str "abcdefghijklm")) (mDGet (mV 1) (mC (.str "count")))) (gV 9)) [some (.loc p), some (.loc q), some (.lst (ev.map D.str)), x3, x4, x5, some (.lst ((ks.map (·.1)).map D.str)), some (.str (ref n f)), some (.int t), none, none, none, none] S3 = .nx [some (.loc p), some (.loc q), some (.lst (ev.map D.str)), x3, x4, x5, some (.lst ((ks.map (·.1)).map D.str)), some (.str (ref n f)), some (.int t), some (.str (labs.getD j "")), none, none, none] S3 := by
    refine sAsg_ok (S1 := S3) (d := .str (labs.getD j "")) ?_ rfl
    simp only [mOp, mDGet, mV, mC, Res.bnd, List.getElem?_cons_zero, List.getElem?_cons_succ, dkOf, hq3, Rf.keyOf, mD_c, lab_ok hj6]
  have hLW := labs_W hj6
  generalize labs.getD j "" = lb at *
  have hll := hLW.no.2.2.2.2
  have hrl := ref_len hn hf
  generalize hr : ref n f = r at *
  have A : ∀ (x y : Str) (S : Sto), x.length ≤ 200 → y.length ≤ 200 → dAddL (.str x) (.str y) S = .ok (.str (x ++ y)) S := fun x y S h1 h2 => add_str (by omega)
  have l1 : ("if " : Str).length = 3 ∧ (" is x" : Str).length = 5 ∧ ("  line " : Str).length = 7 ∧ (" x" : Str).length = 2 ∧ ("head " : Str).length = 5 ∧ (" " : Str).length = 1 ∧ (" x " : Str).length = 3 ∧ (" - " : Str).length = 3 ∧ ("line " : Str).length = 5 ∧ (" y " : Str).length = 3 := by decide +kernel
  obtain ⟨l1, l2, l3, l4, l5, l6, l7, l8, l9, l10⟩ := l1
  have hWa : W "a" := .of (by decide +kernel)
  have few1 : few 1 = true := rfl
  have few2 : few 2 = true := rfl
  have few3 : few 3 = true := rfl
  have few0 : few 0 = true := rfl
  have hc : ∀ (i : Int) (ρ : Rho) (S : Sto), ρ[8]? = some (some (.int t)) → (mB (mOp dEqS (mV 8) (mC (.int i)))) ρ S = .ok (decide (t = i)) S := fun i ρ S h => by
    simp only [mB, mOp, mV, mC, h, Res.bnd]
    show (match ofB S (eqD S (.int t) (.int i)) with
      | .stuck => Res.stuck
      | .ok a S => _
      | .err x S => .err x S) = _
    rw [eq_ints]
    rfl
  have hrun : ∀ d S', sSeq (sIf (mB (mOp dEqS (mV 8) (mC (.int 0))))
    (sRet (mTup (mCons (mLst (mCons (mOp dAddL (mOp dAddL (mC (.str "if ")) (mV 7)) (mC (.str " is x"))) (mCons (mOp dAddL (mOp dAddL (mC (.str "  line ")) (mV 9)) (mC (.str " x"))) mNil))) (mCons (mLst (mCons (mV 7) mNil)) (mCons (mLst mNil) mNil)))))
    sNil) (sSeq (sIf (mB (mOp dEqS (mV 8) (mC (.int 1))))
    (sSeq (sAsg (mA (runF 22 2) (mCons (mV 0) (mCons (mOp dAddL (mV 6) (mLst (mCons (mC (.str "qq")) mNil))) mNil))) (gV 10))
    (sRet (mTup (mCons (mLst (mCons (mOp dAddL (mOp dAddL (mOp dAddL (mOp dAddL (mOp dAddL (mC (.str "head ")) (mV 9)) (mC (.str " "))) (mV 10)) (mC (.str " x "))) (mV 7)) mNil)) (mCons (mLst (mCons (mV 7) mNil)) (mCons (mLst (mCons (mV 10) mNil)) mNil))))))
    sNil) (sSeq (sIf (mB (mOp dEqS (mV 8) (mC (.int 2))))
    (sRet (mTup (mCons (mLst (mCons (mOp dAddL (mOp dAddL (mOp dAddL (mC (.str "head ")) (mV 9)) (mC (.str " - "))) (mV 7)) mNil)) (mCons (mLst (mCons (mV 7) mNil)) (mCons (mLst mNil) mNil)))))
    sNil) (sRet (mTup (mCons (mLst (mCons (mOp dAddL (mOp dAddL (mOp dAddL (mC (.str "line ")) (mV 9)) (mC (.str " y "))) (mV 7)) mNil)) (mCons (mLst (mCons (mV 7) mNil)) (mCons (mLst mNil) mNil))))))) [some (.loc p), some (.loc q), some (.lst (ev.map D.str)), x3, x4, x5, some (.lst ((ks.map (·.1)).map D.str)), some (.str r), some (.int t), some (.str lb), none, none, none] S3 = .rt d S' → runF 23 8 [.loc p, .loc q] S = .ok d S' := fun d S' hh => by
    have hrun2 : b__law_asking (runF 22) [some (.loc p), some (.loc q), none, none, none, none, none, none, none, none, none, none, none] S = .rt d S' := by
      unfold b__law_asking
      rw [sSeq_nx s1, sSeq_nx hE, sSeq_nx s3, sSeq_nx s4, sSeq_nx s5, sSeq_nx s6]
      exact hh
    have heq : ∀ ds S, runF 23 8 ds S = runB 13 (b__law_asking (runF 22)) ds S := fun ds S => rfl
    rw [heq]
    generalize b__law_asking (runF 22) = X at hrun2 ⊢
    exact runB_rt (N := 13) (ds := [.loc p, .loc q]) hrun2
  have ht : t = 0 ∨ t = 1 ∨ t = 2 ∨ t = 3 := by omega
  rcases ht with rfl | rfl | rfl | rfl
  · refine ⟨⟨0, n, f, "a", lb⟩, S3, a2, c3, hrun _ _ (sSeq_rt ((sIf_t (hc 0 _ _ rfl)).trans ?_)), ⟨hn, hf, hWa, hLW⟩, rfl, P3, by omega, hq3, hl3, ho3⟩
    unfold smD Pk.Sm.lines
    simp only [sRet, mTup, mLst, mCons, mNil, mOp, mV, mC, Res.bnd, Res.out, List.getElem?_cons_zero, List.getElem?_cons_succ, A _ _ _ (show ("if " : Str).length ≤ 200 by omega) (show r.length ≤ 200 by omega), A _ _ _ (show ("if " ++ r : Str).length ≤ 200 by rw [str_app]; omega) (show (" is x" : Str).length ≤ 200 by omega), A _ _ _ (show ("  line " : Str).length ≤ 200 by omega) (show lb.length ≤ 200 by omega), A _ _ _ (show ("  line " ++ lb : Str).length ≤ 200 by rw [str_app]; omega) (show (" x" : Str).length ≤ 200 by omega), List.length_cons, List.length_nil, Nat.reduceAdd, few0, few1, few2, few3, if_true, hr]
    rfl
  · obtain ⟨v, S4, a4, c4, e4, hm4, P4, hc4, T4⟩ := of' (k := 20) (xs := (ks.map (·.1)).map D.str ++ [.str "qq"]) P3 (by rw [List.length_append, List.length_singleton]; omega) (by rw [List.length_append, List.length_singleton, List.length_map, List.length_map]; omega) (by omega)
    have e4 : runF 22 2 [.loc p, .lst ((ks.map (·.1)).map D.str ++ [.str "qq"])] S3 = _ := e4
    obtain ⟨kd, rfl, hkd⟩ : ∃ kd, v = .str kd ∧ W kd := by
      rcases List.mem_append.mp hm4 with z | z
      · obtain ⟨w, h1, rfl⟩ := List.mem_map.mp z
        obtain ⟨k, h2, rfl⟩ := List.mem_map.mp h1
        exact ⟨_, rfl, Pk.pool_W (ok.names k h2)⟩
      · cases List.mem_singleton.mp z
        exact ⟨_, rfl, .of (by decide +kernel)⟩
    have hkl := hkd.no.2.2.2.2
    have hadd : ∀ S, dAddL (.lst ((ks.map (·.1)).map D.str)) (.lst [.str "qq"]) S = .ok (.lst ((ks.map (·.1)).map D.str ++ [.str "qq"])) S := fun S => by
      show (if few (((ks.map (·.1)).map D.str).length + ([D.str "qq"] : List D).length) = true then Res.ok (D.lst ((ks.map (·.1)).map D.str ++ [.str "qq"])) S else .stuck) = _
      have hw : few (((ks.map (·.1)).map D.str).length + ([D.str "qq"] : List D).length) = true := decide_eq_true (by rw [List.length_map, List.length_map, List.length_singleton]; omega)
      rw [if_pos hw]
    generalize (ks.map (·.1)).map D.str = nm at *
    refine ⟨⟨1, n, f, kd, lb⟩, S4, a4, c4, hrun _ _ ((sSeq_nx (sIf_f (hc 0 _ _ rfl))).trans (sSeq_rt ((sIf_t (hc 1 _ _ rfl)).trans ((sSeq_nx (sAsg_ok (S1 := S4) (d := .str kd) ?_ rfl)).trans ?_)))), ⟨hn, hf, hkd, hLW⟩, rfl, P4, by omega, ?_, by rw [T4.len]; exact hl3, fun i h1 h2 => by rw [T4.old i h1]; exact ho3 i h1 h2⟩
    · simp only [mA, mOp, mLst, mCons, mNil, mV, mC, Res.bnd, List.getElem?_cons_zero, List.getElem?_cons_succ, List.length_cons, List.length_nil, Nat.reduceAdd, few1, if_true, hadd, e4]
    · unfold smD Pk.Sm.lines
      simp only [sRet, mTup, mLst, mCons, mNil, mOp, mV, mC, Res.bnd, Res.out, List.getElem?_cons_zero, List.getElem?_cons_succ, List.set_cons_zero, List.set_cons_succ, A _ _ _ (show ("head " : Str).length ≤ 200 by omega) (show lb.length ≤ 200 by omega), A _ _ _ (show ("head " ++ lb : Str).length ≤ 200 by rw [str_app]; omega) (show (" " : Str).length ≤ 200 by omega), A _ _ _ (show ("head " ++ lb ++ " " : Str).length ≤ 200 by rw [str_app, str_app]; omega) (show kd.length ≤ 200 by omega), A _ _ _ (show ("head " ++ lb ++ " " ++ kd : Str).length ≤ 200 by rw [str_app, str_app, str_app]; omega) (show (" x " : Str).length ≤ 200 by omega), A _ _ _ (show ("head " ++ lb ++ " " ++ kd ++ " x " : Str).length ≤ 200 by rw [str_app, str_app, str_app, str_app]; omega) (show r.length ≤ 200 by omega), List.length_cons, List.length_nil, Nat.reduceAdd, few0, few1, few2, few3, if_true, hr]
      rfl
    · rw [T4.old q (Ne.symm hpq)]; exact hq3
  · refine ⟨⟨2, n, f, "a", lb⟩, S3, a2, c3, hrun _ _ ((sSeq_nx (sIf_f (hc 0 _ _ rfl))).trans ((sSeq_nx (sIf_f (hc 1 _ _ rfl))).trans (sSeq_rt ((sIf_t (hc 2 _ _ rfl)).trans ?_)))), ⟨hn, hf, hWa, hLW⟩, rfl, P3, by omega, hq3, hl3, ho3⟩
    unfold smD Pk.Sm.lines
    simp only [sRet, mTup, mLst, mCons, mNil, mOp, mV, mC, Res.bnd, Res.out, List.getElem?_cons_zero, List.getElem?_cons_succ, A _ _ _ (show ("head " : Str).length ≤ 200 by omega) (show lb.length ≤ 200 by omega), A _ _ _ (show ("head " ++ lb : Str).length ≤ 200 by rw [str_app]; omega) (show (" - " : Str).length ≤ 200 by omega), A _ _ _ (show ("head " ++ lb ++ " - " : Str).length ≤ 200 by rw [str_app, str_app]; omega) (show r.length ≤ 200 by omega), List.length_cons, List.length_nil, Nat.reduceAdd, few0, few1, few2, few3, if_true, hr]
    rfl
  · refine ⟨⟨3, n, f, "a", lb⟩, S3, a2, c3, hrun _ _ ((sSeq_nx (sIf_f (hc 0 _ _ rfl))).trans ((sSeq_nx (sIf_f (hc 1 _ _ rfl))).trans ((sSeq_nx (sIf_f (hc 2 _ _ rfl))).trans ?_))), ⟨hn, hf, hWa, hLW⟩, rfl, P3, by omega, hq3, hl3, ho3⟩
    unfold smD Pk.Sm.lines
    simp only [sRet, mTup, mLst, mCons, mNil, mOp, mV, mC, Res.bnd, Res.out, List.getElem?_cons_zero, List.getElem?_cons_succ, A _ _ _ (show ("line " : Str).length ≤ 200 by omega) (show lb.length ≤ 200 by omega), A _ _ _ (show ("line " ++ lb : Str).length ≤ 200 by rw [str_app]; omega) (show (" y " : Str).length ≤ 200 by omega), A _ _ _ (show ("line " ++ lb ++ " y " : Str).length ≤ 200 by rw [str_app, str_app]; omega) (show r.length ≤ 200 by omega), List.length_cons, List.length_nil, Nat.reduceAdd, few0, few1, few2, few3, if_true, hr]
    rfl
end K04

set_option Elab.async false
set_option linter.all false
set_option maxRecDepth 100000
set_option maxHeartbeats 4000000
set_option exponentiation.threshold 2000
namespace K04
open PySem L2 Rdr TL

open Pk
/-! ### references -/
theorem fds_lk {ks : List Kd} (ok : KOk ks) : ∀ k ∈ ks, (fds ks).lookup k.1 = some (("key" : Str) :: k.2.2) := by
  induction ok with
  | nil => exact fun k h => by cases h
  | @snoc ks n o fs ok h1 h2 h3 h4 h5 h6 h7 h8 ih =>
    intro k hk
    have hm : (fds ks).map (·.1) = ks.map (·.1) := by unfold fds; rw [List.map_map]; rfl
    have e : fds (ks ++ [(n, o, fs)]) = fds ks ++ [(n, ("key" : Str) :: fs)] := by unfold fds; rw [List.map_append]; rfl
    rw [e, lookup_app]
    rcases List.mem_append.mp hk with z | z
    · rw [ih k z]
      rfl
    · cases List.mem_singleton.mp z
      rw [lookup_none (by rw [hm]; exact h3), lk, if_pos (by simp)]
      rfl
theorem ref_mem {ks : List Kd} (ok : KOk ks) {nr : List Str} {n f : Str} (hn : W n) : ref n f ∈ rfL ks nr ↔ Pk.refOk nr ks n f = true := by
  unfold rfL Pk.refOk
  rw [List.mem_flatMap, Bool.and_eq_true, List.contains_iff_mem, List.contains_iff_mem]
  constructor
  · rintro ⟨k, hk, h1⟩
    obtain ⟨hk1, hk2⟩ := List.mem_filter.mp hk
    have hk2 : k.1 ∈ nr := of_decide_eq_true hk2
    obtain ⟨f', hf, e⟩ := List.mem_map.mp h1
    obtain ⟨rfl, rfl⟩ := (ref_inj (pool_W (ok.names k hk1)) hn).mp e
    exact ⟨hk2, by rw [fds_lk ok k hk1]; exact hf⟩
  · rintro ⟨h1, h2⟩
    by_cases hm : n ∈ ks.map (·.1)
    · obtain ⟨k, hk, rfl⟩ := List.mem_map.mp hm
      rw [fds_lk ok k hk] at h2
      exact ⟨k, List.mem_filter.mpr ⟨hk, decide_eq_true h1⟩, List.mem_map_of_mem h2⟩
    · have hk : (fds ks).map (·.1) = ks.map (·.1) := by unfold fds; rw [List.map_map]; rfl
      rw [lookup_none (by rw [hk]; exact hm)] at h2
      cases h2
/-! ### what is due -/
theorem scan_snoc {nr : List Str} {ks : List Kd} {s : Sm} : ∀ (ss : List Sm) (n : Int), (scanS nr ks (ss ++ [s]) n).isBad = match (scanS nr ks ss n).isBad with
    | some b => some b
    | none => if okS nr ks s = true then none else some (n + ((smRows ss).length : Nat) + 1)
  | [], n => by
    show (scanS nr ks [s] n).isBad = if okS nr ks s = true then none else some (n + ((0 : Nat) : Int) + 1)
    unfold scanS
    by_cases h : okS nr ks s = true
    · rw [if_pos h, if_pos h]; rfl
    · rw [if_neg h, if_neg h]
      show some _ = some _
      congr 1
      omega
  | s' :: ss, n => by
    show (scanS nr ks (s' :: (ss ++ [s])) n).isBad = match (scanS nr ks (s' :: ss) n).isBad with
    | some b => some b
    | none => if okS nr ks s = true then none else some (n + ((smRows (s' :: ss)).length : Nat) + 1)
    unfold scanS
    by_cases h : okS nr ks s' = true
    · rw [if_pos h, if_pos h, scan_snoc ss]
      have e : n + ((s'.rows.length : Nat) : Int) + ((smRows ss).length : Nat) + 1 = n + ((smRows (s' :: ss)).length : Nat) + 1 := by
        unfold smRows
        rw [List.flatMap_cons, List.length_append]
        omega
      rw [e]
    · rw [if_neg h, if_neg h]
      rfl
theorem smRows_snoc {ss : List Sm} {s : Sm} : smRows (ss ++ [s]) = smRows ss ++ s.rows := by
  unfold smRows
  rw [List.flatMap_append]
  show _ ++ (s.rows ++ []) = _
  rw [List.append_nil]
/-! ### sizes of rows -/
theorem nl_app {a b : Str} (h1 : 10 ∉ tl a) (h2 : 10 ∉ tl b) : 10 ∉ tl (a ++ b) := by
  rw [tl_append]
  exact fun z => (List.mem_append.mp z).elim h1 h2
theorem rowOk_of {x : Str} {d : Int} {ws : List Str} (h : parted x = (d, ws)) (hl : x.length ≤ 100) (hn : 10 ∉ tl x) (hc : ws.length ≤ 20) (hw : ∀ w ∈ ws, okw w = true) : RowOk x := ⟨hl, hn, by rw [h]; exact hc, by rw [h]; exact hw⟩
theorem lit_nl : 10 ∉ tl ("kind " : Str) ∧ 10 ∉ tl (" in " : Str) ∧ 10 ∉ tl ("" : Str) ∧ 10 ∉ tl ("  field " : Str) ∧ 10 ∉ tl ("pass" : Str) ∧ 10 ∉ tl ("  " : Str) ∧ 10 ∉ tl ("    " : Str) ∧ 10 ∉ tl ("if " : Str) ∧ 10 ∉ tl (" is x" : Str) ∧ 10 ∉ tl ("  line " : Str) ∧ 10 ∉ tl (" x" : Str) ∧ 10 ∉ tl ("head " : Str) ∧ 10 ∉ tl (" " : Str) ∧ 10 ∉ tl (" x " : Str) ∧ 10 ∉ tl (" - " : Str) ∧ 10 ∉ tl ("line " : Str) ∧ 10 ∉ tl (" y " : Str) ∧ 10 ∉ tl ("open " : Str) ∧ 10 ∉ tl ("close " : Str) ∧ 10 ∉ tl ("begin" : Str) ∧ 10 ∉ tl ("end" : Str) := by decide +kernel
theorem lit_len : ("kind " : Str).length = 5 ∧ (" in " : Str).length = 4 ∧ ("" : Str).length = 0 ∧ ("  field " : Str).length = 8 ∧ ("pass" : Str).length = 4 ∧ ("  " : Str).length = 2 ∧ ("    " : Str).length = 4 ∧ ("if " : Str).length = 3 ∧ (" is x" : Str).length = 5 ∧ ("  line " : Str).length = 7 ∧ (" x" : Str).length = 2 ∧ ("head " : Str).length = 5 ∧ (" " : Str).length = 1 ∧ (" x " : Str).length = 3 ∧ (" - " : Str).length = 3 ∧ ("line " : Str).length = 5 ∧ (" y " : Str).length = 3 ∧ ("open " : Str).length = 5 ∧ ("close " : Str).length = 6 ∧ ("begin" : Str).length = 5 ∧ ("end" : Str).length = 3 := by decide +kernel
theorem lit_ok : okw "kind" = true ∧ okw "in" = true ∧ okw "field" = true ∧ okw "pass" = true ∧ okw "line" = true ∧ okw "x" = true ∧ okw "open" = true ∧ okw "close" = true ∧ okw "begin" = true ∧ okw "end" = true := by decide +kernel
theorem kind_row {n o : Str} (hn : n ∈ pool) (ho : o = "" ∨ o ∈ pool) : RowOk (kindLine n o) := by
  obtain ⟨n1, n2, n3, _⟩ := lit_nl
  obtain ⟨l1, l2, l3, _⟩ := lit_len
  obtain ⟨o1, o2, _⟩ := lit_ok
  have h1 := pool_W hn
  refine rowOk_of (kind_pr hn ho) ?_ ?_ ?_ ?_
  · unfold kindLine
    have h3 := h1.no.2.2.2.2
    rw [str_app, str_app]
    split
    · omega
    · rename_i hne
      have h4 := (pool_W (ho.resolve_left hne)).no.2.2.2.2
      rw [str_app]
      omega
  · unfold kindLine
    refine nl_app (nl_app n1 h1.no.2.2.1) ?_
    split
    · exact n3
    · rename_i hne
      exact nl_app n2 (pool_W (ho.resolve_left hne)).no.2.2.1
  · split <;> simp
  · intro w hw
    split at hw
    · simp only [List.mem_cons, List.not_mem_nil, or_false] at hw
      rcases hw with rfl | rfl
      · exact o1
      · exact h1.ok
    · rename_i hne
      simp only [List.mem_cons, List.not_mem_nil, or_false] at hw
      rcases hw with rfl | rfl | rfl | rfl
      · exact o1
      · exact h1.ok
      · exact o2
      · exact (pool_W (ho.resolve_left hne)).ok
theorem field_row {f : Str} (hf : f ∈ pool) : RowOk (fieldLine f) := by
  have h1 := pool_W hf
  refine rowOk_of (field_pr hf) ?_ ?_ (by simp) ?_
  · unfold fieldLine
    have h3 := h1.no.2.2.2.2
    have := lit_len.2.2.2.1
    rw [str_app]
    omega
  · exact nl_app lit_nl.2.2.2.1 h1.no.2.2.1
  · intro w hw
    simp only [List.mem_cons, List.not_mem_nil, or_false] at hw
    rcases hw with rfl | rfl
    · exact lit_ok.2.2.1
    · exact h1.ok
theorem pass_row : RowOk "pass" := rowOk_of pass_pr (by decide +kernel) (by decide +kernel) (by decide) fun w hw => by
  cases List.mem_singleton.mp hw
  exact lit_ok.2.2.2.1
theorem sm_row {s : Sm} (h : SmOk s) : ∀ x ∈ s.rows, RowOk x := by
  obtain ⟨k1, k2, k3, k4, k5, k6, n7, n8, n9, n10, n11, n12, n13, n14, n15, n16, n17, _⟩ := lit_nl
  obtain ⟨j1, j2, j3, j4, j5, j6, l7, l8, l9, l10, l11, l12, l13, l14, l15, l16, l17, _⟩ := lit_len
  obtain ⟨x, hx, hp⟩ := line1_pr h
  have hw := fun w hw => (ws_lw h w hw).c
  have hr := ref_no h.n h.f
  have hl := h.lab.no
  have hk := h.kd.no
  have hL := h.lab.ok
  obtain ⟨way, n, f, kd, lab⟩ := s
  match way with
  | 0 =>
    cases hx
    intro y hy
    rcases List.mem_cons.mp hy with rfl | hy
    · refine rowOk_of hp ?_ ?_ (by show 4 ≤ 20; decide) hw
      · rw [str_app, str_app, str_app]; have := hr.2.2.2; omega
      · exact nl_app n7 (nl_app (nl_app n8 hr.2.1) n9)
    · cases List.mem_singleton.mp hy
      refine rowOk_of (line2_pr h.lab) ?_ ?_ (by simp) ?_
      · rw [str_app, str_app, str_app]; have := hl.2.2.2.2; omega
      · exact nl_app n7 (nl_app (nl_app n10 hl.2.2.1) n11)
      · intro w hw
        simp only [List.mem_cons, List.not_mem_nil, or_false] at hw
        rcases hw with rfl | rfl | rfl
        · exact lit_ok.2.2.2.2.1
        · exact hL
        · exact lit_ok.2.2.2.2.2.1
  | 1 =>
    cases hx
    intro y hy
    cases List.mem_singleton.mp hy
    refine rowOk_of hp ?_ ?_ (by show 5 ≤ 20; decide) hw
    · rw [str_app, str_app, str_app, str_app, str_app, str_app]; have := hr.2.2.2; have := hl.2.2.2.2; have := hk.2.2.2.2; omega
    · exact nl_app n7 (nl_app (nl_app (nl_app (nl_app (nl_app n12 hl.2.2.1) n13) hk.2.2.1) n14) hr.2.1)
  | 2 =>
    cases hx
    intro y hy
    cases List.mem_singleton.mp hy
    refine rowOk_of hp ?_ ?_ (by show 4 ≤ 20; decide) hw
    · rw [str_app, str_app, str_app, str_app]; have := hr.2.2.2; have := hl.2.2.2.2; omega
    · exact nl_app n7 (nl_app (nl_app (nl_app n12 hl.2.2.1) n15) hr.2.1)
  | m + 3 =>
    cases hx
    intro y hy
    cases List.mem_singleton.mp hy
    refine rowOk_of hp ?_ ?_ (by show 4 ≤ 20; decide) hw
    · rw [str_app, str_app, str_app, str_app]; have := hr.2.2.2; have := hl.2.2.2.2; omega
    · exact nl_app n7 (nl_app (nl_app (nl_app n16 hl.2.2.1) n17) hr.2.1)
/-! ### heads -/
structure HdOk (ks : List Kd) (home hd : Str) : Prop where
  tq : ∃ tq : Str × Str, Tq ks tq hd ∧ tq.2 = home
  row : RowOk ("  " ++ hd)
theorem hd_begin {ks : List Kd} {hd : Str} (h : hd = "begin" ∨ hd = "end") : HdOk ks "" hd := by
  rcases h with rfl | rfl
  · have hp : parted ("  " ++ "begin") = ((2 : Int), hws ("begin", "")) := by decide +kernel
    exact ⟨⟨("begin", ""), ⟨List.mem_append_left _ (List.mem_append_left _ (List.mem_cons_self ..)), hp, by decide +kernel⟩, rfl⟩, rowOk_of hp (by decide +kernel) (by decide +kernel) (by decide +kernel) (by decide +kernel)⟩
  · have hp : parted ("  " ++ "end") = ((2 : Int), hws ("end", "")) := by decide +kernel
    exact ⟨⟨("end", ""), ⟨List.mem_append_right _ (List.mem_cons_self ..), hp, by decide +kernel⟩, rfl⟩, rowOk_of hp (by decide +kernel) (by decide +kernel) (by decide +kernel) (by decide +kernel)⟩
theorem hd_open {ks : List Kd} (ok : KOk ks) {n hd : Str} (hn : n ∈ ks.map (·.1)) (h : hd = "open " ++ n ∨ hd = "close " ++ n) : HdOk ks n hd := by
  obtain ⟨k, hk, rfl⟩ := List.mem_map.mp hn
  have h1 := pool_W (ok.names k hk)
  obtain ⟨a1, a2, a3, a4, a5⟩ := h1.no
  have key : ∀ v : Str, v = "open" ∨ v = "close" → hd = v ++ " " ++ k.1 → HdOk ks k.1 hd := by
    intro v hv e
    subst e
    have hvo : 32 ∉ tl v ∧ v ≠ "" ∧ okw v = true ∧ 10 ∉ tl v ∧ v.length ≤ 5 ∧ v ≠ "cell" := by
      rcases hv with rfl | rfl <;> decide +kernel
    obtain ⟨v1, v2, v3, v4, v5, v6⟩ := hvo
    have t0 : tl ("  " : Str) = [32, 32] := by decide +kernel
    have t1 : tl (" " : Str) = [32] := by decide +kernel
    have n1 : 10 ∉ tl (" " : Str) := by decide +kernel
    have e1 : hws (v, k.1) = [v, k.1] := if_neg a4
    have hp : parted ("  " ++ (v ++ " " ++ k.1)) = ((2 : Int), hws (v, k.1)) := by
      rw [e1]
      refine parted_of (n := 2) (by simp) (fun w hw => ?_) (fun w hw => ?_) ?_
      · simp only [List.mem_cons, List.not_mem_nil, or_false] at hw
        rcases hw with rfl | rfl
        · exact v1
        · exact a1
      · simp only [List.mem_cons, List.not_mem_nil, or_false] at hw
        rcases hw with rfl | rfl
        · exact v2
        · exact a4
      · rw [tl_append, tl_append, tl_append, t0, t1]
        simp [joinL, List.replicate]
    refine ⟨⟨(v, k.1), ⟨List.mem_append_left _ (List.mem_append_right _ (List.mem_flatMap.mpr ⟨k, hk, ?_⟩)), hp, ?_⟩, rfl⟩, rowOk_of hp ?_ ?_ ?_ ?_⟩
    · rcases hv with rfl | rfl
      · exact List.mem_cons_self ..
      · exact List.mem_cons_of_mem _ (List.mem_cons_self ..)
    · rw [e1]
      intro z
      exact v6 (by injection z)
    · have h2 := lit_len
      rw [str_app, str_app, str_app]
      omega
    · exact nl_app lit_nl.2.2.2.2.2.1 (nl_app (nl_app v4 n1) a3)
    · rw [e1]; simp
    · rw [e1]
      intro w hw
      simp only [List.mem_cons, List.not_mem_nil, or_false] at hw
      rcases hw with rfl | rfl
      · exact v3
      · exact h1.ok
  have eo : ("open " : Str) = "open" ++ " " := by decide +kernel
  have ec : ("close " : Str) = "close" ++ " " := by decide +kernel
  rcases h with e | e
  · exact key "open" (.inl rfl) (by rw [e, eo])
  · exact key "close" (.inr rfl) (by rw [e, ec])
theorem kd_outer {ks : List Kd} (ok : KOk ks) : ∀ k ∈ ks, k.2.1 = "" ∨ k.2.1 ∈ ks.map (·.1) := by
  induction ok with
  | nil => exact fun k h => by cases h
  | @snoc ks n o fs ok h1 h2 h3 h4 h5 h6 h7 h8 ih =>
    intro k hk
    rw [List.map_append]
    rcases List.mem_append.mp hk with z | z
    · exact (ih k z).imp id fun y => List.mem_append_left _ y
    · cases List.mem_singleton.mp z
      exact h4.imp id fun y => List.mem_append_left _ y
/-- THE PAGE: what is told of it -/
theorem page_told {ks : List Kd} {home hd : Str} {ss : List Sm} (ok : KOk ks) (h0 : ks ≠ []) (hl : ks.length ≤ 4) (hh : HdOk ks home hd) (ho : ∀ s ∈ ss, SmOk s) (hnd : (ss.map (·.lab)).Nodup) (h6 : ss.length ≤ 6) (h1 : 0 < ss.length) :
    fits (Txt.join "\n" (pageRows ks hd ss)) = true ∧ ((pageRows ks hd ss).map (·.length)).sum + (pageRows ks hd ss).length * ("\n" : Str).length ≤ 16777216 ∧ (readM (start (Txt.join "\n" (pageRows ks hd ss)))).isBad = (scanS (nearK ks home) ks ss (((ksRows ks).length + 2 : Nat) : Int)).isBad := by
  obtain ⟨⟨tq, ht, rfl⟩, hrow⟩ := hh
  have hr : ∀ x ∈ pageRows ks hd ss, RowOk x := by
    intro x hx
    unfold pageRows at hx
    rcases List.mem_append.mp hx with z | z
    · obtain ⟨k, hk, z⟩ := List.mem_flatMap.mp z
      rcases List.mem_cons.mp z with rfl | z
      · refine kind_row (ok.names k hk) ?_
        have := kd_outer ok k hk
        rcases this with y | y
        · exact .inl y
        · obtain ⟨k', hk', e⟩ := List.mem_map.mp y
          exact .inr (by rw [← e]; exact ok.names k' hk')
      · obtain ⟨f, hf, rfl⟩ := List.mem_map.mp z
        exact field_row (ok.fpool k hk f hf)
    · rcases List.mem_cons.mp z with rfl | z
      · exact pass_row
      · rcases List.mem_cons.mp z with rfl | z
        · exact hrow
        · obtain ⟨s, hs, z⟩ := List.mem_flatMap.mp z
          exact sm_row (ho s hs) x z
  have hlen : (pageRows ks hd ss).length ≤ 100 := by
    have e1 : (ksRows ks).length ≤ 3 * ks.length := by
      have h2 := kd_two ok
      clear hr ho hnd ht hrow ok h0 hl
      induction ks with
      | nil => exact Nat.le_refl _
      | cons k l ih =>
        have := ih fun k hk => h2 k (List.mem_cons_of_mem _ hk)
        have h3 := h2 k (List.mem_cons_self ..)
        unfold ksRows at this ⊢
        rw [List.flatMap_cons, List.length_append, List.length_cons]
        have : (kRows k).length ≤ 3 := by unfold kRows; rw [List.length_cons, List.length_map]; omega
        omega
    have e2 : (smRows ss).length ≤ 2 * ss.length := by
      clear hr ho hnd h6 h1
      induction ss with
      | nil => exact Nat.le_refl _
      | cons s l ih =>
        unfold smRows at ih ⊢
        rw [List.flatMap_cons, List.length_append, List.length_cons]
        have : s.rows.length ≤ 2 := by
          unfold Sm.rows
          rw [List.length_map]
          obtain ⟨way, n, f, kd, lab⟩ := s
          match way with
          | 0 => exact Nat.le_refl _
          | 1 => exact (by decide : 1 ≤ 2)
          | 2 => exact (by decide : 1 ≤ 2)
          | m + 3 => exact (by decide : 1 ≤ 2)
        omega
    unfold pageRows
    rw [List.length_append, List.length_cons, List.length_cons]
    omega
  obtain ⟨f1, f2, f3⟩ := fits_rows hr hlen (by unfold pageRows; simp)
  exact ⟨f1, f2, read_page ok h0 ht ho hnd h6 h1 f3⟩
end K04

set_option Elab.async false
set_option linter.all false
set_option maxRecDepth 100000
set_option maxHeartbeats 4000000
set_option exponentiation.threshold 2000
namespace K04
open PySem L2 Rf

open Pk (pool W Kd KOk chs nearK ref Sm SmOk kindLine fieldLine kRows ksRows)
theorem row_turn {k : Kd} (hn : k.1 ∈ pool) (ho : k.2.1 = "" ∨ k.2.1 ∈ pool) (hf : ∀ f ∈ k.2.2, f ∈ pool) (h2 : k.2.2.length ≤ 2) {n : Nat} {S : Sto} {rows : List Str} (hS : S[n]? = some (.lst (rows.map D.str))) (hr : rows.length ≤ 100) {a0 a1 : Option D} :
    (sSeq (sExpr (mApp (mV 2) (mOp dAddL (mOp dAddL (mC (.str "kind ")) (mV 3)) (mIf (mB (mOp dNe (mV 4) (mC (.str "")))) (mOp dAddL (mC (.str " in ")) (mV 4)) (mC (.str ""))))))
    (sAsg (mOp dAddC (mV 2) (mLc (mVal (mV 5)) (gV 16) mYes (mOp dAddL (mC (.str "  field ")) (mV 16)) (([("_law_field", 16)] : List (Str × Nat)).map (·.2)))) (gV 2))) [a0, a1, some (.loc n), some (.str k.1), some (.str k.2.1), some (.tup (k.2.2.map D.str)), none, none, none, none, none, none, none, none, none, none, none, none, none, none, none] S = .nx [a0, a1, some (.loc S.length), some (.str k.1), some (.str k.2.1), some (.tup (k.2.2.map D.str)), none, none, none, none, none, none, none, none, none, none, none, none, none, none, none] (S.set n (.lst ((rows ++ [kindLine k.1 k.2.1]).map D.str)) ++ [.lst ((rows ++ kRows k).map D.str)]) := by
  have hnS : n < S.length := (List.getElem?_eq_some_iff.mp hS).1
  have hnl := pool_len hn
  have l1 : ("kind " : Str).length = 5 ∧ (" in " : Str).length = 4 ∧ ("" : Str).length = 0 ∧ ("  field " : Str).length = 8 := by decide +kernel
  obtain ⟨l1, l2, l3, l4⟩ := l1
  have hk : (mOp dAddL (mOp dAddL (mC (.str "kind ")) (mV 3)) (mIf (mB (mOp dNe (mV 4) (mC (.str "")))) (mOp dAddL (mC (.str " in ")) (mV 4)) (mC (.str "")))) [a0, a1, some (.loc n), some (.str k.1), some (.str k.2.1), some (.tup (k.2.2.map D.str)), none, none, none, none, none, none, none, none, none, none, none, none, none, none, none] S = .ok (.str (kindLine k.1 k.2.1)) S := by
    have hc : (mB (mOp dNe (mV 4) (mC (.str "")))) [a0, a1, some (.loc n), some (.str k.1), some (.str k.2.1), some (.tup (k.2.2.map D.str)), none, none, none, none, none, none, none, none, none, none, none, none, none, none, none] S = .ok (!decide (k.2.1 = "")) S := by
      show (ofB S (neD S (.str k.2.1) (.str ""))).bnd _ = _
      rw [ne_nm ho]
      rfl
    have hI : (mIf (mB (mOp dNe (mV 4) (mC (.str "")))) (mOp dAddL (mC (.str " in ")) (mV 4)) (mC (.str ""))) [a0, a1, some (.loc n), some (.str k.1), some (.str k.2.1), some (.tup (k.2.2.map D.str)), none, none, none, none, none, none, none, none, none, none, none, none, none, none, none] S = .ok (.str (if k.2.1 = "" then ("" : Str) else " in " ++ k.2.1)) S := by
      unfold mIf
      rw [hc]
      by_cases h : k.2.1 = ""
      · rw [decide_eq_true h, if_pos h]
        rfl
      · rw [decide_eq_false h, if_neg h]
        have hol := pool_len (ho.resolve_left h)
        show dAddL (.str " in ") (.str k.2.1) S = _
        exact add_str (by omega)
    have hil : (if k.2.1 = "" then ("" : Str) else " in " ++ k.2.1).length ≤ 20 := by
      by_cases h : k.2.1 = ""
      · rw [if_pos h]; omega
      · rw [if_neg h, str_app]
        have hol := pool_len (ho.resolve_left h)
        omega
    generalize (mIf (mB (mOp dNe (mV 4) (mC (.str "")))) (mOp dAddL (mC (.str " in ")) (mV 4)) (mC (.str ""))) = I at hI ⊢
    show ((dAddL (.str "kind ") (.str k.1) S).bnd fun x S1 => (I _ S1).bnd fun y S2 => dAddL x y S2) = _
    rw [add_str (by omega)]
    show ((I _ S).bnd fun y S2 => dAddL (.str ("kind " ++ k.1)) y S2) = _
    rw [hI]
    simp only [Res.bnd]
    rw [add_str (by rw [str_app]; omega)]
    rfl
  have fewr : few (rows.map D.str).length = true := decide_eq_true (by rw [List.length_map]; omega)
  obtain ⟨S1, hS1⟩ : ∃ S1, S.set n (.lst ((rows ++ [kindLine k.1 k.2.1]).map D.str)) = S1 := ⟨_, rfl⟩
  have hl1 : S1.length = S.length := by rw [← hS1, List.length_set]
  have hn1 : S1[n]? = some (.lst ((rows ++ [kindLine k.1 k.2.1]).map D.str)) := by rw [← hS1, List.getElem?_set_self hnS]
  have s1 : (sExpr (mApp (mV 2) (mOp dAddL (mOp dAddL (mC (.str "kind ")) (mV 3)) (mIf (mB (mOp dNe (mV 4) (mC (.str "")))) (mOp dAddL (mC (.str " in ")) (mV 4)) (mC (.str "")))))) [a0, a1, some (.loc n), some (.str k.1), some (.str k.2.1), some (.tup (k.2.2.map D.str)), none, none, none, none, none, none, none, none, none, none, none, none, none, none, none] S = .nx [a0, a1, some (.loc n), some (.str k.1), some (.str k.2.1), some (.tup (k.2.2.map D.str)), none, none, none, none, none, none, none, none, none, none, none, none, none, none, none] S1 := by
    generalize (mOp dAddL (mOp dAddL (mC (.str "kind ")) (mV 3)) (mIf (mB (mOp dNe (mV 4) (mC (.str "")))) (mOp dAddL (mC (.str " in ")) (mV 4)) (mC (.str "")))) = L at hk ⊢
    have hset : S.set n (.lst (rows.map D.str ++ [.str (kindLine k.1 k.2.1)])) = S1 := by
      rw [← hS1, List.map_append]
      rfl
    simp only [sExpr, mApp, mV, Res.bnd, Res.out, List.getElem?_cons_zero, List.getElem?_cons_succ, hS, lstOf, Option.isSome_some, if_true, hk, fewr, hset]
  have hL := lcL_fm (g := gV 16) (mt := mYes) (me := mOp dAddL (mC (.str "  field ")) (mV 16)) (ρ0 := [a0, a1, some (.loc n), some (.str k.1), some (.str k.2.1), some (.tup (k.2.2.map D.str)), none, none, none, none, none, none, none, none, none, none, none, none, none, none, none]) (S := S1)
    (p := fun _ => true) (f := fun d => match d with
      | .str f => .str (fieldLine f)
      | d => d) (ds := k.2.2.map D.str) (acc := []) (fun d hd => by
    obtain ⟨f, hf1, rfl⟩ := List.mem_map.mp hd
    refine ⟨_, rfl, rfl, fun _ => ?_⟩
    have hfl := pool_len (hf f hf1)
    show dAddL (.str "  field ") (.str f) S1 = _
    rw [add_str (by omega)]
    rfl) (by simp; omega)
  have hX : (mLc (mVal (mV 5)) (gV 16) mYes (mOp dAddL (mC (.str "  field ")) (mV 16)) (([("_law_field", 16)] : List (Str × Nat)).map (·.2))) [a0, a1, some (.loc n), some (.str k.1), some (.str k.2.1), some (.tup (k.2.2.map D.str)), none, none, none, none, none, none, none, none, none, none, none, none, none, none, none] S1 = .ok (.lst ((k.2.2.map fieldLine).map D.str)) S1 := by
    unfold mLc
    show (lcL free (gV 16) mYes (mOp dAddL (mC (.str "  field ")) (mV 16)) [a0, a1, some (.loc n), some (.str k.1), some (.str k.2.1), some (.tup (k.2.2.map D.str)), none, none, none, none, none, none, none, none, none, none, none, none, none, none, none] _ [] S1).thn _ = _
    rw [hL, List.filter_eq_self.mpr (fun _ _ => rfl), List.nil_append, List.map_map, List.map_map]
    rfl
  have s2 : (sAsg (mOp dAddC (mV 2) (mLc (mVal (mV 5)) (gV 16) mYes (mOp dAddL (mC (.str "  field ")) (mV 16)) (([("_law_field", 16)] : List (Str × Nat)).map (·.2)))) (gV 2)) [a0, a1, some (.loc n), some (.str k.1), some (.str k.2.1), some (.tup (k.2.2.map D.str)), none, none, none, none, none, none, none, none, none, none, none, none, none, none, none] S1 = .nx [a0, a1, some (.loc S.length), some (.str k.1), some (.str k.2.1), some (.tup (k.2.2.map D.str)), none, none, none, none, none, none, none, none, none, none, none, none, none, none, none] (S1 ++ [.lst ((rows ++ kRows k).map D.str)]) := by
    generalize (mLc (mVal (mV 5)) (gV 16) mYes (mOp dAddL (mC (.str "  field ")) (mV 16)) (([("_law_field", 16)] : List (Str × Nat)).map (·.2))) = L at hX ⊢
    refine sAsg_ok (S1 := S1 ++ [.lst ((rows ++ kRows k).map D.str)]) (d := .loc S.length) ?_ rfl
    show (L _ S1).bnd (fun y S2 => dAddC (.loc n) y S2) = _
    rw [hX]
    show (match lstOf S1[n]?, some ((k.2.2.map fieldLine).map D.str) with
      | some a, some b => if few (a.length + b.length) = true then Res.ok (D.loc S1.length) (S1 ++ [D.lst (a ++ b)]) else .stuck
      | _, _ => .stuck) = _
    rw [hn1]
    show (if few (((rows ++ [kindLine k.1 k.2.1]).map D.str).length + ((k.2.2.map fieldLine).map D.str).length) = true then Res.ok (D.loc S1.length) (S1 ++ [.lst ((rows ++ [kindLine k.1 k.2.1]).map D.str ++ (k.2.2.map fieldLine).map D.str)]) else .stuck) = _
    rw [if_pos (by refine decide_eq_true ?_; rw [List.length_map, List.length_map, List.length_map, List.length_append, List.length_singleton]; omega), hl1, ← List.map_append, List.append_assoc]
    rfl
  rw [sSeq_nx s1, s2, ← hS1]
theorem Cl.push {S : Sto} {d : D} (h : Cl S) (hd : nlt (S.length + 1) d = true) : Cl (S ++ [d]) := fun e he => by
  rw [List.length_append, List.length_singleton]
  rcases List.mem_append.mp he with z | z
  · exact nlt_up (by omega) e (h e z)
  · cases List.mem_singleton.mp z
    exact hd
theorem Cl.set {S : Sto} {d : D} {i : Nat} (h : Cl S) (hd : nlt S.length d = true) : Cl (S.set i d) := fun e he => by
  rw [List.length_set]
  rcases List.mem_or_eq_of_mem_set he with z | rfl
  · exact h e z
  · exact hd
theorem strs_nlt {n : Nat} {ws : List Str} : nlt n (.lst (ws.map D.str)) = true := by
  rw [nlt]
  exact nlts_strs _
theorem rows_len {ks : List Kd} (h2 : ∀ k ∈ ks, k.2.2.length ≤ 2) : (ksRows ks).length ≤ 3 * ks.length := by
  induction ks with
  | nil => exact Nat.le_refl _
  | cons k l ih =>
    have := ih fun k hk => h2 k (List.mem_cons_of_mem _ hk)
    have h3 := h2 k (List.mem_cons_self ..)
    unfold ksRows at this ⊢
    rw [List.flatMap_cons, List.length_append, List.length_cons]
    have : (kRows k).length ≤ 3 := by unfold kRows; rw [List.length_cons, List.length_map]; omega
    omega
/-- the rows of the kinds -/
theorem rows_ok {ks : List Kd} (ok : KOk ks) (hl : ks.length ≤ 4) {p q : Nat} {S : Sto} {c0 : Int} (hq : S[q]? = some (.dk (mD ks c0))) (hC : Cl S) :
    ∃ x3 x4 x5 n S', (sFor (mVal (mDGet (mV 1) (mC (.str "kinds")))) (gTp 3 (gsCons (gV 3) (gsCons (gV 4) (gsCons (gV 5) gsNil))))
    (sSeq (sExpr (mApp (mV 2) (mOp dAddL (mOp dAddL (mC (.str "kind ")) (mV 3)) (mIf (mB (mOp dNe (mV 4) (mC (.str "")))) (mOp dAddL (mC (.str " in ")) (mV 4)) (mC (.str ""))))))
    (sAsg (mOp dAddC (mV 2) (mLc (mVal (mV 5)) (gV 16) mYes (mOp dAddL (mC (.str "  field ")) (mV 16)) (([("_law_field", 16)] : List (Str × Nat)).map (·.2)))) (gV 2)))) [some (.loc p), some (.loc q), some (.loc S.length), none, none, none, none, none, none, none, none, none, none, none, none, none, none, none, none, none, none] (S ++ [.lst []]) = .nx [some (.loc p), some (.loc q), some (.loc n), x3, x4, x5, none, none, none, none, none, none, none, none, none, none, none, none, none, none, none] S' ∧ S'[n]? = some (.lst ((ksRows ks).map D.str)) ∧ S.length ≤ n ∧ S.length < S'.length ∧ (∀ i, i < S.length → S'[i]? = S[i]?) ∧ Cl S' := by
  have hqS : q < S.length := (List.getElem?_eq_some_iff.mp hq).1
  have ho : ∀ k ∈ ks, k.2.1 = "" ∨ k.2.1 ∈ pool := fun k hk => (kd_outer ok k hk).imp id fun y => by
    obtain ⟨k', hk', e⟩ := List.mem_map.mp y
    rw [← e]
    exact ok.names k' hk'
  have hB := fun {k : Kd} (hk : k ∈ ks) {n : Nat} {S : Sto} {rows : List Str} (hS : S[n]? = some (.lst (rows.map D.str))) (hr : rows.length ≤ 100) {a0 a1 : Option D} => row_turn (k := k) (ok.names k hk) (ho k hk) (ok.fpool k hk) (kd_two ok k hk) hS hr (a0 := a0) (a1 := a1)
  obtain ⟨ρ', S', ⟨n, x3, x4, x5, rfl, hR⟩, hF⟩ := forL_at (g := (gTp 3 (gsCons (gV 3) (gsCons (gV 4) (gsCons (gV 5) gsNil))))) (b := (sSeq (sExpr (mApp (mV 2) (mOp dAddL (mOp dAddL (mC (.str "kind ")) (mV 3)) (mIf (mB (mOp dNe (mV 4) (mC (.str "")))) (mOp dAddL (mC (.str " in ")) (mV 4)) (mC (.str ""))))))
    (sAsg (mOp dAddC (mV 2) (mLc (mVal (mV 5)) (gV 16) mYes (mOp dAddL (mC (.str "  field ")) (mV 16)) (([("_law_field", 16)] : List (Str × Nat)).map (·.2)))) (gV 2)))) (fun j ρ S' => ∃ n x3 x4 x5, ρ = [some (.loc p), some (.loc q), some (.loc n), x3, x4, x5, none, none, none, none, none, none, none, none, none, none, none, none, none, none, none] ∧ S'[n]? = some (.lst ((ksRows (ks.take j)).map D.str)) ∧ S.length ≤ n ∧ S.length < S'.length ∧ (∀ i, i < S.length → S'[i]? = S[i]?) ∧ Cl S')
    (ds := ks.map kD) (ρ := [some (.loc p), some (.loc q), some (.loc S.length), none, none, none, none, none, none, none, none, none, none, none, none, none, none, none, none, none, none]) (S := S ++ [.lst []]) ⟨S.length, none, none, none, rfl, get_new, Nat.le_refl _, by simp, fun i hi => List.getElem?_append_left hi, hC.push (by rw [nlt]; rfl)⟩ fun j d ρ S1 hd hR => by
    obtain ⟨n, x3, x4, x5, rfl, hn, hle, hlt, hold, hC1⟩ := hR
    rw [List.getElem?_map] at hd
    obtain ⟨k, hk, rfl⟩ := Option.map_eq_some_iff.mp hd
    obtain ⟨hj, rfl⟩ := List.getElem?_eq_some_iff.mp hk
    have hlen := rows_len (ks := ks.take j) fun k hk => kd_two ok k (List.mem_of_mem_take hk)
    have hlt4 : (ks.take j).length ≤ 4 := by rw [List.length_take]; omega
    have hn1 : n < S1.length := (List.getElem?_eq_some_iff.mp hn).1
    refine ⟨_, _, _, _, rfl, hB (List.getElem_mem hj) hn (by omega), S1.length, some (.str ks[j].1), some (.str ks[j].2.1), some (.tup (ks[j].2.2.map D.str)), rfl, ?_, by omega, by simp; omega, fun i hi => ?_, ?_⟩
    · have e : ksRows (ks.take (j + 1)) = ksRows (ks.take j) ++ kRows ks[j] := by
        rw [List.take_succ, hk, Option.toList_some]
        unfold ksRows
        rw [List.flatMap_append]
        show _ ++ (kRows ks[j] ++ []) = _
        rw [List.append_nil]
      rw [e, List.getElem?_append_right (by rw [List.length_set]; exact Nat.le_refl _), List.length_set, Nat.sub_self]
      rfl
    · rw [List.getElem?_append_left (by rw [List.length_set]; omega), List.getElem?_set_ne (by omega)]
      exact hold i hi
    · exact (hC1.set strs_nlt).push strs_nlt
  obtain ⟨hn, hle, hlt, hold, hC1⟩ := hR
  rw [List.length_map, List.take_length] at hn
  refine ⟨x3, x4, x5, n, S', ?_, hn, hle, hlt, hold, hC1⟩
  have s2 : mVal (mDGet (mV 1) (mC (.str "kinds"))) [some (.loc p), some (.loc q), some (.loc S.length), none, none, none, none, none, none, none, none, none, none, none, none, none, none, none, none, none, none] (S ++ [.lst []]) = .ok ⟨ks.map kD, free⟩ (S ++ [.lst []]) := by
    have hq' : (S ++ [D.lst []])[q]? = some (.dk (mD ks c0)) := by rw [List.getElem?_append_left hqS]; exact hq
    simp only [mVal, mDGet, mV, mC, Res.bnd, List.getElem?_cons_zero, List.getElem?_cons_succ, dkOf, hq', Rf.keyOf, mD_k, srcOf]
  exact sFor_ok s2 hF
end K04

set_option Elab.async false
set_option linter.all false
set_option maxRecDepth 100000
set_option maxHeartbeats 4000000
set_option exponentiation.threshold 2000
namespace K04
open PySem L2 Rf

open Pk (pool W Kd KOk chs nearK ref Sm SmOk kindLine fieldLine kRows ksRows)
theorem Pot.push {p : Nat} {S : Sto} {a b c : Int} {d : D} (h : Pot S p a b c) : Pot (S ++ [d]) p a b c := by
  have hp := h.lt
  obtain ⟨z1, z2, z3, z4, z5, z6⟩ := h
  exact ⟨by rw [List.getElem?_append_left hp]; exact z1, z2, z3, z4, z5, z6⟩
theorem mIf_t {mt : MT} {a b : M} {ρ : Rho} {S S1 : Sto} (h : mt ρ S = .ok true S1) : mIf mt a b ρ S = a ρ S1 := by
  unfold mIf
  rw [h]
  rfl
theorem mIf_f {mt : MT} {a b : M} {ρ : Rho} {S S1 : Sto} (h : mt ρ S = .ok false S1) : mIf mt a b ρ S = b ρ S1 := by
  unfold mIf
  rw [h]
  rfl
theorem pre_ok {p : Nat} {S : Sto} {a b c : Int} (h : Pot S p a b c) (hC : Cl S) (c1 : c < 600000) :
    ∃ (ks : List Kd) (home hd : Str) (q : Nat) (x3 x4 x5 : Option D) (S' : Sto) (a' c' : Int), (∀ rest : MS, (sSeq (sAsg (mDisp ["kinds", "count"] (mCons (mA (runF 23 4) (mCons (mV 0) mNil)) (mCons (mU dNeg (mC (.int 1))) mNil))) (gV 1)) (sSeq (sAsg (mLstC mNil) (gV 2)) (sSeq (sFor (mVal (mDGet (mV 1) (mC (.str "kinds")))) (gTp 3 (gsCons (gV 3) (gsCons (gV 4) (gsCons (gV 5) gsNil))))
    (sSeq (sExpr (mApp (mV 2) (mOp dAddL (mOp dAddL (mC (.str "kind ")) (mV 3)) (mIf (mB (mOp dNe (mV 4) (mC (.str "")))) (mOp dAddL (mC (.str " in ")) (mV 4)) (mC (.str ""))))))
    (sAsg (mOp dAddC (mV 2) (mLc (mVal (mV 5)) (gV 16) mYes (mOp dAddL (mC (.str "  field ")) (mV 16)) (([("_law_field", 16)] : List (Str × Nat)).map (·.2)))) (gV 2)))) (sSeq (sAsg (mA (runF 23 2) (mCons (mV 0) (mCons (mOp dAddL (mOp dMulS (mLc (mVal (mDGet (mV 1) (mC (.str "kinds")))) (gV 20) mYes (mOp dIx (mV 20) (mC (.int 0))) (([("_law_one", 20)] : List (Str × Nat)).map (·.2))) (mC (.int 2))) (mLst (mCons (mC (.str "")) mNil))) mNil))) (gV 6)) (sSeq (sAsg (mIf (mB (mOp dNe (mV 6) (mC (.str "")))) (mA (runF 23 2) (mCons (mV 0) (mCons (mLst (mCons (mOp dAddL (mC (.str "open ")) (mV 6)) (mCons (mOp dAddL (mC (.str "close ")) (mV 6)) mNil))) mNil))) (mA (runF 23 2) (mCons (mV 0) (mCons (mLst (mCons (mC (.str "begin")) (mCons (mC (.str "end")) mNil))) mNil)))) (gV 7)) (sSeq (sPar [2, 8] (mCons (mOp dAddL (mV 2) (mLst (mCons (mC (.str "pass")) (mCons (mOp dAddL (mC (.str "  ")) (mV 7)) mNil)))) (mCons (mC .non) mNil))) rest)))))) [some (.loc p), none, none, none, none, none, none, none, none, none, none, none, none, none, none, none, none, none, none, none, none] S = rest [some (.loc p), some (.loc q), some (.lst ((ksRows ks ++ [("pass" : Str), ("  " : Str) ++ hd]).map D.str)), x3, x4, x5, some (.str home), some (.str hd), some .non, none, none, none, none, none, none, none, none, none, none, none, none] S') ∧
      KOk ks ∧ 1 ≤ ks.length ∧ ks.length ≤ 4 ∧ HdOk ks home hd ∧ (home = "" ∨ home ∈ ks.map (·.1)) ∧ Pot S' p a' b c' ∧ c' ≤ c + 30 ∧ S'[q]? = some (.dk (mD ks (-1))) ∧ p ≠ q ∧ Cl S' := by
  have hp := h.lt
  obtain ⟨ks, S1, a1, c2, e1, ok, k0, k4, P1, hc1, T1⟩ := kinds_ok h hC (by omega)
  have C1 : Cl S1 := hC.tr T1 P1
  have hp1 := P1.lt
  have s0 : (sAsg (mDisp ["kinds", "count"] (mCons (mA (runF 23 4) (mCons (mV 0) mNil)) (mCons (mU dNeg (mC (.int 1))) mNil))) (gV 1)) [some (.loc p), none, none, none, none, none, none, none, none, none, none, none, none, none, none, none, none, none, none, none, none] S = .nx [some (.loc p), some (.loc S1.length), none, none, none, none, none, none, none, none, none, none, none, none, none, none, none, none, none, none, none] (S1 ++ [.dk (mD ks (-1))]) := by
    refine sAsg_ok (S1 := S1 ++ [.dk (mD ks (-1))]) (d := .loc S1.length) ?_ rfl
    simp only [mDisp, mA, mCons, mNil, mU, mC, mV, Res.bnd, List.getElem?_cons_zero, e1, dNeg]
    have hnd : (["kinds", "count"] : List Str).Nodup := by decide +kernel
    rw [if_pos ⟨rfl, hnd⟩]
    rfl
  have C2 : Cl (S1 ++ [.dk (mD ks (-1))]) := C1.push (by
    unfold mD
    rw [nlt, nltK, nlt, kDs_nlt]
    rfl)
  have P2 : Pot (S1 ++ [.dk (mD ks (-1))]) p a1 b c2 := P1.push
  have hq2 : (S1 ++ [D.dk (mD ks (-1))])[S1.length]? = some (.dk (mD ks (-1))) := get_new
  have hl2 : (S1 ++ [D.dk (mD ks (-1))]).length = S1.length + 1 := by simp
  generalize S1 ++ [D.dk (mD ks (-1))] = S2 at s0 C2 P2 hq2 hl2
  obtain ⟨x3, x4, x5, n, S3, s2, hn3, hle, hlt, hold, C3⟩ := rows_ok ok k4 (p := p) hq2 C2
  have s1 : (sAsg (mLstC mNil) (gV 2)) [some (.loc p), some (.loc S1.length), none, none, none, none, none, none, none, none, none, none, none, none, none, none, none, none, none, none, none] S2 = .nx [some (.loc p), some (.loc S1.length), some (.loc S2.length), none, none, none, none, none, none, none, none, none, none, none, none, none, none, none, none, none, none] (S2 ++ [.lst []]) := rfl
  have P3 : Pot S3 p a1 b c2 := by
    obtain ⟨z1, z2, z3, z4, z5, z6⟩ := P2
    exact ⟨by rw [hold p (by omega)]; exact z1, z2, z3, z4, z5, z6⟩
  have hq3 : S3[S1.length]? = some (.dk (mD ks (-1))) := by rw [hold _ (by omega)]; exact hq2
  obtain ⟨q, hq⟩ : ∃ q, S1.length = q := ⟨_, rfl⟩
  rw [hq] at s0 s1 s2 hq3
  have hpq : p ≠ q := by omega
  have hnm : ((ks.map (·.1)).map D.str).length = ks.length := by simp
  have hnl := names_lc k4 (a := 20) (ρ := [some (.loc p), some (.loc q), some (.loc n), x3, x4, x5, none, none, none, none, none, none, none, none, none, none, none, none, none, none, none]) (ρ0 := [some (.loc p), some (.loc q), some (.loc n), x3, x4, x5, none, none, none, none, none, none, none, none, none, none, none, none, none, none, none]) (S := S3) (mi := mVal (mDGet (mV 1) (mC (.str "kinds")))) (vs := (([("_law_one", 20)] : List (Str × Nat)).map (·.2))) (by
    simp only [mVal, mDGet, mV, mC, Res.bnd, List.getElem?_cons_zero, List.getElem?_cons_succ, dkOf, hq3, Rf.keyOf, mD_k, srcOf]) rfl (fun _ => rfl) (fun _ => rfl)
  obtain ⟨nm, hnme⟩ : ∃ nm, (ks.map (·.1)).map D.str = nm := ⟨_, rfl⟩
  rw [hnme] at hnl hnm
  have hmul : dMulS (.lst nm) (.int 2) S3 = .ok (.lst (nm ++ nm)) S3 := by
    show (if (0 : Int) ≤ 2 ∧ (2 : Int) ≤ 1000 ∧ nm.length ≤ 1000 then Res.ok (D.lst (List.replicate (2 : Int).toNat nm).flatten) S3 else .stuck) = _
    rw [if_pos ⟨by decide, by decide, by omega⟩]
    show Res.ok (D.lst (nm ++ (nm ++ []))) S3 = _
    rw [List.append_nil]
  have hadd : dAddL (.lst (nm ++ nm)) (.lst [.str ""]) S3 = .ok (.lst (nm ++ nm ++ [.str ""])) S3 := by
    show (if few ((nm ++ nm).length + ([D.str ""] : List D).length) = true then Res.ok (D.lst (nm ++ nm ++ [.str ""])) S3 else .stuck) = _
    have hw : few ((nm ++ nm).length + ([D.str ""] : List D).length) = true := decide_eq_true (by rw [List.length_append, List.length_singleton]; omega)
    rw [if_pos hw]
  obtain ⟨v, S4, a4, c4, e4, hm4, P4, hc4, T4⟩ := of' (k := 21) (xs := nm ++ nm ++ [.str ""]) P3 (by rw [List.length_append, List.length_singleton]; omega) (by rw [List.length_append, List.length_append, List.length_singleton]; omega) (by omega)
  have e4 : runF 23 2 [.loc p, .lst (nm ++ nm ++ [.str ""])] S3 = _ := e4
  obtain ⟨home, rfl, hh⟩ : ∃ home, v = .str home ∧ (home = "" ∨ home ∈ ks.map (·.1)) := by
    have key : v ∈ nm → ∃ home, v = .str home ∧ (home = "" ∨ home ∈ ks.map (·.1)) := fun z => by
      rw [← hnme] at z
      obtain ⟨w, h1, rfl⟩ := List.mem_map.mp z
      exact ⟨w, rfl, .inr h1⟩
    rcases List.mem_append.mp hm4 with z | z
    · rcases List.mem_append.mp z with z | z
      · exact key z
      · exact key z
    · cases List.mem_singleton.mp z
      exact ⟨_, rfl, .inl rfl⟩
  have few1 : few 1 = true := rfl
  have few2 : few 2 = true := rfl
  have s3 : (sAsg (mA (runF 23 2) (mCons (mV 0) (mCons (mOp dAddL (mOp dMulS (mLc (mVal (mDGet (mV 1) (mC (.str "kinds")))) (gV 20) mYes (mOp dIx (mV 20) (mC (.int 0))) (([("_law_one", 20)] : List (Str × Nat)).map (·.2))) (mC (.int 2))) (mLst (mCons (mC (.str "")) mNil))) mNil))) (gV 6)) [some (.loc p), some (.loc q), some (.loc n), x3, x4, x5, none, none, none, none, none, none, none, none, none, none, none, none, none, none, none] S3 = .nx [some (.loc p), some (.loc q), some (.loc n), x3, x4, x5, some (.str home), none, none, none, none, none, none, none, none, none, none, none, none, none, none] S4 := by
    refine sAsg_ok (S1 := S4) (d := .str home) ?_ rfl
    generalize (mLc (mVal (mDGet (mV 1) (mC (.str "kinds")))) (gV 20) mYes (mOp dIx (mV 20) (mC (.int 0))) (([("_law_one", 20)] : List (Str × Nat)).map (·.2))) = L at hnl ⊢
    simp only [mA, mOp, mLst, mCons, mNil, mV, mC, Res.bnd, List.getElem?_cons_zero, List.getElem?_cons_succ, hnl, hmul, List.length_cons, List.length_nil, Nat.reduceAdd, few1, if_true, hadd, e4]
  have C4 : Cl S4 := C3.tr T4 P4
  have hhp : home = "" ∨ home ∈ pool := hh.imp id fun y => by
    obtain ⟨k', hk', e⟩ := List.mem_map.mp y
    rw [← e]
    exact ok.names k' hk'
  have hcond : (mB (mOp dNe (mV 6) (mC (.str "")))) [some (.loc p), some (.loc q), some (.loc n), x3, x4, x5, some (.str home), none, none, none, none, none, none, none, none, none, none, none, none, none, none] S4 = .ok (!decide (home = "")) S4 := by
    show (ofB S4 (neD S4 (.str home) (.str ""))).bnd _ = _
    rw [ne_nm hhp]
    rfl
  have l1 : ("open " : Str).length = 5 ∧ ("close " : Str).length = 6 ∧ ("  " : Str).length = 2 ∧ ("begin" : Str).length = 5 ∧ ("end" : Str).length = 3 := by decide +kernel
  obtain ⟨l1, l2, l3, l4, l5⟩ := l1
  have hH : ∃ hd S5 a5 c5, (mIf (mB (mOp dNe (mV 6) (mC (.str "")))) (mA (runF 23 2) (mCons (mV 0) (mCons (mLst (mCons (mOp dAddL (mC (.str "open ")) (mV 6)) (mCons (mOp dAddL (mC (.str "close ")) (mV 6)) mNil))) mNil))) (mA (runF 23 2) (mCons (mV 0) (mCons (mLst (mCons (mC (.str "begin")) (mCons (mC (.str "end")) mNil))) mNil)))) [some (.loc p), some (.loc q), some (.loc n), x3, x4, x5, some (.str home), none, none, none, none, none, none, none, none, none, none, none, none, none, none] S4 = .ok (.str hd) S5 ∧ HdOk ks home hd ∧ hd.length ≤ 20 ∧ Pot S5 p a5 b c5 ∧ c5 ≤ c4 + 1 ∧ Tr p S4 S5 := by
    by_cases hho : home = ""
    · subst hho
      obtain ⟨v, S5, a5, c5, e5, hm5, P5, hc5, T5⟩ := of' (k := 21) (xs := [.str "begin", .str "end"]) P4 (by decide) (by decide) (by omega)
      have e5 : runF 23 2 [.loc p, .lst [.str "begin", .str "end"]] S4 = _ := e5
      obtain ⟨hd, rfl, hhd, hhl⟩ : ∃ hd, v = .str hd ∧ (hd = "begin" ∨ hd = "end") ∧ hd.length ≤ 20 := by
        rcases List.mem_cons.mp hm5 with rfl | z
        · exact ⟨_, rfl, .inl rfl, by omega⟩
        · cases List.mem_singleton.mp z
          exact ⟨_, rfl, .inr rfl, by omega⟩
      refine ⟨hd, S5, a5, c5, ?_, hd_begin hhd, hhl, P5, hc5, T5⟩
      rw [mIf_f (by rw [hcond]; rfl)]
      simp only [mA, mLst, mCons, mNil, mV, mC, Res.bnd, List.getElem?_cons_zero, List.length_cons, List.length_nil, Nat.reduceAdd, few2, if_true, e5]
    · have hho' := hh.resolve_left hho
      have hol := pool_len (hhp.resolve_left hho)
      obtain ⟨v, S5, a5, c5, e5, hm5, P5, hc5, T5⟩ := of' (k := 21) (xs := [.str ("open " ++ home), .str ("close " ++ home)]) P4 (by simp) (by simp) (by omega)
      have e5 : runF 23 2 [.loc p, .lst [.str ("open " ++ home), .str ("close " ++ home)]] S4 = _ := e5
      obtain ⟨hd, rfl, hhd, hhl⟩ : ∃ hd, v = .str hd ∧ (hd = "open " ++ home ∨ hd = "close " ++ home) ∧ hd.length ≤ 20 := by
        rcases List.mem_cons.mp hm5 with rfl | z
        · exact ⟨_, rfl, .inl rfl, by rw [str_app]; omega⟩
        · cases List.mem_singleton.mp z
          exact ⟨_, rfl, .inr rfl, by rw [str_app]; omega⟩
      refine ⟨hd, S5, a5, c5, ?_, hd_open ok hho' hhd, hhl, P5, hc5, T5⟩
      rw [mIf_t (by rw [hcond, decide_eq_false hho]; rfl)]
      have A1 : dAddL (.str "open ") (.str home) S4 = .ok (.str ("open " ++ home)) S4 := add_str (by omega)
      have A2 : dAddL (.str "close ") (.str home) S4 = .ok (.str ("close " ++ home)) S4 := add_str (by omega)
      simp only [mA, mOp, mLst, mCons, mNil, mV, mC, Res.bnd, List.getElem?_cons_zero, List.getElem?_cons_succ, A1, A2, List.length_cons, List.length_nil, Nat.reduceAdd, few2, if_true, e5]
  obtain ⟨hd, S5, a5, c5, e5, hHd, hhl, P5, hc5, T5⟩ := hH
  have s4 : (sAsg (mIf (mB (mOp dNe (mV 6) (mC (.str "")))) (mA (runF 23 2) (mCons (mV 0) (mCons (mLst (mCons (mOp dAddL (mC (.str "open ")) (mV 6)) (mCons (mOp dAddL (mC (.str "close ")) (mV 6)) mNil))) mNil))) (mA (runF 23 2) (mCons (mV 0) (mCons (mLst (mCons (mC (.str "begin")) (mCons (mC (.str "end")) mNil))) mNil)))) (gV 7)) [some (.loc p), some (.loc q), some (.loc n), x3, x4, x5, some (.str home), none, none, none, none, none, none, none, none, none, none, none, none, none, none] S4 = .nx [some (.loc p), some (.loc q), some (.loc n), x3, x4, x5, some (.str home), some (.str hd), none, none, none, none, none, none, none, none, none, none, none, none, none] S5 := sAsg_ok e5 rfl
  have C5 : Cl S5 := C4.tr T5 P5
  have hn5 : S5[n]? = some (.lst ((ksRows ks).map D.str)) := by rw [T5.old n (by omega), T4.old n (by omega)]; exact hn3
  have hrl := rows_len (kd_two ok)
  have s5 : (sPar [2, 8] (mCons (mOp dAddL (mV 2) (mLst (mCons (mC (.str "pass")) (mCons (mOp dAddL (mC (.str "  ")) (mV 7)) mNil)))) (mCons (mC .non) mNil))) [some (.loc p), some (.loc q), some (.loc n), x3, x4, x5, some (.str home), some (.str hd), none, none, none, none, none, none, none, none, none, none, none, none, none] S5 = .nx [some (.loc p), some (.loc q), some (.lst ((ksRows ks ++ [("pass" : Str), ("  " : Str) ++ hd]).map D.str)), x3, x4, x5, some (.str home), some (.str hd), some .non, none, none, none, none, none, none, none, none, none, none, none, none] S5 := by
    have A1 : dAddL (.str "  ") (.str hd) S5 = .ok (.str ("  " ++ hd)) S5 := add_str (by omega)
    have A2 : dAddL (.loc n) (.lst [.str "pass", .str ("  " ++ hd)]) S5 = .ok (.lst ((ksRows ks ++ [("pass" : Str), ("  " : Str) ++ hd]).map D.str)) S5 := by
      show (match lstOf S5[n]?, some [D.str "pass", .str ("  " ++ hd)] with
        | some a, some b => if few (a.length + b.length) = true then Res.ok (D.lst (a ++ b)) S5 else .stuck
        | _, _ => dAdd (.loc n) (.lst [.str "pass", .str ("  " ++ hd)]) S5) = _
      rw [hn5]
      show (if few (((ksRows ks).map D.str).length + 2) = true then Res.ok (D.lst ((ksRows ks).map D.str ++ [.str "pass", .str ("  " ++ hd)])) S5 else .stuck) = _
      rw [if_pos (by refine decide_eq_true ?_; rw [List.length_map]; omega), List.map_append]
      rfl
    simp only [sPar, mCons, mNil, mOp, mLst, mV, mC, Res.bnd, Res.out, List.getElem?_cons_zero, List.getElem?_cons_succ, A1, List.length_cons, List.length_nil, Nat.reduceAdd, few2, if_true, A2]
    rfl
  refine ⟨ks, home, hd, q, x3, x4, x5, S5, a5, c5, fun rest => ?_, ok, k0, k4, hHd, hh, P5, by omega, ?_, hpq, C5⟩
  · rw [sSeq_nx s0, sSeq_nx s1, sSeq_nx s2, sSeq_nx s3, sSeq_nx s4, sSeq_nx s5]
  · rw [T5.old q (Ne.symm hpq), T4.old q (Ne.symm hpq)]
    exact hq3
end K04

set_option Elab.async false
set_option linter.all false
set_option maxRecDepth 100000
set_option maxHeartbeats 4000000
set_option exponentiation.threshold 2000
namespace K04
open PySem L2 Rf

open Pk (pool W Kd KOk chs nearK ref Sm SmOk kindLine fieldLine kRows ksRows)
def dueD : Option Int → D
  | none => .non
  | some n => .int n
def stepD (due : Option Int) (k : Bool) (n : Nat) : Option Int := match due with
  | some b => some b
  | none => if k = true then none else some ((n : Nat) + 1)
theorem rf_strOk {ks : List Kd} (ok : KOk ks) {nr : List Str} : ∀ x ∈ rfL ks nr, PyData.strOk x = true := by
  intro x hx
  obtain ⟨k, hk, h1⟩ := List.mem_flatMap.mp hx
  obtain ⟨hk1, _⟩ := List.mem_filter.mp hk
  obtain ⟨f, hf, rfl⟩ := List.mem_map.mp h1
  refine (Pk.okw_iff.mp (Pk.Lw.ref (Pk.pool_W (ok.names k hk1)) ?_).c).2
  rcases List.mem_cons.mp hf with rfl | z
  · exact .of (by decide +kernel)
  · exact Pk.pool_W (ok.fpool k hk1 f z)
theorem one_all {g : Nat} {me : M} {d : D} {b : Bool} {ρ ρ0 : Rho} {S : Sto} {mi : MI} {vs : List Nat} (hm : mi ρ S = .ok ⟨[d], free⟩ S) (hw : wipeR ρ vs = ρ0) (hg : gV g d ρ0 S = some (ρ0.set g (some d), S)) (he : me (ρ0.set g (some d)) S = .ok (.bl b) S) :
    (mA (bAllAny fun bs => bs.all id) (mCons (mLc mi (gV g) mYes me vs) mNil)) ρ S = .ok (.bl b) S := by
  have hL : mLc mi (gV g) mYes me vs ρ S = .ok (.lst [.bl b]) S := by
    unfold mLc
    rw [hm]
    show (lcL free (gV g) mYes me (wipeR ρ vs) [d] [] S).thn _ = _
    rw [hw]
    simp only [lcL, free, hg, optR, mYes, Res.thn, he, List.nil_append, List.length_cons, List.length_nil, Nat.reduceAdd, Nat.reduceLT, and_self, if_true]
  show ((mLc mi (gV g) mYes me vs ρ S).bnd fun x S1 => Res.ok [x] S1).bnd _ = _
  rw [hL]
  show Res.ok (D.bl (b && true)) S = _
  rw [Bool.and_true]
theorem none_all {g : Nat} {me : M} {ρ : Rho} {S : Sto} {mi : MI} {vs : List Nat} (hm : mi ρ S = .ok ⟨[], free⟩ S) :
    (mA (bAllAny fun bs => bs.all id) (mCons (mLc mi (gV g) mYes me vs) mNil)) ρ S = .ok (.bl true) S := by
  have hL : mLc mi (gV g) mYes me vs ρ S = .ok (.lst []) S := by
    unfold mLc
    rw [hm]
    rfl
  show ((mLc mi (gV g) mYes me vs ρ S).bnd fun x S1 => Res.ok [x] S1).bnd _ = _
  rw [hL]
  rfl
section
variable {ks : List Kd} {home : Str} {p q : Nat} {pg : List Str} {due : Option Int} {x3 x4 x5 x7 x9 x10 x11 x12 x13 x14 : Option D} {S : Sto} {s : Sm} {cn : Int}
theorem fine_ok (ok : KOk ks) (hl : ks.length ≤ 4) (hh : home = "" ∨ home ∈ ks.map (·.1)) (hC : Cl S) (hq : S[q]? = some (.dk (mD ks cn))) (hs : SmOk s) :
    (sAsg (mA (bAllAny fun bs => bs.all id) (mCons (mLc (mVal (mV 11)) (gV 17) mYes (mOp dIn (mV 17) (mA (runF 23 6) (mCons (mV 1) (mCons (mV 6) mNil)))) (([("_law_ref", 17)] : List (Str × Nat)).map (·.2))) mNil)) (gV 13)) [some (.loc p), some (.loc q), some (.lst (pg.map D.str)), x3, x4, x5, some (.str home), x7, some (dueD due), x9, some (.lst (s.lines.map D.str)), some (.lst [.str (ref s.n s.f)]), some (.lst (if s.way = 1 then [.str s.kd] else [])), x13, x14, none, none, none, none, none, none] S = .nx [some (.loc p), some (.loc q), some (.lst (pg.map D.str)), x3, x4, x5, some (.str home), x7, some (dueD due), x9, some (.lst (s.lines.map D.str)), some (.lst [.str (ref s.n s.f)]), some (.lst (if s.way = 1 then [.str s.kd] else [])), some (.bl (Pk.refOk (nearK ks home) ks s.n s.f)), x14, none, none, none, none, none, none] S := by
  have hR := refs_ok (kk := 21) ok hl hC hq (mD_k ks cn) hh
  have hR : runF 23 6 [.loc q, .str home] S = _ := hR
  have hrl : (rfL ks (nearK ks home)).length ≤ 3 * ks.length := rfL_len (kd_two ok)
  have hI : dIn (.str (ref s.n s.f)) (.lst ((rfL ks (nearK ks home)).map D.str)) S = .ok (.bl (Pk.refOk (nearK ks home) ks s.n s.f)) S := by
    unfold dIn
    rw [in_strs (by omega) (Pk.okw_iff.mp (Pk.Lw.ref hs.n hs.f).c).2 (rf_strOk ok)]
    have e : decide (ref s.n s.f ∈ rfL ks (nearK ks home)) = Pk.refOk (nearK ks home) ks s.n s.f := by
      rw [Bool.eq_iff_iff, decide_eq_true_eq]
      exact ref_mem ok hs.n
    rw [e]
    rfl
  refine sAsg_ok (S1 := S) (d := .bl (Pk.refOk (nearK ks home) ks s.n s.f)) (one_all (d := .str (ref s.n s.f)) rfl rfl rfl ?_) rfl
  show ((runF 23 6 [.loc q, .str home] S).bnd fun y S2 => dIn (.str (ref s.n s.f)) y S2) = _
  rw [hR]
  exact hI
theorem isop_ok (ok : KOk ks) (hl : ks.length ≤ 4) (hh : home = "" ∨ home ∈ ks.map (·.1)) (hC : Cl S) (hq : S[q]? = some (.dk (mD ks cn))) (hs : SmOk s) :
    (sAsg (mA (bAllAny fun bs => bs.all id) (mCons (mLc (mVal (mV 12)) (gV 18) mYes (mOp dIn (mV 18) (mA (runF 23 5) (mCons (mV 1) (mCons (mV 6) mNil)))) (([("_law_kind", 18)] : List (Str × Nat)).map (·.2))) mNil)) (gV 14)) [some (.loc p), some (.loc q), some (.lst (pg.map D.str)), x3, x4, x5, some (.str home), x7, some (dueD due), x9, some (.lst (s.lines.map D.str)), some (.lst [.str (ref s.n s.f)]), some (.lst (if s.way = 1 then [.str s.kd] else [])), some (.bl (Pk.refOk (nearK ks home) ks s.n s.f)), x14, none, none, none, none, none, none] S = .nx [some (.loc p), some (.loc q), some (.lst (pg.map D.str)), x3, x4, x5, some (.str home), x7, some (dueD due), x9, some (.lst (s.lines.map D.str)), some (.lst [.str (ref s.n s.f)]), some (.lst (if s.way = 1 then [.str s.kd] else [])), some (.bl (Pk.refOk (nearK ks home) ks s.n s.f)), some (.bl (decide (s.way ≠ 1) || (nearK ks home).contains s.kd)), none, none, none, none, none, none] S := by
  have hO := open_ok (k := 22) ok hl hC hq (mD_k ks cn) hh
  have hO : runF 23 5 [.loc q, .str home] S = _ := hO
  have h3 := near_len ok home
  by_cases hw : s.way = 1
  · have hI : dIn (.str s.kd) (.lst ((nearK ks home).reverse.map D.str)) S = .ok (.bl ((nearK ks home).contains s.kd)) S := by
      unfold dIn
      rw [in_strs (by rw [List.length_reverse]; omega) (Pk.okw_iff.mp hs.kd.ok).2 (fun w hw => by
        obtain ⟨k', h1, h2⟩ := List.mem_map.mp (near_mem ok home w (List.mem_reverse.mp hw))
        rw [← h2]
        exact List.all_eq_true.mp ok_pool _ (ok.names k' h1))]
      have e : decide (s.kd ∈ (nearK ks home).reverse) = (nearK ks home).contains s.kd := by
        rw [Bool.eq_iff_iff, decide_eq_true_eq, List.mem_reverse, List.contains_iff_mem]
      rw [e]
      rfl
    have eb : (decide (s.way ≠ 1) || (nearK ks home).contains s.kd) = (nearK ks home).contains s.kd := by
      rw [decide_eq_false (by simp [hw]), Bool.false_or]
    rw [eb, if_pos hw]
    refine sAsg_ok (S1 := S) (d := .bl ((nearK ks home).contains s.kd)) (one_all (d := .str s.kd) rfl rfl rfl ?_) rfl
    show ((runF 23 5 [.loc q, .str home] S).bnd fun y S2 => dIn (.str s.kd) y S2) = _
    rw [hO]
    exact hI
  · have eb : (decide (s.way ≠ 1) || (nearK ks home).contains s.kd) = true := by
      rw [decide_eq_true hw, Bool.true_or]
    rw [eb, if_neg hw]
    exact sAsg_ok (S1 := S) (d := .bl true) (none_all rfl) rfl
theorem due_ok (hpl : pg.length ≤ 200) : (sIf (mAnd (mB (mOp dIsN (mV 8) (mC .non))) (mNot (mAnd (mB (mV 13)) (mB (mV 14)))))
    (sAsg (mOp dAddL (mA bLen (mCons (mV 2) mNil)) (mC (.int 1))) (gV 8))
    sNil) [some (.loc p), some (.loc q), some (.lst (pg.map D.str)), x3, x4, x5, some (.str home), x7, some (dueD due), x9, some (.lst (s.lines.map D.str)), some (.lst [.str (ref s.n s.f)]), some (.lst (if s.way = 1 then [.str s.kd] else [])), some (.bl (Pk.refOk (nearK ks home) ks s.n s.f)), some (.bl (decide (s.way ≠ 1) || (nearK ks home).contains s.kd)), none, none, none, none, none, none] S = .nx [some (.loc p), some (.loc q), some (.lst (pg.map D.str)), x3, x4, x5, some (.str home), x7, some (dueD (stepD due (Pk.okS (nearK ks home) ks s) pg.length)), x9, some (.lst (s.lines.map D.str)), some (.lst [.str (ref s.n s.f)]), some (.lst (if s.way = 1 then [.str s.kd] else [])), some (.bl (Pk.refOk (nearK ks home) ks s.n s.f)), some (.bl (decide (s.way ≠ 1) || (nearK ks home).contains s.kd)), none, none, none, none, none, none] S := by
  have hlen : (mOp dAddL (mA bLen (mCons (mV 2) mNil)) (mC (.int 1))) [some (.loc p), some (.loc q), some (.lst (pg.map D.str)), x3, x4, x5, some (.str home), x7, some (dueD due), x9, some (.lst (s.lines.map D.str)), some (.lst [.str (ref s.n s.f)]), some (.lst (if s.way = 1 then [.str s.kd] else [])), some (.bl (Pk.refOk (nearK ks home) ks s.n s.f)), some (.bl (decide (s.way ≠ 1) || (nearK ks home).contains s.kd)), none, none, none, none, none, none] S = .ok (.int ((pg.length : Nat) + 1)) S := by
    have e : (pg.map D.str).length = pg.length := List.length_map ..
    show Res.ok (D.int (((pg.map D.str).length : Nat) + 1)) S = _
    rw [e]
  have hc : (mAnd (mB (mOp dIsN (mV 8) (mC .non))) (mNot (mAnd (mB (mV 13)) (mB (mV 14))))) [some (.loc p), some (.loc q), some (.lst (pg.map D.str)), x3, x4, x5, some (.str home), x7, some (dueD due), x9, some (.lst (s.lines.map D.str)), some (.lst [.str (ref s.n s.f)]), some (.lst (if s.way = 1 then [.str s.kd] else [])), some (.bl (Pk.refOk (nearK ks home) ks s.n s.f)), some (.bl (decide (s.way ≠ 1) || (nearK ks home).contains s.kd)), none, none, none, none, none, none] S = .ok (isNon (dueD due) && !(Pk.okS (nearK ks home) ks s)) S := by
    unfold Pk.okS
    generalize Pk.refOk (nearK ks home) ks s.n s.f = b1
    generalize (decide (s.way ≠ 1) || (nearK ks home).contains s.kd) = b2
    cases due <;> cases b1 <;> cases b2 <;> rfl
  cases due with
  | some n => exact sIf_f (by rw [hc]; rfl)
  | none =>
    cases hk : Pk.okS (nearK ks home) ks s with
    | true => exact sIf_f (by rw [hc, hk]; rfl)
    | false =>
      rw [sIf_t (S1 := S) (by rw [hc, hk]; rfl)]
      exact sAsg_ok hlen rfl
theorem page_ok (hpl : pg.length ≤ 200) (hs : SmOk s) : (sAsg (mOp dAddL (mV 2) (mLc (mVal (mV 10)) (gV 19) mYes (mOp dAddL (mC (.str "    ")) (mV 19)) (([("_law_line", 19)] : List (Str × Nat)).map (·.2)))) (gV 2)) [some (.loc p), some (.loc q), some (.lst (pg.map D.str)), x3, x4, x5, some (.str home), x7, some (dueD (stepD due (Pk.okS (nearK ks home) ks s) pg.length)), x9, some (.lst (s.lines.map D.str)), some (.lst [.str (ref s.n s.f)]), some (.lst (if s.way = 1 then [.str s.kd] else [])), some (.bl (Pk.refOk (nearK ks home) ks s.n s.f)), some (.bl (decide (s.way ≠ 1) || (nearK ks home).contains s.kd)), none, none, none, none, none, none] S = .nx [some (.loc p), some (.loc q), some (.lst ((pg ++ s.rows).map D.str)), x3, x4, x5, some (.str home), x7, some (dueD (stepD due (Pk.okS (nearK ks home) ks s) pg.length)), x9, some (.lst (s.lines.map D.str)), some (.lst [.str (ref s.n s.f)]), some (.lst (if s.way = 1 then [.str s.kd] else [])), some (.bl (Pk.refOk (nearK ks home) ks s.n s.f)), some (.bl (decide (s.way ≠ 1) || (nearK ks home).contains s.kd)), none, none, none, none, none, none] S := by
  have hrow := sm_row hs
  have l0 : ("    " : Str).length = 4 := by decide +kernel
  have hln : s.lines.length ≤ 10 := by
    obtain ⟨way, n, f, kd, lab⟩ := s
    match way with
    | 0 => exact (by decide : 2 ≤ 10)
    | 1 => exact (by decide : 1 ≤ 10)
    | 2 => exact (by decide : 1 ≤ 10)
    | m + 3 => exact (by decide : 1 ≤ 10)
  have hL := lcL_fm (g := gV 19) (mt := mYes) (me := mOp dAddL (mC (.str "    ")) (mV 19)) (ρ0 := [some (.loc p), some (.loc q), some (.lst (pg.map D.str)), x3, x4, x5, some (.str home), x7, some (dueD (stepD due (Pk.okS (nearK ks home) ks s) pg.length)), x9, some (.lst (s.lines.map D.str)), some (.lst [.str (ref s.n s.f)]), some (.lst (if s.way = 1 then [.str s.kd] else [])), some (.bl (Pk.refOk (nearK ks home) ks s.n s.f)), some (.bl (decide (s.way ≠ 1) || (nearK ks home).contains s.kd)), none, none, none, none, none, none]) (S := S)
    (p := fun _ => true) (f := fun d => match d with
      | .str f => .str ("    " ++ f)
      | d => d) (ds := s.lines.map D.str) (acc := []) (fun d hd => by
    obtain ⟨f, hf1, rfl⟩ := List.mem_map.mp hd
    refine ⟨_, rfl, rfl, fun _ => ?_⟩
    have hfl := (hrow ("    " ++ f) (List.mem_map_of_mem hf1)).l
    rw [str_app] at hfl
    show dAddL (.str "    ") (.str f) S = _
    rw [add_str (by omega)]) (by simp; omega)
  have hX : (mLc (mVal (mV 10)) (gV 19) mYes (mOp dAddL (mC (.str "    ")) (mV 19)) (([("_law_line", 19)] : List (Str × Nat)).map (·.2))) [some (.loc p), some (.loc q), some (.lst (pg.map D.str)), x3, x4, x5, some (.str home), x7, some (dueD (stepD due (Pk.okS (nearK ks home) ks s) pg.length)), x9, some (.lst (s.lines.map D.str)), some (.lst [.str (ref s.n s.f)]), some (.lst (if s.way = 1 then [.str s.kd] else [])), some (.bl (Pk.refOk (nearK ks home) ks s.n s.f)), some (.bl (decide (s.way ≠ 1) || (nearK ks home).contains s.kd)), none, none, none, none, none, none] S = .ok (.lst (s.rows.map D.str)) S := by
    unfold mLc
    show (lcL free (gV 19) mYes (mOp dAddL (mC (.str "    ")) (mV 19)) [some (.loc p), some (.loc q), some (.lst (pg.map D.str)), x3, x4, x5, some (.str home), x7, some (dueD (stepD due (Pk.okS (nearK ks home) ks s) pg.length)), x9, some (.lst (s.lines.map D.str)), some (.lst [.str (ref s.n s.f)]), some (.lst (if s.way = 1 then [.str s.kd] else [])), some (.bl (Pk.refOk (nearK ks home) ks s.n s.f)), some (.bl (decide (s.way ≠ 1) || (nearK ks home).contains s.kd)), none, none, none, none, none, none] (s.lines.map D.str) [] S).thn _ = _
    rw [hL, List.filter_eq_self.mpr (fun _ _ => rfl), List.nil_append, List.map_map]
    unfold Pk.Sm.rows
    rw [List.map_map]
    rfl
  have hrl : s.rows.length ≤ 10 := by unfold Pk.Sm.rows; rw [List.length_map]; exact hln
  generalize (mLc (mVal (mV 10)) (gV 19) mYes (mOp dAddL (mC (.str "    ")) (mV 19)) (([("_law_line", 19)] : List (Str × Nat)).map (·.2))) = L at hX ⊢
  refine sAsg_ok (S1 := S) (d := .lst ((pg ++ s.rows).map D.str)) ?_ rfl
  show (L _ S).bnd (fun y S2 => dAddL (.lst (pg.map D.str)) y S2) = _
  rw [hX]
  show (if few ((pg.map D.str).length + (s.rows.map D.str).length) = true then Res.ok (D.lst (pg.map D.str ++ s.rows.map D.str)) S else .stuck) = _
  rw [if_pos (by refine decide_eq_true ?_; rw [List.length_map, List.length_map]; omega), List.map_append]
theorem turn_ok (ok : KOk ks) (hl : ks.length ≤ 4) (h0 : 1 ≤ ks.length) (hh : home = "" ∨ home ∈ ks.map (·.1)) {a b c : Int} (h : Pot S p a b c) (c1 : c < 900000) (hC : Cl S) {j : Nat} (hq : S[q]? = some (.dk (mD ks cn))) (hj : cn + 1 = (j : Nat)) (hj6 : j < 6) (hpq : p ≠ q) (hpl : pg.length ≤ 200) :
    ∃ (s : Sm) (S1 : Sto) (a' c' : Int), (sSeq (sAsg (mA (runF 23 8) (mCons (mV 0) (mCons (mV 1) mNil))) (gTp 3 (gsCons (gV 10) (gsCons (gV 11) (gsCons (gV 12) gsNil))))) (sSeq (sAsg (mA (bAllAny fun bs => bs.all id) (mCons (mLc (mVal (mV 11)) (gV 17) mYes (mOp dIn (mV 17) (mA (runF 23 6) (mCons (mV 1) (mCons (mV 6) mNil)))) (([("_law_ref", 17)] : List (Str × Nat)).map (·.2))) mNil)) (gV 13)) (sSeq (sAsg (mA (bAllAny fun bs => bs.all id) (mCons (mLc (mVal (mV 12)) (gV 18) mYes (mOp dIn (mV 18) (mA (runF 23 5) (mCons (mV 1) (mCons (mV 6) mNil)))) (([("_law_kind", 18)] : List (Str × Nat)).map (·.2))) mNil)) (gV 14)) (sSeq (sIf (mAnd (mB (mOp dIsN (mV 8) (mC .non))) (mNot (mAnd (mB (mV 13)) (mB (mV 14)))))
    (sAsg (mOp dAddL (mA bLen (mCons (mV 2) mNil)) (mC (.int 1))) (gV 8))
    sNil) (sAsg (mOp dAddL (mV 2) (mLc (mVal (mV 10)) (gV 19) mYes (mOp dAddL (mC (.str "    ")) (mV 19)) (([("_law_line", 19)] : List (Str × Nat)).map (·.2)))) (gV 2)))))) [some (.loc p), some (.loc q), some (.lst (pg.map D.str)), x3, x4, x5, some (.str home), x7, some (dueD due), x9, x10, x11, x12, x13, x14, none, none, none, none, none, none] S = .nx [some (.loc p), some (.loc q), some (.lst ((pg ++ s.rows).map D.str)), x3, x4, x5, some (.str home), x7, some (dueD (stepD due (Pk.okS (nearK ks home) ks s) pg.length)), x9, some (.lst (s.lines.map D.str)), some (.lst [.str (ref s.n s.f)]), some (.lst (if s.way = 1 then [.str s.kd] else [])), some (.bl (Pk.refOk (nearK ks home) ks s.n s.f)), some (.bl (decide (s.way ≠ 1) || (nearK ks home).contains s.kd)), none, none, none, none, none, none] S1 ∧ SmOk s ∧ s.lab = labs.getD j "" ∧ Pot S1 p a' b c' ∧ c' ≤ c + 3 ∧ S1[q]? = some (.dk (mD ks (j : Nat))) ∧ Cl S1 := by
  obtain ⟨s, S1, a1, c2, e1, hs, hlab, P1, hc1, hq1, hlen, hold⟩ := asking_ok ok hl h0 h c1 hq hj hj6 hpq
  have C1 : Cl S1 := fun d hd => by
    obtain ⟨i, hi, e⟩ := List.getElem_of_mem hd
    have e : S1[i]? = some d := by rw [List.getElem?_eq_getElem hi, e]
    by_cases h1 : i = p
    · subst h1
      rw [P1.at_] at e
      cases e
      exact pot_nlt
    · by_cases h2 : i = q
      · subst h2
        rw [hq1] at e
        cases e
        unfold mD
        rw [nlt, nltK, nlt, kDs_nlt]
        rfl
      · rw [hold i h1 h2] at e
        rw [hlen]
        exact hC d (List.mem_of_getElem? e)
  refine ⟨s, S1, a1, c2, ?_, hs, hlab, P1, hc1, hq1, C1⟩
  have s0 : (sAsg (mA (runF 23 8) (mCons (mV 0) (mCons (mV 1) mNil))) (gTp 3 (gsCons (gV 10) (gsCons (gV 11) (gsCons (gV 12) gsNil))))) [some (.loc p), some (.loc q), some (.lst (pg.map D.str)), x3, x4, x5, some (.str home), x7, some (dueD due), x9, x10, x11, x12, x13, x14, none, none, none, none, none, none] S = .nx [some (.loc p), some (.loc q), some (.lst (pg.map D.str)), x3, x4, x5, some (.str home), x7, some (dueD due), x9, some (.lst (s.lines.map D.str)), some (.lst [.str (ref s.n s.f)]), some (.lst (if s.way = 1 then [.str s.kd] else [])), x13, x14, none, none, none, none, none, none] S1 := by
    refine sAsg_ok (S1 := S1) (d := smD s) ?_ rfl
    simp only [mA, mCons, mNil, mV, Res.bnd, List.getElem?_cons_zero, List.getElem?_cons_succ, e1]
  rw [sSeq_nx s0, sSeq_nx (fine_ok ok hl hh C1 hq1 hs), sSeq_nx (isop_ok ok hl hh C1 hq1 hs), sSeq_nx (due_ok hpl), page_ok hpl hs]
end
end K04

set_option Elab.async false
set_option linter.all false
set_option maxRecDepth 100000
set_option maxHeartbeats 4000000
set_option exponentiation.threshold 2000
namespace K04
open PySem L2 Rf

open Pk (pool W Kd KOk chs nearK ref Sm SmOk kindLine fieldLine kRows ksRows)
theorem strs_map : ∀ ws : List Str, strsOf (ws.map D.str) = some ws
  | [] => rfl
  | w :: ws => by rw [List.map_cons, strsOf, strs_map ws]; rfl
theorem caught_ok {S : Sto} {t : Str} (h : Rdr.fits t = true) : runF 23 7 [.str t] S = .ok (toldD (Rdr.readM (Rdr.start t)).isBad) S := by
  show extM 19 caughtM 23 [.str t] S = _
  unfold extM
  rw [if_neg (by decide)]
  show (if Rdr.fits t = true then Res.ok (toldD (Rdr.readM (Rdr.start t)).isBad) S else .stuck) = _
  rw [if_pos h]
theorem labs_nd : labs.Nodup := by decide +kernel
theorem labs_take {m : Nat} (h : m < 6) : labs.take (m + 1) = labs.take m ++ [labs.getD m ""] := by
  have hm : m = 0 ∨ m = 1 ∨ m = 2 ∨ m = 3 ∨ m = 4 ∨ m = 5 := by omega
  rcases hm with rfl | rfl | rfl | rfl | rfl | rfl <;> rfl
theorem sm_len {ss : List Sm} : (Pk.smRows ss).length ≤ 2 * ss.length := by
  induction ss with
  | nil => exact Nat.le_refl _
  | cons s l ih =>
    unfold Pk.smRows at ih ⊢
    rw [List.flatMap_cons, List.length_append, List.length_cons]
    have : s.rows.length ≤ 2 := by
      unfold Pk.Sm.rows
      rw [List.length_map]
      obtain ⟨way, n, f, kd, lab⟩ := s
      match way with
      | 0 => exact Nat.le_refl _
      | 1 => exact (by decide : 1 ≤ 2)
      | 2 => exact (by decide : 1 ≤ 2)
      | m + 3 => exact (by decide : 1 ≤ 2)
    omega
theorem range_q (z : Int) (hz : -(2 ^ 62) ≤ 1 + z ∧ 1 + z < 2 ^ 62) {f : FA} {p : Nat} {S S1 : Sto} (h : f [.loc p, .int 6] S = .ok (.int z) S1) (ρ : Rho) : mRange1 (mCons (mOp dAddL (mC (.int 1)) (mA f (mCons (mV 0) (mCons (mC (.int 6)) mNil)))) mNil) (some (.loc p) :: ρ) S = .ok ⟨(List.range (1 + z).toNat).map fun (i : Nat) => .int (0 + (i : Int)), free⟩ S1 := by
  have e : (mCons (mOp dAddL (mC (.int 1)) (mA f (mCons (mV 0) (mCons (mC (.int 6)) mNil)))) mNil) (some (.loc p) :: ρ) S = .ok [.int (1 + z)] S1 := by
    have hd : dAddL (.int 1) (.int z) S1 = .ok (.int (1 + z)) S1 := rfl
    simp only [mCons, mNil, mOp, mA, mV, mC, Res.bnd, List.getElem?_cons_zero, h, hd]
  unfold mRange1
  rw [e]
  show (if -(2 ^ 62) ≤ 1 + z ∧ 1 + z < 2 ^ 62 then Res.ok _ _ else .stuck) = _
  rw [if_pos hz]
theorem right_ok {p : Nat} {S : Sto} {a b c : Int} (h : Pot S p a b c) (hC : Cl S) (c1 : c < 500000) : ∃ S' a' c', runF 24 9 [.loc p] S = .ok (.bl true) S' ∧ Pot S' p a' b c' ∧ c' ≤ c + 100 ∧ Cl S' := by
  obtain ⟨ks, home, hd, q, x3, x4, x5, S1, a1, c2, hpre, ok, k0, k4, hHd, hh, P1, hc1, hq1, hpq, C1⟩ := pre_ok h hC (by omega)
  obtain ⟨d, S2, a2, c3, e2, d0, d1, P2, hc2, T2⟩ := take' (k := 22) (n := 6) P1 (by decide) (by decide) (by omega)
  have e2 : runF 23 1 [.loc p, .int 6] S1 = _ := e2
  have C2 : Cl S2 := C1.tr T2 P2
  have hq2 : S2[q]? = some (.dk (mD ks (-1))) := by rw [T2.old q (Ne.symm hpq)]; exact hq1
  have hrl := rows_len (kd_two ok)
  have hT := fun {S : Sto} {pg : List Str} {due : Option Int} {cn a c : Int} {x3 x4 x5 x7 x9 x10 x11 x12 x13 x14 : Option D} {j : Nat} (h : Pot S p a b c) (c1 : c < 900000) (hC : Cl S) (hq : S[q]? = some (.dk (mD ks cn))) (hj : cn + 1 = (j : Nat)) (hj6 : j < 6) (hpl : pg.length ≤ 200) => turn_ok (home := home) (due := due) (x3 := x3) (x4 := x4) (x5 := x5) (x7 := x7) (x9 := x9) (x10 := x10) (x11 := x11) (x12 := x12) (x13 := x13) (x14 := x14) ok k4 k0 hh h c1 hC hq hj hj6 hpq hpl
  have s6g := range_q d (by omega) e2
  generalize hBB : (sSeq (sAsg (mA (runF 23 8) (mCons (mV 0) (mCons (mV 1) mNil))) (gTp 3 (gsCons (gV 10) (gsCons (gV 11) (gsCons (gV 12) gsNil))))) (sSeq (sAsg (mA (bAllAny fun bs => bs.all id) (mCons (mLc (mVal (mV 11)) (gV 17) mYes (mOp dIn (mV 17) (mA (runF 23 6) (mCons (mV 1) (mCons (mV 6) mNil)))) (([("_law_ref", 17)] : List (Str × Nat)).map (·.2))) mNil)) (gV 13)) (sSeq (sAsg (mA (bAllAny fun bs => bs.all id) (mCons (mLc (mVal (mV 12)) (gV 18) mYes (mOp dIn (mV 18) (mA (runF 23 5) (mCons (mV 1) (mCons (mV 6) mNil)))) (([("_law_kind", 18)] : List (Str × Nat)).map (·.2))) mNil)) (gV 14)) (sSeq (sIf (mAnd (mB (mOp dIsN (mV 8) (mC .non))) (mNot (mAnd (mB (mV 13)) (mB (mV 14)))))
    (sAsg (mOp dAddL (mA bLen (mCons (mV 2) mNil)) (mC (.int 1))) (gV 8))
    sNil) (sAsg (mOp dAddL (mV 2) (mLc (mVal (mV 10)) (gV 19) mYes (mOp dAddL (mC (.str "    ")) (mV 19)) (([("_law_line", 19)] : List (Str × Nat)).map (·.2)))) (gV 2)))))) = BB at hT
  obtain ⟨ρ', S', ⟨ss, x9, x10, x11, x12, x13, x14, a3, c4, rfl, hsl, hso, hlab, P3, hc3, hq3, C3⟩, hF⟩ := forL_cnt (g := gV 9) (b := BB) (fun m ρ S' => ∃ ss x9 x10 x11 x12 x13 x14 a' c', ρ = [some (.loc p), some (.loc q), some (.lst ((ksRows ks ++ [("pass" : Str), ("  " : Str) ++ hd] ++ Pk.smRows ss).map D.str)), x3, x4, x5, some (.str home), some (.str hd), some (dueD (Pk.scanS (nearK ks home) ks ss (((ksRows ks).length + 2 : Nat) : Int)).isBad), x9, x10, x11, x12, x13, x14, none, none, none, none, none, none] ∧ ss.length = m ∧ (∀ s ∈ ss, SmOk s) ∧ ss.map (·.lab) = labs.take m ∧ Pot S' p a' b c' ∧ c' ≤ c3 + 3 * m ∧ S'[q]? = some (.dk (mD ks ((m : Int) - 1))) ∧ Cl S')
    (ds := (List.range (1 + d).toNat).map fun (i : Nat) => .int (0 + (i : Int))) (n := 0) (ρ := [some (.loc p), some (.loc q), some (.lst ((ksRows ks ++ [("pass" : Str), ("  " : Str) ++ hd]).map D.str)), x3, x4, x5, some (.str home), some (.str hd), some .non, none, none, none, none, none, none, none, none, none, none, none, none]) (S := S2) ⟨[], none, none, none, none, none, none, a2, c3, by
      show [_, _, some (D.lst (List.map D.str (ksRows ks ++ [("pass" : Str), ("  " : Str) ++ hd]))), _, _, _, _, _, some D.non, _, _, _, _, _, _, _, _, _, _, _, _] = [_, _, some (D.lst (List.map D.str (ksRows ks ++ [("pass" : Str), ("  " : Str) ++ hd] ++ []))), _, _, _, _, _, some D.non, _, _, _, _, _, _, _, _, _, _, _, _]
      rw [List.append_nil], rfl, (fun s hs => by cases hs), rfl, P2, by omega, hq2, C2⟩ fun m dd ρ S1 hdd _ hm hR => by
    obtain ⟨ss, x9, x10, x11, x12, x13, x14, a3, c4, rfl, hsl, hso, hlab, P3, hc3, hq3, C3⟩ := hR
    rw [List.length_map, List.length_range] at hm
    have hm6 : m < 6 := by omega
    have hsm := sm_len (ss := ss)
    have hpl : (ksRows ks ++ [("pass" : Str), ("  " : Str) ++ hd] ++ Pk.smRows ss).length = (ksRows ks).length + 2 + (Pk.smRows ss).length := by
      rw [List.length_append, List.length_append]
      rfl
    obtain ⟨s, S4, a4, c5, e4, hs, hl, P4, hc4, hq4, C4⟩ := hT (S := S1) (pg := ksRows ks ++ [("pass" : Str), ("  " : Str) ++ hd] ++ Pk.smRows ss) (due := (Pk.scanS (nearK ks home) ks ss (((ksRows ks).length + 2 : Nat) : Int)).isBad) (x3 := x3) (x4 := x4) (x5 := x5) (x7 := some (.str hd)) (x9 := some dd) (x10 := x10) (x11 := x11) (x12 := x12) (x13 := x13) (x14 := x14) (j := m) P3 (by omega) C3 hq3 (by omega) hm6 (by omega)
    refine ⟨_, _, _, _, rfl, e4, ss ++ [s], some dd, some (.lst (s.lines.map D.str)), some (.lst [.str (ref s.n s.f)]), some (.lst (if s.way = 1 then [.str s.kd] else [])), some (.bl (Pk.refOk (nearK ks home) ks s.n s.f)), some (.bl (decide (s.way ≠ 1) || (nearK ks home).contains s.kd)), a4, c5, ?_, by rw [List.length_append, hsl]; rfl, fun z hz => ?_, ?_, P4, by omega, ?_, C4⟩
    · have e1 : stepD (Pk.scanS (nearK ks home) ks ss (((ksRows ks).length + 2 : Nat) : Int)).isBad (Pk.okS (nearK ks home) ks s) (ksRows ks ++ [("pass" : Str), ("  " : Str) ++ hd] ++ Pk.smRows ss).length = (Pk.scanS (nearK ks home) ks (ss ++ [s]) (((ksRows ks).length + 2 : Nat) : Int)).isBad := by
        rw [scan_snoc, hpl]
        unfold stepD
        have : ((((ksRows ks).length + 2 + (Pk.smRows ss).length : Nat) : Int) + 1) = (((ksRows ks).length + 2 : Nat) : Int) + ((Pk.smRows ss).length : Nat) + 1 := by omega
        rw [this]
        try (generalize (Pk.scanS (nearK ks home) ks ss (((ksRows ks).length + 2 : Nat) : Int)).isBad = X; cases X <;> rfl)
      rw [e1, List.append_assoc (ksRows ks ++ [("pass" : Str), ("  " : Str) ++ hd]), ← smRows_snoc]
    · rcases List.mem_append.mp hz with y | y
      · exact hso z y
      · cases List.mem_singleton.mp y
        exact hs
    · rw [List.map_append, hlab, labs_take hm6, ← hl]
      rfl
    · have : (((m + 1 : Nat) : Int) - 1) = ((m : Nat) : Int) := by omega
      rw [this]
      exact hq4
  rw [List.length_map, List.length_range, Nat.zero_add] at hsl hlab hc3
  have hm1 : 1 ≤ (1 + d).toNat ∧ (1 + d).toNat ≤ 6 := by omega
  have hnd : (ss.map (·.lab)).Nodup := by rw [hlab]; exact labs_nd.sublist (List.take_sublist _ _)
  obtain ⟨f1, f2, f3⟩ := page_told ok (by rintro rfl; cases k0) k4 hHd hso hnd (by omega) (by omega)
  have hpg : Pk.pageRows ks hd ss = ksRows ks ++ [("pass" : Str), ("  " : Str) ++ hd] ++ Pk.smRows ss := by
    rw [List.append_assoc]
    rfl
  rw [hpg] at f1 f2 f3
  have hcg := caught_ok (S := S') f1
  rw [f3] at hcg
  generalize ksRows ks ++ [("pass" : Str), ("  " : Str) ++ hd] ++ Pk.smRows ss = pg at hF f2 hcg
  generalize (Pk.scanS (nearK ks home) ks ss (((ksRows ks).length + 2 : Nat) : Int)).isBad = due at hF hcg
  refine ⟨S', a3, c4, ?_, P3, by omega, C3⟩
  have s7 : (sAsg (mA (runF 23 7) (mCons (mJoin (mC (.str "\n")) (mV 2)) mNil)) (gV 15)) [some (.loc p), some (.loc q), some (.lst (pg.map D.str)), x3, x4, x5, some (.str home), some (.str hd), some (dueD due), x9, x10, x11, x12, x13, x14, none, none, none, none, none, none] S' = .nx [some (.loc p), some (.loc q), some (.lst (pg.map D.str)), x3, x4, x5, some (.str home), some (.str hd), some (dueD due), x9, x10, x11, x12, x13, x14, some (toldD due), none, none, none, none, none] S' := by
    refine sAsg_ok (S1 := S') (d := toldD due) ?_ rfl
    have hj : mJoin (mC (.str "\n")) (mV 2) [some (.loc p), some (.loc q), some (.lst (pg.map D.str)), x3, x4, x5, some (.str home), some (.str hd), some (dueD due), x9, x10, x11, x12, x13, x14, none, none, none, none, none, none] S' = .ok (.str (Txt.join "\n" pg)) S' := by
      show (match strsOf (pg.map D.str) with
        | some ws => if decide ((ws.map (fun x : Str => x.length)).sum + ws.length * ("\n" : Str).length ≤ 16777216) = true then Res.ok (D.str (Txt.join "\n" ws)) S' else .stuck
        | none => .stuck) = _
      rw [strs_map]
      show (if decide ((pg.map (fun x : Str => x.length)).sum + pg.length * ("\n" : Str).length ≤ 16777216) = true then Res.ok (D.str (Txt.join "\n" pg)) S' else .stuck) = _
      rw [if_pos (decide_eq_true f2)]
    generalize mJoin (mC (.str "\n")) (mV 2) = J at hj ⊢
    simp only [mA, mCons, mNil, Res.bnd, hj, hcg]
  have s8 : (sRet (mAndV (mOp dEqS (mV 15) (mIf (mB (mOp dNotN (mV 8) (mC .non))) (mV 8) (mC (.str "told")))) (mNotV (mA bIsi (mCons (mV 15) (mCons (mC (.ty "bool")) mNil)))))) [some (.loc p), some (.loc q), some (.lst (pg.map D.str)), x3, x4, x5, some (.str home), some (.str hd), some (dueD due), x9, x10, x11, x12, x13, x14, some (toldD due), none, none, none, none, none] S' = .rt (.bl true) S' := by
    refine sRet_ok ?_
    cases due with
    | none => rfl
    | some n =>
      have e : dEqS (.int n) (.int n) S' = .ok (.bl true) S' := by
        show ofB S' (eqD S' (.int n) (.int n)) = _
        rw [eq_ints, decide_eq_true rfl]
        rfl
      show ((dEqS (.int n) (.int n) S').bnd _) = _
      rw [e]
      rfl
  have hrun : b__law_right (runF 23) [some (.loc p), none, none, none, none, none, none, none, none, none, none, none, none, none, none, none, none, none, none, none, none] S = .rt (.bl true) S' := by
    unfold b__law_right
    rw [← hBB] at hF
    refine (hpre _).trans ?_
    rw [sSeq_nx (sFor_ok (s6g _) hF), sSeq_nx s7]
    exact s8
  have heq : ∀ ds S, runF 24 9 ds S = runB 21 (b__law_right (runF 23)) ds S := fun ds S => rfl
  rw [heq]
  generalize b__law_right (runF 23) = X at hrun ⊢
  exact runB_rt (N := 21) (ds := [.loc p]) hrun
end K04

set_option Elab.async false
set_option linter.all false
set_option maxRecDepth 100000
set_option maxHeartbeats 4000000
set_option exponentiation.threshold 2000
namespace K04
open PySem L2 Rf

theorem law_body {S : Sto} {ns : List Int} {j : Int} {x2 x3 : Option D} (hl : ns.length ≤ 63) (j0 : 0 ≤ j) (j1 : j < 100) (hC : Cl S) :
    ∃ ρ' S', (sSeq (sAsg (mA (runF 24 0) (mCons (mV 0) (mCons (mV 1) mNil))) (gV 2))
    (sIf (mNot (mB (mA (bAllAny fun bs => bs.all id) (mCons (mLc (mRange1 (mCons (mC (.int 6)) mNil)) (gV 3) mYes (mA (runF 24 9) (mCons (mV 2) mNil)) (([("_law_turn", 3)] : List (Str × Nat)).map (·.2))) mNil))))
    (sRet (mC (.bl false)))
    sNil)) [some (.fro (ns.map D.int)), some (.int j), x2, x3] S = .nx ρ' S' ∧ (∃ y2 y3, ρ' = [some (.fro (ns.map D.int)), some (.int j), y2, y3]) ∧ Cl S' := by
  obtain ⟨a, b, e1, P⟩ := pot_ok (k := 23) (S := S) hl j0 j1
  have e1 : runF 24 0 [.fro (ns.map D.int), .int j] S = _ := e1
  have C1 : Cl (S ++ [.lst [.int a, .int b, .int 0]]) := hC.push pot_nlt
  generalize S ++ [.lst [.int a, .int b, .int 0]] = S1 at e1 P C1
  obtain ⟨S2, ⟨hI, hCI⟩, hA⟩ := all_yes (mi := (mRange1 (mCons (mC (.int 6)) mNil))) (g := gV 3) (me := (mA (runF 24 9) (mCons (mV 2) mNil))) (vs := (([("_law_turn", 3)] : List (Str × Nat)).map (·.2))) (ρ := [some (.fro (ns.map D.int)), some (.int j), some (.loc S.length), x3]) (S := S1) (items := (List.range 6).map fun (i : Nat) => .int (0 + (i : Int))) (fun n S' => (∃ a c, Pot S' S.length a b c ∧ c ≤ 100 * n) ∧ Cl S') (by
    have hr : -(2 ^ 62) ≤ (6 : Int) ∧ (6 : Int) < 2 ^ 62 := by decide
    have ht : (6 : Int).toNat = 6 := rfl
    simp only [runB, sNil, sSeq, sPass, sRet, sRetN, sExpr, sIf, sAsg, sPar, sFor, outI, forL, stepL, turnL, gV, gIx, gTp, gsCons, gsNil, mV, mC, mOp, mU, mA, mCons, mNil, mTup, mLst, mLstC, mDict0, mSl, mPart, mNoP, mB, mAnd, mOr, mNot, mAndV, mOrV, mNotV, mIf, mChain, mVal, mRange1, mRange2, mLc, mYes, bndI, wipeR, lcL, optR, Res.thn, Res.bnd, Res.out, Rf.cellOf, Rf.intOf, Rf.lstOf, seqOf, srcOf, free, dIx, dSl, dBack, dNeg, dUpper, dAdd, dSub, dMul, dMod, dDiv, dPow, cmpI, dLt, dLe, dGt, dGe, dEq, dNe, dIn, dNotIn, dIsN, dNotN, ofB, bIsi, bLen, lenOf, bInt, bAbs, bMax2, bMin2, bList, bTuple, bAllAny, bRepr, bSet, bSorted, tyOf, mJoin, mApp, bListS, List.map_cons, List.map_nil, List.replicate, List.cons_append, List.nil_append, List.getElem?_cons_zero, List.getElem?_cons_succ, List.set_cons_zero, List.set_cons_succ, List.length_cons, List.length_nil, hr, ht, and_self, ↓reduceIte]) (by rw [List.length_map, List.length_range]; decide) ⟨⟨a, 0, P, by decide⟩, C1⟩ fun n S' hn hI => by
    rw [List.length_map, List.length_range] at hn
    obtain ⟨⟨a', c', P', hc⟩, hC'⟩ := hI
    obtain ⟨S2, a2, d2, e2, P2, q2, C2⟩ := right_ok P' hC' (by omega)
    refine ⟨S2, ⟨⟨a2, d2, P2, by omega⟩, C2⟩, fun d => ⟨_, rfl, ?_⟩⟩
    simp only [runB, sNil, sSeq, sPass, sRet, sRetN, sExpr, sIf, sAsg, sPar, sFor, outI, forL, stepL, turnL, gV, gIx, gTp, gsCons, gsNil, mV, mC, mOp, mU, mA, mCons, mNil, mTup, mLst, mLstC, mDict0, mSl, mPart, mNoP, mB, mAnd, mOr, mNot, mAndV, mOrV, mNotV, mIf, mChain, mVal, mRange1, mRange2, mLc, mYes, bndI, wipeR, lcL, optR, Res.thn, Res.bnd, Res.out, Rf.cellOf, Rf.intOf, Rf.lstOf, seqOf, srcOf, free, dIx, dSl, dBack, dNeg, dUpper, dAdd, dSub, dMul, dMod, dDiv, dPow, cmpI, dLt, dLe, dGt, dGe, dEq, dNe, dIn, dNotIn, dIsN, dNotN, ofB, bIsi, bLen, lenOf, bInt, bAbs, bMax2, bMin2, bList, bTuple, bAllAny, bRepr, bSet, bSorted, tyOf, mJoin, mApp, bListS, List.map_cons, List.map_nil, List.replicate, List.cons_append, List.nil_append, List.getElem?_cons_zero, List.getElem?_cons_succ, List.set_cons_zero, List.set_cons_succ, List.length_cons, List.length_nil, List.map_cons, List.map_nil, e2]
  refine ⟨[some (.fro (ns.map D.int)), some (.int j), some (.loc S.length), x3], S2, ?_, ⟨some (.loc S.length), x3, rfl⟩, hCI⟩
  generalize hL : (mA (bAllAny fun bs => bs.all id) (mCons (mLc (mRange1 (mCons (mC (.int 6)) mNil)) (gV 3) mYes (mA (runF 24 9) (mCons (mV 2) mNil)) (([("_law_turn", 3)] : List (Str × Nat)).map (·.2))) mNil)) = L at hA ⊢
  simp only [runB, sNil, sSeq, sPass, sRet, sRetN, sExpr, sIf, sAsg, sPar, sFor, outI, forL, stepL, turnL, gV, gIx, gTp, gsCons, gsNil, mV, mC, mOp, mU, mA, mCons, mNil, mTup, mLst, mLstC, mDict0, mSl, mPart, mNoP, mB, mAnd, mOr, mNot, mAndV, mOrV, mNotV, mIf, mChain, mVal, mRange1, mRange2, mLc, mYes, bndI, wipeR, lcL, optR, Res.thn, Res.bnd, Res.out, Rf.cellOf, Rf.intOf, Rf.lstOf, seqOf, srcOf, free, dIx, dSl, dBack, dNeg, dUpper, dAdd, dSub, dMul, dMod, dDiv, dPow, cmpI, dLt, dLe, dGt, dGe, dEq, dNe, dIn, dNotIn, dIsN, dNotN, ofB, bIsi, bLen, lenOf, bInt, bAbs, bMax2, bMin2, bList, bTuple, bAllAny, bRepr, bSet, bSorted, tyOf, mJoin, mApp, bListS, List.map_cons, List.map_nil, List.replicate, List.cons_append, List.nil_append, List.getElem?_cons_zero, List.getElem?_cons_succ, List.set_cons_zero, List.set_cons_succ, List.length_cons, List.length_nil, e1, hA, Bool.not_true, Bool.false_eq_true, ↓reduceIte]
theorem law_ok {S : Sto} {ns : List Int} (hl : ns.length ≤ 63) (hS : S = [] := by rfl) : ∃ S', runF 25 10 [.fro (ns.map D.int)] S = .ok (.bl true) S' := by
  have hC0 : Cl S := by
    subst hS
    exact fun d hd => by cases hd
  show ∃ S', runB 4 (b_law (runF 24)) _ _ = _
  unfold b_law
  have hB := fun {S : Sto} {j : Int} {x2 x3 : Option D} => law_body (S := S) (ns := ns) (j := j) (x2 := x2) (x3 := x3) hl
  generalize (sSeq (sAsg (mA (runF 24 0) (mCons (mV 0) (mCons (mV 1) mNil))) (gV 2))
    (sIf (mNot (mB (mA (bAllAny fun bs => bs.all id) (mCons (mLc (mRange1 (mCons (mC (.int 6)) mNil)) (gV 3) mYes (mA (runF 24 9) (mCons (mV 2) mNil)) (([("_law_turn", 3)] : List (Str × Nat)).map (·.2))) mNil))))
    (sRet (mC (.bl false)))
    sNil)) = B at hB ⊢
  generalize hn : (if (if (ns.length : Int) < 3 then (ns.length : Int) else 3) > 1 then (if (ns.length : Int) < 3 then (ns.length : Int) else 3) else 1) = m
  have m1 : m ≤ 3 ∧ 0 ≤ m := by split at hn <;> split at hn <;> omega
  have m0 : -(2 ^ 62) ≤ m ∧ m < 2 ^ 62 := by omega
  obtain ⟨ρ', S', ⟨⟨x1, x2, x3, rfl⟩, _⟩, hF⟩ := forL_inv (g := gV 1) (b := B) (fun ρ S' => (∃ x1 x2 x3, ρ = [some (.fro (ns.map D.int)), x1, x2, x3]) ∧ Cl S') (ds := (List.range m.toNat).map fun (i : Nat) => .int (0 + (i : Int))) (ρ := [some (.fro (ns.map D.int)), none, none, none]) (S := S) ⟨⟨_, _, _, rfl⟩, hC0⟩ fun d hd ρ S hR => by
    obtain ⟨⟨x1, x2, x3, rfl⟩, hC⟩ := hR
    obtain ⟨i, hi, rfl⟩ := List.mem_map.mp hd
    have hi := List.mem_range.mp hi
    obtain ⟨ρ2, S2, e, ⟨y2, y3, rfl⟩, hC2⟩ := hB (S := S) (j := 0 + (i : Int)) (x2 := x2) (x3 := x3) (by omega) (by omega) hC
    exact ⟨_, _, _, _, rfl, e, ⟨_, _, _, rfl⟩, hC2⟩
  refine ⟨S', ?_⟩
  simp only [runB, sNil, sSeq, sPass, sRet, sRetN, sExpr, sIf, sAsg, sPar, sFor, outI, stepL, turnL, gV, gIx, gTp, gsCons, gsNil, mV, mC, mOp, mU, mA, mCons, mNil, mTup, mLst, mLstC, mDict0, mSl, mPart, mNoP, mB, mAnd, mOr, mNot, mAndV, mOrV, mNotV, mIf, mChain, mVal, mRange1, mRange2, mLc, mYes, bndI, wipeR, lcL, optR, Res.thn, Res.bnd, Res.out, Rf.cellOf, Rf.intOf, Rf.lstOf, seqOf, srcOf, dIx, dSl, dBack, dNeg, dUpper, dAdd, dSub, dMul, dMod, dDiv, dPow, cmpI, dLt, dLe, dGt, dGe, dEq, dNe, dIn, dNotIn, dIsN, dNotN, ofB, bIsi, bLen, lenOf, bInt, bAbs, bMax2, bMin2, bList, bTuple, bAllAny, bRepr, bSet, bSorted, tyOf, mJoin, mApp, bListS, List.map_cons, List.map_nil, List.replicate, List.cons_append, List.nil_append, List.getElem?_cons_zero, List.getElem?_cons_succ, List.set_cons_zero, List.set_cons_succ, List.length_cons, List.length_nil, List.length_map, Option.map_some, hn, m0, hF, and_self, ↓reduceIte]
end K04

set_option Elab.async false
set_option linter.all false
set_option maxRecDepth 100000
set_option maxHeartbeats 4000000
namespace K7
open PySem L2 Rdr LcX MakeS ErrD
abbrev P : Program := PySem.Challenge.pw_handkept_k04_what_is_open_where
theorem caught_mk {w : World} {K : PySem.W.Frag} {h : Heap} {mg : Str → Option Value} (X : K.In h) (G : h.Ns mainGlobals mg)
    {C CP cP cB cK aW fru cru cc fbi fpa fiw fpi fwa fbe fne frd frk frf frp fpl frc frb frs fri fls fhs fws fcw frr fgi flc fli : Addr} {clru : List (Str × Addr)} {ocbi kVbi dcbi pmbi cdbi ctbi ocpa kVpa dcpa pmpa cdpa ctpa ociw kViw dciw pmiw cdiw ctiw ocpi kVpi dcpi pmpi cdpi ctpi ocwa kVwa dcwa pmwa cdwa ctwa ocbe kVbe dcbe pmbe cdbe ctbe ocne kVne dcne pmne cdne ctne ocrd kVrd dcrd pmrd cdrd ctrd ocrk kVrk dcrk pmrk cdrk ctrk ocrf kVrf dcrf pmrf cdrf ctrf ocrp kVrp dcrp pmrp cdrp ctrp ocpl kVpl dcpl pmpl cdpl ctpl ocrc kVrc dcrc pmrc cdrc ctrc ocrb kVrb dcrb pmrb cdrb ctrb ocrs kVrs dcrs pmrs cdrs ctrs ocri kVri dcri pmri cdri ctri ocls kVls dcls pmls cdls ctls ochs kVhs dchs pmhs cdhs cths ocws kVws dcws pmws cdws ctws occw kVcw dccw pmcw cdcw ctcw ocrr kVrr dcrr pmrr cdrr ctrr ocgi kVgi dcgi pmgi cdgi ctgi oclc kVlc dclc pmlc cdlc ctlc ocli kVli dcli pmli cdli ctli ocru dcru pmru ctru occ occo : Value} {odbi odpa odiw odpi odwa odbe odne odrd odrk odrf odrp odpl odrc odrb odrs odri odls odhs odws odcw odrr odgi odlc odli anbi anpa aniw anpi anwa anbe anne anrd anrk anrf anrp anpl anrc anrb anrs anri anls anhs anws ancw anrr angi anlc anli odru odc odco ddW ddB : Option Addr} {slbi slpa sliw slpi slwa slbe slne slrd slrk slrf slrp slpl slrc slrb slrs slri slls slhs slws slcw slrr slgi sllc slli slru slc slco slW : Array (Option Value)} {vsco : Array Value} {file : Str}
    {tf w1 w2 tBLANKS tMOST_LETTERS tMOST_KINDS tMOST_KINDS_IN_ONE_ANOTHER tMOST_FIELDS tMOST_PASSES tMOST_CELLS tMOST_STATEMENTS tMOST_IFS_IN_ONE_ANOTHER tMOST_TOKENS : Tok} {nnW : Nat} {nmB qB : Str} {NB : Addr} {bsB bmB : List Value} {snB : List Str} {subB : List Value} {abB : Bool} {colB : Option Bool} {b0 b1 b2 b3 b5 : Option Value}
    (nC : PySem.W.nsIn K mainGlobals "ProgramReader" = some (some (.ref C)))
    (nCP : PySem.W.nsIn K mainGlobals "Program" = some (some (.ref CP)))
    (ncP : PySem.W.nsIn K mainGlobals "Part" = some (some (.ref cP)))
    (ncB : PySem.W.nsIn K mainGlobals "BadText" = some (some (.ref cB)))
    (ncK : PySem.W.nsIn K mainGlobals "KeptError" = some (some (.ref cK)))
    (abi : PySem.W.findIn K (.ref cB) "__init__" = some (some (.ref fbi)))
    (ibi : PySem.W.isFn K (.ref fbi) = true)
    (lbi : K.lookup fbi = some ⟨ocbi, odbi, .func (PySem.W.fnOf "__init__" "BadText.__init__" (defArgs sBadInit) (defBody sBadInit) (defScope sBadInit) .none kVbi dcbi pmbi anbi cdbi ctbi), slbi⟩)
    (cbi : PySem.W.codeIn K cdbi "BadText.__init__" = true)
    (kbi : PySem.W.keepIn K (.ref fbi) = true)
    (apa : PySem.W.nsIn K mainGlobals "_parted" = some (some (.ref fpa)))
    (lpa : K.lookup fpa = some ⟨ocpa, odpa, .func (PySem.W.fnOf "_parted" "_parted" (defArgs sParted) (defBody sParted) (defScope sParted) .none kVpa dcpa pmpa anpa cdpa ctpa), slpa⟩)
    (cpa : PySem.W.codeIn K cdpa "_parted" = true)
    (kpa : PySem.W.keepIn K (.ref fpa) = true)
    (aiw : PySem.W.nsIn K mainGlobals "is_word" = some (some (.ref fiw)))
    (liw : K.lookup fiw = some ⟨ociw, odiw, .func (PySem.W.fnOf "is_word" "is_word" (defArgs sIsWord) (defBody sIsWord) (defScope sIsWord) .none kViw dciw pmiw aniw cdiw ctiw), sliw⟩)
    (ciw : PySem.W.codeIn K cdiw "is_word" = true)
    (kiw : PySem.W.keepIn K (.ref fiw) = true)
    (api : PySem.W.findIn K (.ref cP) "__init__" = some (some (.ref fpi)))
    (ipi : PySem.W.isFn K (.ref fpi) = true)
    (lpi : K.lookup fpi = some ⟨ocpi, odpi, .func (PySem.W.fnOf "__init__" "Part.__init__" (defArgs sPartInit) (defBody sPartInit) (defScope sPartInit) .none kVpi dcpi pmpi anpi cdpi ctpi), slpi⟩)
    (cpi : PySem.W.codeIn K cdpi "Part.__init__" = true)
    (kpi : PySem.W.keepIn K (.ref fpi) = true)
    (awa : PySem.W.findIn K (.ref C) "words_at" = some (some (.ref fwa)))
    (iwa : PySem.W.isFn K (.ref fwa) = true)
    (lwa : K.lookup fwa = some ⟨ocwa, odwa, .func (PySem.W.fnOf "words_at" "Lines.words_at" (defArgs sWordsAt) (defBody sWordsAt) (defScope sWordsAt) .none kVwa dcwa pmwa anwa cdwa ctwa), slwa⟩)
    (cwa : PySem.W.codeIn K cdwa "Lines.words_at" = true)
    (kwa : PySem.W.keepIn K (.ref fwa) = true)
    (abe : PySem.W.findIn K (.ref C) "begins" = some (some (.ref fbe)))
    (ibe : PySem.W.isFn K (.ref fbe) = true)
    (lbe : K.lookup fbe = some ⟨ocbe, odbe, .func (PySem.W.fnOf "begins" "Lines.begins" (defArgs sBegins) (defBody sBegins) (defScope sBegins) .none kVbe dcbe pmbe anbe cdbe ctbe), slbe⟩)
    (cbe : PySem.W.codeIn K cdbe "Lines.begins" = true)
    (kbe : PySem.W.keepIn K (.ref fbe) = true)
    (ane : PySem.W.findIn K (.ref C) "need" = some (some (.ref fne)))
    (ine : PySem.W.isFn K (.ref fne) = true)
    (lne : K.lookup fne = some ⟨ocne, odne, .func (PySem.W.fnOf "need" "Lines.need" (defArgs sNeed) (defBody sNeed) (defScope sNeed) .none kVne dcne pmne anne cdne ctne), slne⟩)
    (cne : PySem.W.codeIn K cdne "Lines.need" = true)
    (kne : PySem.W.keepIn K (.ref fne) = true)
    (ard : PySem.W.findIn K (.ref C) "read" = some (some (.ref frd)))
    (ird : PySem.W.isFn K (.ref frd) = true)
    (lrd : K.lookup frd = some ⟨ocrd, odrd, .func (PySem.W.fnOf "read" "ProgramReader.read" (defArgs sRead) (defBody sRead) (defScope sRead) .none kVrd dcrd pmrd anrd cdrd ctrd), slrd⟩)
    (crd : PySem.W.codeIn K cdrd "ProgramReader.read" = true)
    (krd : PySem.W.keepIn K (.ref frd) = true)
    (ark : PySem.W.findIn K (.ref C) "read_kind" = some (some (.ref frk)))
    (irk : PySem.W.isFn K (.ref frk) = true)
    (lrk : K.lookup frk = some ⟨ocrk, odrk, .func (PySem.W.fnOf "read_kind" "ProgramReader.read_kind" (defArgs sKind) (defBody sKind) (defScope sKind) .none kVrk dcrk pmrk anrk cdrk ctrk), slrk⟩)
    (crk : PySem.W.codeIn K cdrk "ProgramReader.read_kind" = true)
    (krk : PySem.W.keepIn K (.ref frk) = true)
    (arf : PySem.W.findIn K (.ref C) "read_fields" = some (some (.ref frf)))
    (irf : PySem.W.isFn K (.ref frf) = true)
    (lrf : K.lookup frf = some ⟨ocrf, odrf, .func (PySem.W.fnOf "read_fields" "ProgramReader.read_fields" (defArgs sFields) (defBody sFields) (defScope sFields) .none kVrf dcrf pmrf anrf cdrf ctrf), slrf⟩)
    (crf : PySem.W.codeIn K cdrf "ProgramReader.read_fields" = true)
    (krf : PySem.W.keepIn K (.ref frf) = true)
    (arp : PySem.W.findIn K (.ref C) "read_part" = some (some (.ref frp)))
    (irp : PySem.W.isFn K (.ref frp) = true)
    (lrp : K.lookup frp = some ⟨ocrp, odrp, .func (PySem.W.fnOf "read_part" "ProgramReader.read_part" (defArgs sPart) (defBody sPart) (defScope sPart) .none kVrp dcrp pmrp anrp cdrp ctrp), slrp⟩)
    (crp : PySem.W.codeIn K cdrp "ProgramReader.read_part" = true)
    (krp : PySem.W.keepIn K (.ref frp) = true)
    (apl : PySem.W.findIn K (.ref C) "places" = some (some (.ref fpl)))
    (ipl : PySem.W.isFn K (.ref fpl) = true)
    (lpl : K.lookup fpl = some ⟨ocpl, odpl, .func (PySem.W.fnOf "places" "ProgramReader.places" (defArgs sPlaces) (defBody sPlaces) (defScope sPlaces) .none kVpl dcpl pmpl anpl cdpl ctpl), slpl⟩)
    (cpl : PySem.W.codeIn K cdpl "ProgramReader.places" = true)
    (kpl : PySem.W.keepIn K (.ref fpl) = true)
    (arc : PySem.W.findIn K (.ref C) "read_cell" = some (some (.ref frc)))
    (irc : PySem.W.isFn K (.ref frc) = true)
    (lrc : K.lookup frc = some ⟨ocrc, odrc, .func (PySem.W.fnOf "read_cell" "ProgramReader.read_cell" (defArgs sCell) (defBody sCell) (defScope sCell) .none kVrc dcrc pmrc anrc cdrc ctrc), slrc⟩)
    (crc : PySem.W.codeIn K cdrc "ProgramReader.read_cell" = true)
    (krc : PySem.W.keepIn K (.ref frc) = true)
    (arb : PySem.W.findIn K (.ref C) "read_block" = some (some (.ref frb)))
    (irb : PySem.W.isFn K (.ref frb) = true)
    (lrb : K.lookup frb = some ⟨ocrb, odrb, .func (PySem.W.fnOf "read_block" "ProgramReader.read_block" (defArgs sBlock) (defBody sBlock) (defScope sBlock) .none kVrb dcrb pmrb anrb cdrb ctrb), slrb⟩)
    (crb : PySem.W.codeIn K cdrb "ProgramReader.read_block" = true)
    (krb : PySem.W.keepIn K (.ref frb) = true)
    (ars : PySem.W.findIn K (.ref C) "read_statement" = some (some (.ref frs)))
    (irs : PySem.W.isFn K (.ref frs) = true)
    (lrs : K.lookup frs = some ⟨ocrs, odrs, .func (PySem.W.fnOf "read_statement" "ProgramReader.read_statement" (defArgs sStm) (defBody sStm) (defScope sStm) .none kVrs dcrs pmrs anrs cdrs ctrs), slrs⟩)
    (crs : PySem.W.codeIn K cdrs "ProgramReader.read_statement" = true)
    (krs : PySem.W.keepIn K (.ref frs) = true)
    (ari : PySem.W.findIn K (.ref C) "read_if" = some (some (.ref fri)))
    (iri : PySem.W.isFn K (.ref fri) = true)
    (lri : K.lookup fri = some ⟨ocri, odri, .func (PySem.W.fnOf "read_if" "ProgramReader.read_if" (defArgs sIf) (defBody sIf) (defScope sIf) .none kVri dcri pmri anri cdri ctri), slri⟩)
    (cri : PySem.W.codeIn K cdri "ProgramReader.read_if" = true)
    (kri : PySem.W.keepIn K (.ref fri) = true)
    (als : PySem.W.findIn K (.ref C) "line_statement" = some (some (.ref fls)))
    (ils : PySem.W.isFn K (.ref fls) = true)
    (lls : K.lookup fls = some ⟨ocls, odls, .func (PySem.W.fnOf "line_statement" "ProgramReader.line_statement" (defArgs sLine) (defBody sLine) (defScope sLine) .none kVls dcls pmls anls cdls ctls), slls⟩)
    (cls : PySem.W.codeIn K cdls "ProgramReader.line_statement" = true)
    (kls : PySem.W.keepIn K (.ref fls) = true)
    (ahs : PySem.W.findIn K (.ref C) "head_statement" = some (some (.ref fhs)))
    (ihs : PySem.W.isFn K (.ref fhs) = true)
    (lhs : K.lookup fhs = some ⟨ochs, odhs, .func (PySem.W.fnOf "head_statement" "ProgramReader.head_statement" (defArgs sHead) (defBody sHead) (defScope sHead) .none kVhs dchs pmhs anhs cdhs cths), slhs⟩)
    (chs : PySem.W.codeIn K cdhs "ProgramReader.head_statement" = true)
    (khs : PySem.W.keepIn K (.ref fhs) = true)
    (aws : PySem.W.findIn K (.ref C) "write_statement" = some (some (.ref fws)))
    (iws : PySem.W.isFn K (.ref fws) = true)
    (lws : K.lookup fws = some ⟨ocws, odws, .func (PySem.W.fnOf "write_statement" "ProgramReader.write_statement" (defArgs sWrite) (defBody sWrite) (defScope sWrite) .none kVws dcws pmws anws cdws ctws), slws⟩)
    (cws : PySem.W.codeIn K cdws "ProgramReader.write_statement" = true)
    (kws : PySem.W.keepIn K (.ref fws) = true)
    (acw : PySem.W.findIn K (.ref C) "cell_worth" = some (some (.ref fcw)))
    (icw : PySem.W.isFn K (.ref fcw) = true)
    (lcw : K.lookup fcw = some ⟨occw, odcw, .func (PySem.W.fnOf "cell_worth" "ProgramReader.cell_worth" (defArgs sCellWorth) (defBody sCellWorth) (defScope sCellWorth) .none kVcw dccw pmcw ancw cdcw ctcw), slcw⟩)
    (ccw : PySem.W.codeIn K cdcw "ProgramReader.cell_worth" = true)
    (kcw : PySem.W.keepIn K (.ref fcw) = true)
    (arr : PySem.W.findIn K (.ref C) "ref_of" = some (some (.ref frr)))
    (irr : PySem.W.isFn K (.ref frr) = true)
    (lrr : K.lookup frr = some ⟨ocrr, odrr, .func (PySem.W.fnOf "ref_of" "ProgramReader.ref_of" (defArgs sRefOf) (defBody sRefOf) (defScope sRefOf) .none kVrr dcrr pmrr anrr cdrr ctrr), slrr⟩)
    (crr : PySem.W.codeIn K cdrr "ProgramReader.ref_of" = true)
    (krr : PySem.W.keepIn K (.ref frr) = true)
    (agi : PySem.W.findIn K (.ref CP) "__init__" = some (some (.ref fgi)))
    (igi : PySem.W.isFn K (.ref fgi) = true)
    (lgi : K.lookup fgi = some ⟨ocgi, odgi, .func (PySem.W.fnOf "__init__" "Program.__init__" (defArgs sPgInit) (defBody sPgInit) (defScope sPgInit) .none kVgi dcgi pmgi angi cdgi ctgi), slgi⟩)
    (cgi : PySem.W.codeIn K cdgi "Program.__init__" = true)
    (kgi : PySem.W.keepIn K (.ref fgi) = true)
    (alc : PySem.W.nsIn K mainGlobals "_law_caught" = some (some (.ref flc)))
    (llc : K.lookup flc = some ⟨oclc, odlc, .func (PySem.W.fnOf "_law_caught" "_law_caught" (defArgs sCaught) (defBody sCaught) (defScope sCaught) .none kVlc dclc pmlc anlc cdlc ctlc), sllc⟩)
    (clc : PySem.W.codeIn K cdlc "_law_caught" = true)
    (klc : PySem.W.keepIn K (.ref flc) = true)
    (aru : PySem.W.findIn K (.ref C) "__init__" = some (some (.ref fru)))
    (iru : PySem.W.isFn K (.ref fru) = true)
    (lru : K.lookup fru = some ⟨ocru, odru, .func (PySem.W.fnX "__init__" "ProgramReader.__init__" (defArgs sRdInit) (defBody sRdInit) (defScope sRdInit) clru .none .none dcru pmru none (.ref cru) ctru), slru⟩)
    (cruF : PySem.W.codeIn K (.ref cru) "ProgramReader.__init__" = true)
    (sln : PySem.W.ks_superIn K C C "__init__" = some (some (.ref fli)))
    (tln : PySem.W.typeIn K (.ref fli) = some (.type "function"))
    (fln : PySem.W.fnIn K fli = true)
    (lli : K.lookup fli = some ⟨ocli, odli, .func (PySem.W.fnOf "__init__" "Lines.__init__" (defArgs sLnInit) (defBody sLnInit) (defScope sLnInit) .none kVli dcli pmli anli cdli ctli), slli⟩)
    (cli : PySem.W.codeIn K cdli "Lines.__init__" = true)
    (kli : PySem.W.keepIn K (.ref fli) = true)
    (xce : clru = [(("__class__" : Str), cc)])
    (lce : K.lookup cc = some ⟨occ, odc, .cell (some (.ref C)), slc⟩)
    (lco : K.lookup cru = some ⟨occo, odco, .fields vsco, slco⟩)
    (vco : vsco[2]? = some (.str file tf))
    (fco : ((P.main.file : Str) == file) = true)
    (sub : PySem.W.mroIn K C (.ref C) = some true)
    (zsu : PySem.W.nsIn K mainGlobals "super" = some none)
    (thi : PySem.W.nsIn K cStatics "thirdparty.any" = some none)
    (zlen : PySem.W.nsIn K mainGlobals "len" = some none)
    (ztuple : PySem.W.nsIn K mainGlobals "tuple" = some none)
    (zint : PySem.W.nsIn K mainGlobals "int" = some none)
    (zstr : PySem.W.nsIn K mainGlobals "str" = some none)
    (zrange : PySem.W.nsIn K mainGlobals "range" = some none)
    (zall : PySem.W.nsIn K mainGlobals "all" = some none)
    (zisinstance : PySem.W.nsIn K mainGlobals "isinstance" = some none)
    (zValueError : PySem.W.nsIn K mainGlobals "ValueError" = some none)
    (vBLANKS : PySem.W.nsIn K mainGlobals "BLANKS" = some (some (.int 2 tBLANKS)))
    (vMOST_LETTERS : PySem.W.nsIn K mainGlobals "MOST_LETTERS" = some (some (.int 8 tMOST_LETTERS)))
    (vMOST_KINDS : PySem.W.nsIn K mainGlobals "MOST_KINDS" = some (some (.int 4 tMOST_KINDS)))
    (vMOST_KINDS_IN_ONE_ANOTHER : PySem.W.nsIn K mainGlobals "MOST_KINDS_IN_ONE_ANOTHER" = some (some (.int 3 tMOST_KINDS_IN_ONE_ANOTHER)))
    (vMOST_FIELDS : PySem.W.nsIn K mainGlobals "MOST_FIELDS" = some (some (.int 2 tMOST_FIELDS)))
    (vMOST_PASSES : PySem.W.nsIn K mainGlobals "MOST_PASSES" = some (some (.int 2 tMOST_PASSES)))
    (vMOST_CELLS : PySem.W.nsIn K mainGlobals "MOST_CELLS" = some (some (.int 2 tMOST_CELLS)))
    (vMOST_STATEMENTS : PySem.W.nsIn K mainGlobals "MOST_STATEMENTS" = some (some (.int 6 tMOST_STATEMENTS)))
    (vMOST_IFS_IN_ONE_ANOTHER : PySem.W.nsIn K mainGlobals "MOST_IFS_IN_ONE_ANOTHER" = some (some (.int 2 tMOST_IFS_IN_ONE_ANOTHER)))
    (vMOST_TOKENS : PySem.W.nsIn K mainGlobals "MOST_TOKENS" = some (some (.int 6 tMOST_TOKENS)))
    (nW : PySem.W.nsIn K mainGlobals "WORTHS" = some (some (.ref aW)))
    (lW : K.lookup aW = some ⟨.type "tuple", ddW, .seq #[.str "2" w1, .str "3" w2] nnW, slW⟩)
    (pgC : PySem.W.plainGet K C Str.empty = true)
    (hdC : PySem.W.hasDictIn K C = true)
    (poC : PySem.W.plainOver K C = true)
    (saC : PySem.W.findIn K (.ref C) "__setattr__" = some (some (.builtin "object.__setattr__")))
    (mkC : PySem.W.makesIn K C = true)
    (kcC : PySem.W.keepIn K (.ref C) = true)
    (pgcP : PySem.W.plainGet K cP Str.empty = true)
    (hdcP : PySem.W.hasDictIn K cP = true)
    (pocP : PySem.W.plainOver K cP = true)
    (sacP : PySem.W.findIn K (.ref cP) "__setattr__" = some (some (.builtin "object.__setattr__")))
    (mkcP : PySem.W.makesIn K cP = true)
    (kccP : PySem.W.keepIn K (.ref cP) = true)
    (pgCP : PySem.W.plainGet K CP Str.empty = true)
    (hdCP : PySem.W.hasDictIn K CP = true)
    (poCP : PySem.W.plainOver K CP = true)
    (saCP : PySem.W.findIn K (.ref CP) "__setattr__" = some (some (.builtin "object.__setattr__")))
    (mkCP : PySem.W.makesIn K CP = true)
    (kcCP : PySem.W.keepIn K (.ref CP) = true)
    (nC_lines : PySem.W.findIn K (.ref C) "lines" = some none)
    (nC_at : PySem.W.findIn K (.ref C) "at" = some none)
    (nC_kinds : PySem.W.findIn K (.ref C) "kinds" = some none)
    (nC_chains : PySem.W.findIn K (.ref C) "chains" = some none)
    (nC_fields : PySem.W.findIn K (.ref C) "fields" = some none)
    (nC_labels : PySem.W.findIn K (.ref C) "labels" = some none)
    (nC_parts : PySem.W.findIn K (.ref C) "parts" = some none)
    (nC_cells : PySem.W.findIn K (.ref C) "cells" = some none)
    (nC_worths : PySem.W.findIn K (.ref C) "worths" = some none)
    (nC_near : PySem.W.findIn K (.ref C) "near" = some none)
    (nP_worths : PySem.W.findIn K (.ref cP) "worths" = some none)
    (nP_blocks : PySem.W.findIn K (.ref cP) "blocks" = some none)
    (nG_text : PySem.W.findIn K (.ref CP) "text" = some none)
    (nG_kinds : PySem.W.findIn K (.ref CP) "kinds" = some none)
    (nG_labels : PySem.W.findIn K (.ref CP) "labels" = some none)
    (nG_passes : PySem.W.findIn K (.ref CP) "passes" = some none)
    (nG_parts : PySem.W.findIn K (.ref CP) "parts" = some none)
    (xB : K.lookup cB = some (excClassObj nmB qB cB NB bsB bmB true snB subB abB colB ddB b0 b1 b2 b3 b5 "ValueError.__new__"))
    (rB : PySem.HandSPX.refsVE bmB = true)
    (saB : PySem.W.findIn K (.ref cB) "__setattr__" = some (some (.builtin "object.__setattr__")))
    (exB : PySem.W.subIn K (.ref cB) (.type "BaseException") = some true)
    (tyB : PySem.W.typeIn K (.ref cB) = some (.type "type"))
    (kB : PySem.W.keepIn K (.ref cB) = true)
    (tbi : PySem.W.typeIn K (.ref fbi) = some (.type "function"))
    (nlB : PySem.W.findIn K (.ref cB) "line" = some none)
    (gaB : PySem.W.findIn K (.ref cB) "__getattribute__" = some (some (.builtin "BaseException.__getattribute__")))
    (ggB : PySem.W.findIn K (.ref cB) "__getattr__" = some none)
    (hdB : PySem.W.hasDictIn K cB = true)
    (haB : PySem.W.findIn K (.ref cB) "__class__" = some (some (.builtin "object.__class__")))
    (hnB : PySem.W.specialIn K (.builtin "object.__class__") "__get__" = some (some (.builtin "getset_descriptor.__get__")))
    (htB : PySem.W.takesIn K (.builtin "object.__class__") = some true)
    (hmB : PySem.W.mroIn K cB (.type "object") = some true)
    (exK : PySem.W.subIn K (.ref cK) (.type "BaseException") = some true)
    (hdK : PySem.W.hasDictIn K cK = true)
    (tyK : PySem.W.typeIn K (.ref cK) = some (.type "type"))
    (sBK : PySem.W.subIn K (.ref cB) (.ref cK) = some true)
    (kB1 : PySem.W.kitOne K (.ref cB) (.ref cB) = some true)
    (kB2 : PySem.W.kitOne K (.ref cB) (.type "ValueError") = some true)
    : ∃ fd : FuncData, mg "_law_caught" = some (.ref flc) ∧ PySem.W.keepIn K (.ref flc) = true ∧ Binds K fd ["_law_text"] [] ∧ ∀ base : Heap, FnOk P w K mg base CX0 19 flc fd ["_law_text"] spCaught := by
  have Fbi := fun_mk (st := sBadInit) lbi cbi kbi
  have bbi := Fbi.binds (ps := ["self", "line"]) fun _ _ _ _ _ _ us hl => match us, hl with | [_, _], _ => rfl
  have Fpa := fun_mk (st := sParted) lpa cpa kpa
  have bpa := Fpa.binds (ps := ["line"]) fun _ _ _ _ _ _ us hl => match us, hl with | [_], _ => rfl
  have Fiw := fun_mk (st := sIsWord) liw ciw kiw
  have biw := Fiw.binds (ps := ["value"]) fun _ _ _ _ _ _ us hl => match us, hl with | [_], _ => rfl
  have Fpi := fun_mk (st := sPartInit) lpi cpi kpi
  have bpi := Fpi.binds (ps := ["self", "worths", "blocks"]) fun _ _ _ _ _ _ us hl => match us, hl with | [_, _, _], _ => rfl
  have Fwa := fun_mk (st := sWordsAt) lwa cwa kwa
  have bwa := Fwa.binds (ps := ["self", "depth"]) fun _ _ _ _ _ _ us hl => match us, hl with | [_, _], _ => rfl
  have Fbe := fun_mk (st := sBegins) lbe cbe kbe
  have bbe := Fbe.binds (ps := ["self", "depth", "word"]) fun _ _ _ _ _ _ us hl => match us, hl with | [_, _, _], _ => rfl
  have Fne := fun_mk (st := sNeed) lne cne kne
  have bne := Fne.binds (ps := ["self", "holds"]) fun _ _ _ _ _ _ us hl => match us, hl with | [_, _], _ => rfl
  have Frd := fun_mk (st := sRead) lrd crd krd
  have brd := Frd.binds (ps := ["self"]) fun _ _ _ _ _ _ us hl => match us, hl with | [_], _ => rfl
  have Frk := fun_mk (st := sKind) lrk crk krk
  have brk := Frk.binds (ps := ["self", "words"]) fun _ _ _ _ _ _ us hl => match us, hl with | [_, _], _ => rfl
  have Frf := fun_mk (st := sFields) lrf crf krf
  have brf := Frf.binds (ps := ["self"]) fun _ _ _ _ _ _ us hl => match us, hl with | [_], _ => rfl
  have Frp := fun_mk (st := sPart) lrp crp krp
  have brp := Frp.binds (ps := ["self"]) fun _ _ _ _ _ _ us hl => match us, hl with | [_], _ => rfl
  have Fpl := fun_mk (st := sPlaces) lpl cpl kpl
  have bpl := Fpl.binds (ps := ["self"]) fun _ _ _ _ _ _ us hl => match us, hl with | [_], _ => rfl
  have Frc := fun_mk (st := sCell) lrc crc krc
  have brc := Frc.binds (ps := ["self", "words"]) fun _ _ _ _ _ _ us hl => match us, hl with | [_, _], _ => rfl
  have Frb := fun_mk (st := sBlock) lrb crb krb
  have brb := Frb.binds (ps := ["self", "depth", "ifs"]) fun _ _ _ _ _ _ us hl => match us, hl with | [_, _, _], _ => rfl
  have Frs := fun_mk (st := sStm) lrs crs krs
  have brs := Frs.binds (ps := ["self", "words", "depth", "ifs"]) fun _ _ _ _ _ _ us hl => match us, hl with | [_, _, _, _], _ => rfl
  have Fri := fun_mk (st := sIf) lri cri kri
  have bri := Fri.binds (ps := ["self", "words", "depth", "ifs"]) fun _ _ _ _ _ _ us hl => match us, hl with | [_, _, _, _], _ => rfl
  have Fls := fun_mk (st := sLine) lls cls kls
  have bls := Fls.binds (ps := ["self", "words"]) fun _ _ _ _ _ _ us hl => match us, hl with | [_, _], _ => rfl
  have Fhs := fun_mk (st := sHead) lhs chs khs
  have bhs := Fhs.binds (ps := ["self", "words"]) fun _ _ _ _ _ _ us hl => match us, hl with | [_, _], _ => rfl
  have Fws := fun_mk (st := sWrite) lws cws kws
  have bws := Fws.binds (ps := ["self", "label", "kind", "tokens"]) fun _ _ _ _ _ _ us hl => match us, hl with | [_, _, _, _], _ => rfl
  have Fcw := fun_mk (st := sCellWorth) lcw ccw kcw
  have bcw := Fcw.binds (ps := ["self", "cell", "digit"]) fun _ _ _ _ _ _ us hl => match us, hl with | [_, _, _], _ => rfl
  have Frr := fun_mk (st := sRefOf) lrr crr krr
  have brr := Frr.binds (ps := ["self", "text"]) fun _ _ _ _ _ _ us hl => match us, hl with | [_, _], _ => rfl
  have Fgi := fun_mk (st := sPgInit) lgi cgi kgi
  have bgi := Fgi.binds (ps := ["self", "text"]) fun _ _ _ _ _ _ us hl => match us, hl with | [_, _], _ => rfl
  have Flc := fun_mk (st := sCaught) llc clc klc
  have blc := Flc.binds (ps := ["_law_text"]) fun _ _ _ _ _ _ us hl => match us, hl with | [_], _ => rfl
  have Fli := fun_mk (st := sLnInit) lli cli kli
  have bli := Fli.binds (ps := ["self", "lines"]) fun _ _ _ _ _ _ us hl => match us, hl with | [_, _], _ => rfl
  have oB : OexC K cB := ⟨⟨_, _, _, _, _, _, _, _, _, _, _, _, _, _, _, xB, rB⟩, saB, exB, tyB, kB⟩
  have T : RT K mg C cB fbi _ := ⟨PySem.W.mg_none_of X G zlen, PySem.W.mg_none_of X G ztuple, PySem.W.mg_none_of X G zint, PySem.W.mg_none_of X G zstr, PySem.W.mg_none_of X G zrange, PySem.W.mg_none_of X G zall, PySem.W.mg_none_of X G zisinstance, ⟨_, PySem.W.mg_of X G vBLANKS⟩, ⟨_, PySem.W.mg_of X G vMOST_LETTERS⟩, ⟨pgC, hdC, poC, saC⟩, nC_lines, nC_at, nC_kinds, nC_chains, nC_fields, nC_labels, nC_parts, nC_cells, nC_worths, nC_near, PySem.W.mg_of X G ncB, oB, abi, tbi, nlB, Fbi, bbi⟩
  have TC : RC mg := ⟨⟨_, PySem.W.mg_of X G vMOST_KINDS⟩, ⟨_, PySem.W.mg_of X G vMOST_KINDS_IN_ONE_ANOTHER⟩, ⟨_, PySem.W.mg_of X G vMOST_FIELDS⟩, ⟨_, PySem.W.mg_of X G vMOST_PASSES⟩, ⟨_, PySem.W.mg_of X G vMOST_CELLS⟩, ⟨_, PySem.W.mg_of X G vMOST_STATEMENTS⟩, ⟨_, PySem.W.mg_of X G vMOST_IFS_IN_ONE_ANOTHER⟩, ⟨_, PySem.W.mg_of X G vMOST_TOKENS⟩⟩
  have TW : RW K mg aW := ⟨PySem.W.mg_of X G nW, fun H => .inr ⟨_, _, _, lW, rfl, rfl, (by show 2 ≤ sizeLine; decide), .cons ⟨_, rfl⟩ (.cons ⟨_, rfl⟩ .nil)⟩⟩
  have TQ : RQ K mg cP fpi _ := ⟨⟨⟨pgcP, hdcP, pocP, sacP⟩, nP_worths, nP_blocks⟩, PySem.W.mg_of X G ncP, ⟨mkcP, api, ipi, kccP⟩, Fpi, bpi⟩
  have TS : SupX.Facts P K mg fru fli C C (nfRd clru cru) _ ["self", "text"] :=
    { fn := ⟨_, _, _, dcru, pmru, ctru, rfl, lru⟩, cd := cruF, cell := ⟨cc, _, _, _, xce, lce⟩, code := ⟨_, _, _, _, _, _, lco, vco, fco⟩, par := ⟨_, rfl, rfl⟩, clsD := by
        have z := sub
        unfold PySem.W.mroIn at z
        cases e : PySem.W.clsIn K C with
        | some c => exact ⟨c, rfl⟩
        | none => rw [e] at z; cases z
      sub := sub, mgS := PySem.W.mg_none_of X G zsu, top := by decide +kernel, glS := (show (defScope sRdInit).names.lookup ("super" : Str) = some .globalImplicit by decide +kernel), frC := (show (defScope sRdInit).names.lookup ("__class__" : Str) = some .free by decide +kernel), third := thi, meth := sln, ty := tln, fi := fln }
  have bru : Binds K (PySem.W.fnX "__init__" "ProgramReader.__init__" (defArgs sRdInit) (defBody sRdInit) (defScope sRdInit) clru .none .none dcru pmru none (.ref cru) ctru) ["self", "text"] [] := .all fun us hl => match us, hl with | [_, _], _ => rfl
  have TG : RG K mg C CP fru _ := ⟨⟨pgCP, hdCP, poCP, saCP⟩, nG_text, nG_kinds, nG_labels, nG_passes, nG_parts, PySem.W.mg_of X G nC, ⟨mkC, aru, iru, kcC⟩, bru⟩
  have TL : RL K mg CP cB cK fgi _ := ⟨PySem.W.mg_of X G nCP, ⟨mkCP, agi, igi, kcCP⟩, bgi, PySem.W.mg_of X G ncK, PySem.W.exm_ref exK hdK tyK sBK, ⟨gaB, ggB, exB, hdB, haB, hnB, htB, hmB⟩, ⟨gaB, ggB, exB, hdB⟩, nlB, kB1, kB2, PySem.W.mg_none_of X G zValueError⟩
  refine ⟨_, PySem.W.mg_of X G alc, klc, blc, fun base => ?_⟩
  have Gpa : DOk P w K mg base 1 "_parted" spParted := ⟨_, _, _, PySem.W.mg_of X G apa, kpa, ok_parted Fpa T, bpa⟩
  have Giw : DOk P w K mg base 1 "is_word" spWord := ⟨_, _, _, PySem.W.mg_of X G aiw, kiw, ok_word Fiw T, biw⟩
  have Gwa : MOk P w K mg base 1 C "words_at" (spWordsAt C) := ⟨_, _, _, ⟨awa, iwa, kwa⟩, ok_words_at Fwa T, bwa⟩
  have Gbe : MOk P w K mg base 2 C "begins" (spBegins C) := ⟨_, _, _, ⟨abe, ibe, kbe⟩, ok_begins Fbe T Gwa, bbe⟩
  have Gne : MOk P w K mg base 3 C "need" (spNeed C cB) := ⟨_, _, _, ⟨ane, ine, kne⟩, ok_need Fne T, bne⟩
  have Grr : MOk P w K mg base 4 C "ref_of" (spRefOf C cB) := ⟨_, _, _, ⟨arr, irr, krr⟩, ok_refOf Frr T Gne, brr⟩
  have Gcw : MOk P w K mg base 4 C "cell_worth" (spCellWorth C cB) := ⟨_, _, _, ⟨acw, icw, kcw⟩, ok_cellWorth Fcw T Gne, bcw⟩
  have Gws : MOk P w K mg base 5 C "write_statement" (spWrite C cB) := ⟨_, _, _, ⟨aws, iws, kws⟩, ok_write Fws T TC Gne Grr Giw, bws⟩
  have Gls : MOk P w K mg base 6 C "line_statement" (spLine C cB lineOk) := ⟨_, _, _, ⟨als, ils, kls⟩, ok_line Fls T Gne Gws, bls⟩
  have Ghs : MOk P w K mg base 6 C "head_statement" (spLine C cB headOk) := ⟨_, _, _, ⟨ahs, ihs, khs⟩, ok_head Fhs T Gne Gws, bhs⟩
  have Grbn : MOk P w K mg base 5 C "read_block" (spBelow C cB 0) := ⟨_, _, _, ⟨arb, irb, krb⟩, ok_none Frb, brb⟩
  have Gri0 : MOk P w K mg base 6 C "read_if" (spStm C cB 1 0 ifR) := ⟨_, _, _, ⟨ari, iri, kri⟩, ok_if (by decide) Fri T TC Gne Gwa Giw Gcw Grr Grbn, bri⟩
  have Grs0 : MOk P w K mg base 7 C "read_statement" (spStm C cB 1 0 stmM) := ⟨_, _, _, ⟨ars, irs, krs⟩, ok_stm (by decide) Frs T Gne Gls Ghs Gcw Gri0, brs⟩
  have Grb0 : MOk P w K mg base 8 C "read_block" (spBlock C cB 0) := ⟨_, _, _, ⟨arb, irb, krb⟩, ok_block (by decide) Frb T TC Gne Gwa Grs0, brb⟩
  have Gri1 : MOk P w K mg base 9 C "read_if" (spStm C cB 1 1 ifR) := ⟨_, _, _, ⟨ari, iri, kri⟩, ok_if (by decide) Fri T TC Gne Gwa Giw Gcw Grr Grb0, bri⟩
  have Grs1 : MOk P w K mg base 10 C "read_statement" (spStm C cB 1 1 stmM) := ⟨_, _, _, ⟨ars, irs, krs⟩, ok_stm (by decide) Frs T Gne Gls Ghs Gcw Gri1, brs⟩
  have Grb1 : MOk P w K mg base 11 C "read_block" (spBlock C cB 1) := ⟨_, _, _, ⟨arb, irb, krb⟩, ok_block (by decide) Frb T TC Gne Gwa Grs1, brb⟩
  have Gri2 : MOk P w K mg base 12 C "read_if" (spStm C cB 1 2 ifR) := ⟨_, _, _, ⟨ari, iri, kri⟩, ok_if (by decide) Fri T TC Gne Gwa Giw Gcw Grr Grb1, bri⟩
  have Grs2 : MOk P w K mg base 13 C "read_statement" (spStm C cB 1 2 stmM) := ⟨_, _, _, ⟨ars, irs, krs⟩, ok_stm (by decide) Frs T Gne Gls Ghs Gcw Gri2, brs⟩
  have Grb2 : MOk P w K mg base 14 C "read_block" (spBlock C cB 2) := ⟨_, _, _, ⟨arb, irb, krb⟩, ok_block (by decide) Frb T TC Gne Gwa Grs2, brb⟩
  have Grf : MOk P w K mg base 4 C "read_fields" (spFields C cB) := ⟨_, _, _, ⟨arf, irf, krf⟩, ok_fields Frf T TC Gne Gwa Giw, brf⟩
  have Grk : MOk P w K mg base 5 C "read_kind" (spKind C cB) := ⟨_, _, _, ⟨ark, irk, krk⟩, ok_kind Frk T TC Gne Grf Giw, brk⟩
  have Grc : MOk P w K mg base 4 C "read_cell" (spCell C cB) := ⟨_, _, _, ⟨arc, irc, krc⟩, ok_cell Frc T TC TW Gne Giw, brc⟩
  have Gpl : MOk P w K mg base 1 C "places" (spPlaces C) := ⟨_, _, _, ⟨apl, ipl, kpl⟩, ok_places Fpl T, bpl⟩
  have Grp : MOk P w K mg base 15 C "read_part" (spPart C cB) := ⟨_, _, _, ⟨arp, irp, krp⟩, ok_part (by decide) Frp T TQ Gbe Gwa Grc Gpl Grb2, brp⟩
  have Grd : MOk P w K mg base 16 C "read" (spRead C cB) := ⟨_, _, _, ⟨ard, ird, krd⟩, ok_read (by decide) Frd T TC Gbe Gwa Gne Grk Grp, brd⟩
  have GR : FnOk P w K mg base (L2.CX P w) 3 fru _ ["self", "text"] (spRdInit C) := ok_rdInit TS T (ok_lnInit Fli T Gpa) bli
  have GP : FnOk P w K mg base (L2.CX P w) 17 fgi _ ["self", "text"] (spPgInit K CP cB) := ok_pgInit (by decide) Fgi T TG GR Grd
  exact ok_caught Flc T TG TL GP
end K7

namespace K04
open PySem L2 Rf PyProof.Rows
abbrev PW : Program := PySem.Challenge.pw_handkept_k04_what_is_open_where
theorem all_mk {w : World} {K : PySem.W.Frag} {h : Heap} {mg : Str → Option Value} {fa : Addr} (X : K.In h) (G : h.Ns mainGlobals mg) (hfa : mg "law" = some (.ref fa)) {flc : Addr} (hC : ∃ fd : FuncData, mg "_law_caught" = some (.ref flc) ∧ PySem.W.keepIn K (.ref flc) = true ∧ Binds K fd ["_law_text"] [] ∧ ∀ base : Heap, FnOk PW w K mg base CX0 19 flc fd ["_law_text"] K7.spCaught)
    {f__law_pot f__law_take f__law_of f__law_names f__law_kinds f__law_open f__law_refs f__law_asking f__law_right f_law : Addr} {oc__law_pot kV__law_pot dc__law_pot pm__law_pot cd__law_pot ct__law_pot oc__law_take kV__law_take dc__law_take pm__law_take cd__law_take ct__law_take oc__law_of kV__law_of dc__law_of pm__law_of cd__law_of ct__law_of oc__law_names kV__law_names dc__law_names pm__law_names cd__law_names ct__law_names oc__law_kinds kV__law_kinds dc__law_kinds pm__law_kinds cd__law_kinds ct__law_kinds oc__law_open kV__law_open dc__law_open pm__law_open cd__law_open ct__law_open oc__law_refs kV__law_refs dc__law_refs pm__law_refs cd__law_refs ct__law_refs oc__law_asking kV__law_asking dc__law_asking pm__law_asking cd__law_asking ct__law_asking oc__law_right kV__law_right dc__law_right pm__law_right cd__law_right ct__law_right oc_law kV_law dc_law pm_law cd_law ct_law : Value} {od__law_pot an__law_pot od__law_take an__law_take od__law_of an__law_of od__law_names an__law_names od__law_kinds an__law_kinds od__law_open an__law_open od__law_refs an__law_refs od__law_asking an__law_asking od__law_right an__law_right od_law an_law : Option Addr} {sl__law_pot sl__law_take sl__law_of sl__law_names sl__law_kinds sl__law_open sl__law_refs sl__law_asking sl__law_right sl_law : Array (Option Value)}
    (a__law_pot : PySem.W.nsIn K mainGlobals "_law_pot" = some (some (.ref f__law_pot)))
    (l__law_pot : K.lookup f__law_pot = some ⟨oc__law_pot, od__law_pot, .func (PySem.W.fnOf "_law_pot" "_law_pot" (defArgs s__law_pot) (defBody s__law_pot) (defScope s__law_pot) .none kV__law_pot dc__law_pot pm__law_pot an__law_pot cd__law_pot ct__law_pot), sl__law_pot⟩)
    (c__law_pot : PySem.W.codeIn K cd__law_pot "_law_pot" = true)
    (k__law_pot : PySem.W.keepIn K (.ref f__law_pot) = true)
    (a__law_take : PySem.W.nsIn K mainGlobals "_law_take" = some (some (.ref f__law_take)))
    (l__law_take : K.lookup f__law_take = some ⟨oc__law_take, od__law_take, .func (PySem.W.fnOf "_law_take" "_law_take" (defArgs s__law_take) (defBody s__law_take) (defScope s__law_take) .none kV__law_take dc__law_take pm__law_take an__law_take cd__law_take ct__law_take), sl__law_take⟩)
    (c__law_take : PySem.W.codeIn K cd__law_take "_law_take" = true)
    (k__law_take : PySem.W.keepIn K (.ref f__law_take) = true)
    (a__law_of : PySem.W.nsIn K mainGlobals "_law_of" = some (some (.ref f__law_of)))
    (l__law_of : K.lookup f__law_of = some ⟨oc__law_of, od__law_of, .func (PySem.W.fnOf "_law_of" "_law_of" (defArgs s__law_of) (defBody s__law_of) (defScope s__law_of) .none kV__law_of dc__law_of pm__law_of an__law_of cd__law_of ct__law_of), sl__law_of⟩)
    (c__law_of : PySem.W.codeIn K cd__law_of "_law_of" = true)
    (k__law_of : PySem.W.keepIn K (.ref f__law_of) = true)
    (a__law_names : PySem.W.nsIn K mainGlobals "_law_names" = some (some (.ref f__law_names)))
    (l__law_names : K.lookup f__law_names = some ⟨oc__law_names, od__law_names, .func (PySem.W.fnOf "_law_names" "_law_names" (defArgs s__law_names) (defBody s__law_names) (defScope s__law_names) .none kV__law_names dc__law_names pm__law_names an__law_names cd__law_names ct__law_names), sl__law_names⟩)
    (c__law_names : PySem.W.codeIn K cd__law_names "_law_names" = true)
    (k__law_names : PySem.W.keepIn K (.ref f__law_names) = true)
    (a__law_kinds : PySem.W.nsIn K mainGlobals "_law_kinds" = some (some (.ref f__law_kinds)))
    (l__law_kinds : K.lookup f__law_kinds = some ⟨oc__law_kinds, od__law_kinds, .func (PySem.W.fnOf "_law_kinds" "_law_kinds" (defArgs s__law_kinds) (defBody s__law_kinds) (defScope s__law_kinds) .none kV__law_kinds dc__law_kinds pm__law_kinds an__law_kinds cd__law_kinds ct__law_kinds), sl__law_kinds⟩)
    (c__law_kinds : PySem.W.codeIn K cd__law_kinds "_law_kinds" = true)
    (k__law_kinds : PySem.W.keepIn K (.ref f__law_kinds) = true)
    (a__law_open : PySem.W.nsIn K mainGlobals "_law_open" = some (some (.ref f__law_open)))
    (l__law_open : K.lookup f__law_open = some ⟨oc__law_open, od__law_open, .func (PySem.W.fnOf "_law_open" "_law_open" (defArgs s__law_open) (defBody s__law_open) (defScope s__law_open) .none kV__law_open dc__law_open pm__law_open an__law_open cd__law_open ct__law_open), sl__law_open⟩)
    (c__law_open : PySem.W.codeIn K cd__law_open "_law_open" = true)
    (k__law_open : PySem.W.keepIn K (.ref f__law_open) = true)
    (a__law_refs : PySem.W.nsIn K mainGlobals "_law_refs" = some (some (.ref f__law_refs)))
    (l__law_refs : K.lookup f__law_refs = some ⟨oc__law_refs, od__law_refs, .func (PySem.W.fnOf "_law_refs" "_law_refs" (defArgs s__law_refs) (defBody s__law_refs) (defScope s__law_refs) .none kV__law_refs dc__law_refs pm__law_refs an__law_refs cd__law_refs ct__law_refs), sl__law_refs⟩)
    (c__law_refs : PySem.W.codeIn K cd__law_refs "_law_refs" = true)
    (k__law_refs : PySem.W.keepIn K (.ref f__law_refs) = true)
    (a__law_asking : PySem.W.nsIn K mainGlobals "_law_asking" = some (some (.ref f__law_asking)))
    (l__law_asking : K.lookup f__law_asking = some ⟨oc__law_asking, od__law_asking, .func (PySem.W.fnOf "_law_asking" "_law_asking" (defArgs s__law_asking) (defBody s__law_asking) (defScope s__law_asking) .none kV__law_asking dc__law_asking pm__law_asking an__law_asking cd__law_asking ct__law_asking), sl__law_asking⟩)
    (c__law_asking : PySem.W.codeIn K cd__law_asking "_law_asking" = true)
    (k__law_asking : PySem.W.keepIn K (.ref f__law_asking) = true)
    (a__law_right : PySem.W.nsIn K mainGlobals "_law_right" = some (some (.ref f__law_right)))
    (l__law_right : K.lookup f__law_right = some ⟨oc__law_right, od__law_right, .func (PySem.W.fnOf "_law_right" "_law_right" (defArgs s__law_right) (defBody s__law_right) (defScope s__law_right) .none kV__law_right dc__law_right pm__law_right an__law_right cd__law_right ct__law_right), sl__law_right⟩)
    (c__law_right : PySem.W.codeIn K cd__law_right "_law_right" = true)
    (k__law_right : PySem.W.keepIn K (.ref f__law_right) = true)
    (a_law : PySem.W.nsIn K mainGlobals "law" = some (some (.ref f_law)))
    (l_law : K.lookup f_law = some ⟨oc_law, od_law, .func (PySem.W.fnOf "law" "law" (defArgs s_law) (defBody s_law) (defScope s_law) .none kV_law dc_law pm_law an_law cd_law ct_law), sl_law⟩)
    (c_law : PySem.W.codeIn K cd_law "law" = true)
    (k_law : PySem.W.keepIn K (.ref f_law) = true)
    (z_abs : PySem.W.nsIn K mainGlobals "abs" = some none)
    (z_all : PySem.W.nsIn K mainGlobals "all" = some none)
    (z_bool : PySem.W.nsIn K mainGlobals "bool" = some none)
    (z_int : PySem.W.nsIn K mainGlobals "int" = some none)
    (z_isinstance : PySem.W.nsIn K mainGlobals "isinstance" = some none)
    (z_len : PySem.W.nsIn K mainGlobals "len" = some none)
    (z_max : PySem.W.nsIn K mainGlobals "max" = some none)
    (z_min : PySem.W.nsIn K mainGlobals "min" = some none)
    (z_range : PySem.W.nsIn K mainGlobals "range" = some none)
    (z_tuple : PySem.W.nsIn K mainGlobals "tuple" = some none)
    : ∃ fd : FuncData, (∀ (s : Shared) (v : Value), BindsTo s fd ⟨[v], []⟩ [("_law_script", v)]) ∧ ∀ base : Heap, K.In base → base.Ns mainGlobals mg → SysD base → FnG PW w K mg base 25 fa fd ["_law_script"] (spM ⟨K, w, fun _ => none⟩ 1 (runF 25 10)) := by
  have e := hfa.symm.trans (PySem.W.mg_of X G a_law)
  cases e
  have T : Facts mg := ⟨PySem.W.mg_none_of X G z_abs, PySem.W.mg_none_of X G z_all, PySem.W.mg_none_of X G z_bool, PySem.W.mg_none_of X G z_int, PySem.W.mg_none_of X G z_isinstance, PySem.W.mg_none_of X G z_len, PySem.W.mg_none_of X G z_max, PySem.W.mg_none_of X G z_min, PySem.W.mg_none_of X G z_range, PySem.W.mg_none_of X G z_tuple⟩
  have F__law_pot := fun_mk (st := s__law_pot) l__law_pot c__law_pot k__law_pot
  have F__law_take := fun_mk (st := s__law_take) l__law_take c__law_take k__law_take
  have F__law_of := fun_mk (st := s__law_of) l__law_of c__law_of k__law_of
  have F__law_names := fun_mk (st := s__law_names) l__law_names c__law_names k__law_names
  have F__law_kinds := fun_mk (st := s__law_kinds) l__law_kinds c__law_kinds k__law_kinds
  have F__law_open := fun_mk (st := s__law_open) l__law_open c__law_open k__law_open
  have F__law_refs := fun_mk (st := s__law_refs) l__law_refs c__law_refs k__law_refs
  have F__law_asking := fun_mk (st := s__law_asking) l__law_asking c__law_asking k__law_asking
  have F__law_right := fun_mk (st := s__law_right) l__law_right c__law_right k__law_right
  have F_law := fun_mk (st := s_law) l_law c_law k_law
  have DD : Ds K mg := ⟨⟨_, _, PySem.W.mg_of X G a__law_pot, F__law_pot⟩, ⟨_, _, PySem.W.mg_of X G a__law_take, F__law_take⟩, ⟨_, _, PySem.W.mg_of X G a__law_of, F__law_of⟩, ⟨_, _, PySem.W.mg_of X G a__law_names, F__law_names⟩, ⟨_, _, PySem.W.mg_of X G a__law_kinds, F__law_kinds⟩, ⟨_, _, PySem.W.mg_of X G a__law_open, F__law_open⟩, ⟨_, _, PySem.W.mg_of X G a__law_refs, F__law_refs⟩, ⟨_, _, PySem.W.mg_of X G a__law_asking, F__law_asking⟩, ⟨_, _, PySem.W.mg_of X G a__law_right, F__law_right⟩, ⟨_, _, PySem.W.mg_of X G a_law, F_law⟩⟩
  obtain ⟨fdC, hC1, hC2, hC3, hC4⟩ := hC
  have XC : ∀ (base : Heap) (k : Nat), DefG PW w K mg base ⟨K, w, fun _ => none⟩ k "_law_caught" 1 (extM 19 caughtM k) := fun base k => ⟨_, _, _, hC1, hC2, ext_ok rfl (FnG.of (hC4 base) rfl fun _ _ _ z => caught_sp z) k, hC3⟩
  refine ⟨_, fun s v => ?_, fun base _ _ sm => fnG_of F_law sc_law rfl rfl rfl sm fun cdv A outer s H hr o => p_law T (all_ok (P := PW) (w := w) (K := K) (Y := ⟨K, w, fun _ => none⟩) rfl rfl sm T DD (XC base) 24) hr o⟩
  exact .of_eq rfl

theorem walk {l : PySem.W.OpenLaw} {q : Program} {loose : List Str} {XP : (Str → Option Value) → Heap → Prop} {YP : World → Heap → Prop} {d : DefRec} {K : Params → PySem.W.Frag} (hn : l.most = some 63) (hdf : d.params.defaults = []) (hi : importsNone q = true)
    (hY : ∀ (w : World) (h : Heap), YP w h → (K w.params).In h)
    (F : ∀ (w : World) (mg : Str → Option Value) (fa : Addr) (h : Heap), (K w.params).In h → h.Ns mainGlobals mg → mg d.name = some (.ref fa) →
      ∃ fd : FuncData, (∀ (s : Shared) (u : Value), BindsTo s fd ⟨[u], []⟩ [("_law_script", u)]) ∧ ∀ base : Heap, (K w.params).In base → base.Ns mainGlobals mg → SysD base → FnG l.prog w (K w.params) mg base 25 fa fd ["_law_script"] (spM ⟨K w.params, w, fun _ => none⟩ 1 (runF 25 10))) :
    PySem.W.WalkO q loose XP YP l.row.toRowW d [] (fun f vs => PySem.call f vs) :=
  walkG (n := 63) (k := 25) (x := "_law_script") (sp := fun w => spM ⟨K w.params, w, fun _ => none⟩ 1 (runF 25 10)) hn (by decide) hdf ⟨rfl, by decide, by decide⟩ hi hY F fun w H a ns hl _ hS => by
    obtain ⟨F, st, rd⟩ := script_rp (Y := ⟨K w.params, w, fun _ => none⟩) hS
    obtain ⟨S', e⟩ := law_ok (S := []) hl
    refine ⟨F, [], [], [.fro (ns.map D.int)], st, rd, rfl, ?_⟩
    have e : runF 25 10 [.fro (ns.map D.int)] [] = .ok (.bl true) S' := e
    rw [e]
    intro as' F' H' v _ _ r
    cases r
    rfl
end K04
open PySem PySem.W PyProof.Rows
set_option maxHeartbeats 0 in
theorem PySem.Challenge.cw_handkept_k04_what_is_open_where_holds : PySem.Challenge.rw_handkept_k04_what_is_open_where.Holds := by
  w_on; o_law; k_head; (case hw => w_witness2)
  k_fill
  refine K04.walk (l := PySem.Challenge.rw_handkept_k04_what_is_open_where) rfl rfl (by decide +kernel) (fun w h Y => PySem.W.kIn_of Y) ?F
  case F =>
    intro w mg fa h KX G hmg
    refine' K04.all_mk KX G hmg ?hC ?a__law_pot ?l__law_pot ?c__law_pot ?k__law_pot ?a__law_take ?l__law_take ?c__law_take ?k__law_take ?a__law_of ?l__law_of ?c__law_of ?k__law_of ?a__law_names ?l__law_names ?c__law_names ?k__law_names ?a__law_kinds ?l__law_kinds ?c__law_kinds ?k__law_kinds ?a__law_open ?l__law_open ?c__law_open ?k__law_open ?a__law_refs ?l__law_refs ?c__law_refs ?k__law_refs ?a__law_asking ?l__law_asking ?c__law_asking ?k__law_asking ?a__law_right ?l__law_right ?c__law_right ?k__law_right ?a_law ?l_law ?c_law ?k_law ?z_abs ?z_all ?z_bool ?z_int ?z_isinstance ?z_len ?z_max ?z_min ?z_range ?z_tuple
    case hC =>
      refine' K7.caught_mk KX G ?nC ?nCP ?ncP ?ncB ?ncK ?abi ?ibi ?lbi ?cbi ?kbi ?apa ?lpa ?cpa ?kpa ?aiw ?liw ?ciw ?kiw ?api ?ipi ?lpi ?cpi ?kpi ?awa ?iwa ?lwa ?cwa ?kwa ?abe ?ibe ?lbe ?cbe ?kbe ?ane ?ine ?lne ?cne ?kne ?ard ?ird ?lrd ?crd ?krd ?ark ?irk ?lrk ?crk ?krk ?arf ?irf ?lrf ?crf ?krf ?arp ?irp ?lrp ?crp ?krp ?apl ?ipl ?lpl ?cpl ?kpl ?arc ?irc ?lrc ?crc ?krc ?arb ?irb ?lrb ?crb ?krb ?ars ?irs ?lrs ?crs ?krs ?ari ?iri ?lri ?cri ?kri ?als ?ils ?lls ?cls ?kls ?ahs ?ihs ?lhs ?chs ?khs ?aws ?iws ?lws ?cws ?kws ?acw ?icw ?lcw ?ccw ?kcw ?arr ?irr ?lrr ?crr ?krr ?agi ?igi ?lgi ?cgi ?kgi ?alc ?llc ?clc ?klc ?aru ?iru ?lru ?cruF ?sln ?tln ?fln ?lli ?cli ?kli ?xce ?lce ?lco ?vco ?fco ?sub ?zsu ?thi ?zlen ?ztuple ?zint ?zstr ?zrange ?zall ?zisinstance ?zValueError ?vBLANKS ?vMOST_LETTERS ?vMOST_KINDS ?vMOST_KINDS_IN_ONE_ANOTHER ?vMOST_FIELDS ?vMOST_PASSES ?vMOST_CELLS ?vMOST_STATEMENTS ?vMOST_IFS_IN_ONE_ANOTHER ?vMOST_TOKENS ?nW ?lW ?pgC ?hdC ?poC ?saC ?mkC ?kcC ?pgcP ?hdcP ?pocP ?sacP ?mkcP ?kccP ?pgCP ?hdCP ?poCP ?saCP ?mkCP ?kcCP ?nC_lines ?nC_at ?nC_kinds ?nC_chains ?nC_fields ?nC_labels ?nC_parts ?nC_cells ?nC_worths ?nC_near ?nP_worths ?nP_blocks ?nG_text ?nG_kinds ?nG_labels ?nG_passes ?nG_parts ?xB ?rB ?saB ?exB ?tyB ?kB ?tbi ?nlB ?gaB ?ggB ?hdB ?haB ?hnB ?htB ?hmB ?exK ?hdK ?tyK ?sBK ?kB1 ?kB2
      (case nC => first | k_is | rfl)
      (case nCP => first | k_is | rfl)
      (case ncP => first | k_is | rfl)
      (case ncB => first | k_is | rfl)
      (case ncK => first | k_is | rfl)
      (case abi => first | k_is | rfl)
      (case ibi => first | k_is | rfl)
      (case lbi => first | k_is | rfl)
      (case cbi => first | k_is | rfl)
      (case kbi => first | k_is | rfl)
      (case apa => first | k_is | rfl)
      (case lpa => first | k_is | rfl)
      (case cpa => first | k_is | rfl)
      (case kpa => first | k_is | rfl)
      (case aiw => first | k_is | rfl)
      (case liw => first | k_is | rfl)
      (case ciw => first | k_is | rfl)
      (case kiw => first | k_is | rfl)
      (case api => first | k_is | rfl)
      (case ipi => first | k_is | rfl)
      (case lpi => first | k_is | rfl)
      (case cpi => first | k_is | rfl)
      (case kpi => first | k_is | rfl)
      (case awa => first | k_is | rfl)
      (case iwa => first | k_is | rfl)
      (case lwa => first | k_is | rfl)
      (case cwa => first | k_is | rfl)
      (case kwa => first | k_is | rfl)
      (case abe => first | k_is | rfl)
      (case ibe => first | k_is | rfl)
      (case lbe => first | k_is | rfl)
      (case cbe => first | k_is | rfl)
      (case kbe => first | k_is | rfl)
      (case ane => first | k_is | rfl)
      (case ine => first | k_is | rfl)
      (case lne => first | k_is | rfl)
      (case cne => first | k_is | rfl)
      (case kne => first | k_is | rfl)
      (case ard => first | k_is | rfl)
      (case ird => first | k_is | rfl)
      (case lrd => first | k_is | rfl)
      (case crd => first | k_is | rfl)
      (case krd => first | k_is | rfl)
      (case ark => first | k_is | rfl)
      (case irk => first | k_is | rfl)
      (case lrk => first | k_is | rfl)
      (case crk => first | k_is | rfl)
      (case krk => first | k_is | rfl)
      (case arf => first | k_is | rfl)
      (case irf => first | k_is | rfl)
      (case lrf => first | k_is | rfl)
      (case crf => first | k_is | rfl)
      (case krf => first | k_is | rfl)
      (case arp => first | k_is | rfl)
      (case irp => first | k_is | rfl)
      (case lrp => first | k_is | rfl)
      (case crp => first | k_is | rfl)
      (case krp => first | k_is | rfl)
      (case apl => first | k_is | rfl)
      (case ipl => first | k_is | rfl)
      (case lpl => first | k_is | rfl)
      (case cpl => first | k_is | rfl)
      (case kpl => first | k_is | rfl)
      (case arc => first | k_is | rfl)
      (case irc => first | k_is | rfl)
      (case lrc => first | k_is | rfl)
      (case crc => first | k_is | rfl)
      (case krc => first | k_is | rfl)
      (case arb => first | k_is | rfl)
      (case irb => first | k_is | rfl)
      (case lrb => first | k_is | rfl)
      (case crb => first | k_is | rfl)
      (case krb => first | k_is | rfl)
      (case ars => first | k_is | rfl)
      (case irs => first | k_is | rfl)
      (case lrs => first | k_is | rfl)
      (case crs => first | k_is | rfl)
      (case krs => first | k_is | rfl)
      (case ari => first | k_is | rfl)
      (case iri => first | k_is | rfl)
      (case lri => first | k_is | rfl)
      (case cri => first | k_is | rfl)
      (case kri => first | k_is | rfl)
      (case als => first | k_is | rfl)
      (case ils => first | k_is | rfl)
      (case lls => first | k_is | rfl)
      (case cls => first | k_is | rfl)
      (case kls => first | k_is | rfl)
      (case ahs => first | k_is | rfl)
      (case ihs => first | k_is | rfl)
      (case lhs => first | k_is | rfl)
      (case chs => first | k_is | rfl)
      (case khs => first | k_is | rfl)
      (case aws => first | k_is | rfl)
      (case iws => first | k_is | rfl)
      (case lws => first | k_is | rfl)
      (case cws => first | k_is | rfl)
      (case kws => first | k_is | rfl)
      (case acw => first | k_is | rfl)
      (case icw => first | k_is | rfl)
      (case lcw => first | k_is | rfl)
      (case ccw => first | k_is | rfl)
      (case kcw => first | k_is | rfl)
      (case arr => first | k_is | rfl)
      (case irr => first | k_is | rfl)
      (case lrr => first | k_is | rfl)
      (case crr => first | k_is | rfl)
      (case krr => first | k_is | rfl)
      (case agi => first | k_is | rfl)
      (case igi => first | k_is | rfl)
      (case lgi => first | k_is | rfl)
      (case cgi => first | k_is | rfl)
      (case kgi => first | k_is | rfl)
      (case alc => first | k_is | rfl)
      (case llc => first | k_is | rfl)
      (case clc => first | k_is | rfl)
      (case klc => first | k_is | rfl)
      (case aru => first | k_is | rfl)
      (case iru => first | k_is | rfl)
      (case lru => first | k_is | rfl)
      (case cruF => first | k_is | rfl)
      (case sln => first | k_is | rfl)
      (case tln => first | k_is | rfl)
      (case fln => first | k_is | rfl)
      (case lli => first | k_is | rfl)
      (case cli => first | k_is | rfl)
      (case kli => first | k_is | rfl)
      (case xce => first | k_is | rfl)
      (case lce => first | k_is | rfl)
      (case lco => first | k_is | rfl)
      (case vco => first | k_is | rfl)
      (case fco => first | k_is | rfl)
      (case sub => first | k_is | rfl)
      (case zsu => first | k_is | rfl)
      (case thi => first | k_is | rfl)
      (case zlen => first | k_is | rfl)
      (case ztuple => first | k_is | rfl)
      (case zint => first | k_is | rfl)
      (case zstr => first | k_is | rfl)
      (case zrange => first | k_is | rfl)
      (case zall => first | k_is | rfl)
      (case zisinstance => first | k_is | rfl)
      (case zValueError => first | k_is | rfl)
      (case vBLANKS => first | k_is | rfl)
      (case vMOST_LETTERS => first | k_is | rfl)
      (case vMOST_KINDS => first | k_is | rfl)
      (case vMOST_KINDS_IN_ONE_ANOTHER => first | k_is | rfl)
      (case vMOST_FIELDS => first | k_is | rfl)
      (case vMOST_PASSES => first | k_is | rfl)
      (case vMOST_CELLS => first | k_is | rfl)
      (case vMOST_STATEMENTS => first | k_is | rfl)
      (case vMOST_IFS_IN_ONE_ANOTHER => first | k_is | rfl)
      (case vMOST_TOKENS => first | k_is | rfl)
      (case nW => first | k_is | rfl)
      (case lW => first | k_is | rfl)
      (case pgC => first | k_is | rfl)
      (case hdC => first | k_is | rfl)
      (case poC => first | k_is | rfl)
      (case saC => first | k_is | rfl)
      (case mkC => first | k_is | rfl)
      (case kcC => first | k_is | rfl)
      (case pgcP => first | k_is | rfl)
      (case hdcP => first | k_is | rfl)
      (case pocP => first | k_is | rfl)
      (case sacP => first | k_is | rfl)
      (case mkcP => first | k_is | rfl)
      (case kccP => first | k_is | rfl)
      (case pgCP => first | k_is | rfl)
      (case hdCP => first | k_is | rfl)
      (case poCP => first | k_is | rfl)
      (case saCP => first | k_is | rfl)
      (case mkCP => first | k_is | rfl)
      (case kcCP => first | k_is | rfl)
      (case nC_lines => first | k_is | rfl)
      (case nC_at => first | k_is | rfl)
      (case nC_kinds => first | k_is | rfl)
      (case nC_chains => first | k_is | rfl)
      (case nC_fields => first | k_is | rfl)
      (case nC_labels => first | k_is | rfl)
      (case nC_parts => first | k_is | rfl)
      (case nC_cells => first | k_is | rfl)
      (case nC_worths => first | k_is | rfl)
      (case nC_near => first | k_is | rfl)
      (case nP_worths => first | k_is | rfl)
      (case nP_blocks => first | k_is | rfl)
      (case nG_text => first | k_is | rfl)
      (case nG_kinds => first | k_is | rfl)
      (case nG_labels => first | k_is | rfl)
      (case nG_passes => first | k_is | rfl)
      (case nG_parts => first | k_is | rfl)
      (case xB => first | k_is | rfl)
      (case rB => first | k_is | rfl)
      (case saB => first | k_is | rfl)
      (case exB => first | k_is | rfl)
      (case tyB => first | k_is | rfl)
      (case kB => first | k_is | rfl)
      (case tbi => first | k_is | rfl)
      (case nlB => first | k_is | rfl)
      (case gaB => first | k_is | rfl)
      (case ggB => first | k_is | rfl)
      (case hdB => first | k_is | rfl)
      (case haB => first | k_is | rfl)
      (case hnB => first | k_is | rfl)
      (case htB => first | k_is | rfl)
      (case hmB => first | k_is | rfl)
      (case exK => first | k_is | rfl)
      (case hdK => first | k_is | rfl)
      (case tyK => first | k_is | rfl)
      (case sBK => first | k_is | rfl)
      (case kB1 => first | k_is | rfl)
      (case kB2 => first | k_is | rfl)
    (case a__law_pot => first | k_is | rfl)
    (case l__law_pot => first | k_is | rfl)
    (case c__law_pot => first | k_is | rfl)
    (case k__law_pot => first | k_is | rfl)
    (case a__law_take => first | k_is | rfl)
    (case l__law_take => first | k_is | rfl)
    (case c__law_take => first | k_is | rfl)
    (case k__law_take => first | k_is | rfl)
    (case a__law_of => first | k_is | rfl)
    (case l__law_of => first | k_is | rfl)
    (case c__law_of => first | k_is | rfl)
    (case k__law_of => first | k_is | rfl)
    (case a__law_names => first | k_is | rfl)
    (case l__law_names => first | k_is | rfl)
    (case c__law_names => first | k_is | rfl)
    (case k__law_names => first | k_is | rfl)
    (case a__law_kinds => first | k_is | rfl)
    (case l__law_kinds => first | k_is | rfl)
    (case c__law_kinds => first | k_is | rfl)
    (case k__law_kinds => first | k_is | rfl)
    (case a__law_open => first | k_is | rfl)
    (case l__law_open => first | k_is | rfl)
    (case c__law_open => first | k_is | rfl)
    (case k__law_open => first | k_is | rfl)
    (case a__law_refs => first | k_is | rfl)
    (case l__law_refs => first | k_is | rfl)
    (case c__law_refs => first | k_is | rfl)
    (case k__law_refs => first | k_is | rfl)
    (case a__law_asking => first | k_is | rfl)
    (case l__law_asking => first | k_is | rfl)
    (case c__law_asking => first | k_is | rfl)
    (case k__law_asking => first | k_is | rfl)
    (case a__law_right => first | k_is | rfl)
    (case l__law_right => first | k_is | rfl)
    (case c__law_right => first | k_is | rfl)
    (case k__law_right => first | k_is | rfl)
    (case a_law => first | k_is | rfl)
    (case l_law => first | k_is | rfl)
    (case c_law => first | k_is | rfl)
    (case k_law => first | k_is | rfl)
    (case z_abs => first | k_is | rfl)
    (case z_all => first | k_is | rfl)
    (case z_bool => first | k_is | rfl)
    (case z_int => first | k_is | rfl)
    (case z_isinstance => first | k_is | rfl)
    (case z_len => first | k_is | rfl)
    (case z_max => first | k_is | rfl)
    (case z_min => first | k_is | rfl)
    (case z_range => first | k_is | rfl)
    (case z_tuple => first | k_is | rfl)

